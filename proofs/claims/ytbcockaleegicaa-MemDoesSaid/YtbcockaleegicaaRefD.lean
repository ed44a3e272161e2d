/-
  The document's own memory: Alloc, Free. Conditions: it lies in the heap.
-/
import Derived.Test.YtbcockaleegicaaRefC
import Derived.Deep.DeepCutAuto
import Derived.Deep.CutBlock
namespace Go.Proofs.Ytbcockaleegicaa
open Go.RowKit

theorem grown_other {w w' : World} {base e size n : Nat} {v : Value} {xs : List Value} (h : w.ownsRow base e size v n xs) (hg : w.grownBy w' v.ownBlock) {b : Nat} {c : Array Value} {t : TypeId} {f : Nat × Nat} (hb : w.heap[b]? = some (.cells c t f)) (ht : t ≠ e) : w'.heap[b]? = some (.cells c t f) := by
  rw [hg.block b (Array.getElem?_eq_some_iff.1 hb).1 ?_]
  · exact hb
  · rcases h.2 with ⟨rfl, _⟩ | ⟨g, cap, cur, rfl, hbb, hgg, _⟩
    · simp [Value.ownBlock]
    · simp only [Value.ownBlock, ne_eq, Option.some.injEq]
      rintro rfl
      rw [hb] at hgg
      simp only [Option.some.injEq, Obj.cells.injEq] at hgg
      exact ht hgg.2.1
theorem row_other {w w' : World} {base e size n : Nat} {v : Value} {xs : List Value} (h : w.ownsRow base e size v n xs) (hg : w.grownBy w' v.ownBlock) {base2 e2 size2 n2 : Nat} {v2 : Value} {xs2 : List Value} (h2 : w.ownsRow base2 e2 size2 v2 n2 xs2) (ht : e2 ≠ e) : w'.ownsRow base2 e2 size2 v2 n2 xs2 := by
  refine ⟨h2.1, ?_⟩
  rcases h2.2 with hn | ⟨g, cap, cur, rfl, hbb, hgg, rest⟩
  · exact .inl hn
  · exact .inr ⟨g, cap, cur, rfl, hbb, grown_other h hg hgg ht, rest⟩

def RS.allocR (r : RS) (n : Int) : (Wd × Int) × RS :=
  if n < 0 then ((z3, 1), r) else if r.room - r.words < n then ((z3, 10), r) else ((⟨true, (r.bs.length : Int) + 1, 0⟩, 0), ⟨r.room, r.bs ++ [(n.toNat, false)], r.cs⟩)
def RS.freeR (r : RS) (b : Bool) (a n : Int) : Int × RS :=
  if r.check b a ≠ 0 then (r.check b a, r) else if n ≠ 0 then (13, r) else (0, ⟨r.room, r.bs.set (a - 1).toNat (r.size a, true), r.cs⟩)

section
variable {B : Nat} {w : World} {rb : Nat} {r : RS} {vb vc : Value}

theorem RTurned.of {w1 w2 : World} {r' : RS} {vb' vc' : Value} (h : Below w.heap.size w w1) (R : RefAt B w2 rb r' vb' vc') (k : RKept B w1 w2) : RTurned B w w2 rb r' := ⟨⟨_, _, R⟩, (RKept.of_below h).trans k⟩

theorem box3_below {w w1 : World} {u v x : Value} (hb : Below w.heap.size w w1) : Below w.heap.size w (((w1.setCell ⟨w.heap.size, 0, none⟩ u).setCell ⟨w.heap.size, 1, none⟩ v).setCell ⟨w.heap.size, 2, none⟩ x) := ((hb.setCell (Nat.le_refl _) _).setCell (Nat.le_refl _) _).setCell (Nat.le_refl _) _

theorem RKept.fresh {w' : World} (h : RKept B w w') {a : Addr} (ha : w.heap.size ≤ a.block) (v : Value) : RKept B w (w'.setCell a v) :=
  ⟨h.os, h.tape, h.output, by simpa [World.setCell] using h.size, fun b hb hc => (Below.heap_setCell _ _ _ _ (by omega)).trans (h.block b hb hc)⟩
theorem RefAt.box (R : RefAt B w rb r vb vc) {a : Addr} {c : Array Value} {f : Nat × Nat} (ha : w.heap[a.block]? = some (.cells c 30 f)) (v : Value) : RefAt B (w.setCell a v) rb r vb vc :=
  ⟨(Below.heap_setCell _ _ _ _ fun e => by have := R.obj; rw [e, ha] at this; simp at this).trans R.obj, R.base, R.room0, R.room1, row_setCell R.blocks ha (by decide) _, row_setCell R.cells ha (by decide) _, R.lenb, R.lenc, R.words⟩

set_option maxHeartbeats 1000000 in
theorem ralloc_neg (w : World) (rb : Nat) (n : Int) (hn : n < 0) :
    Calls Try.prog 16 #[.pointer (some ⟨rb, 0, none⟩), .int .i64 n] w fun e w' => e = .returned (.tuple #[.agg #[.bool false, .int .i64 0, .int .i64 0], .int .i64 1]) ∧ Below w.heap.size w w' := by
  have t1 : decide (n < 0) = true := by simpa using hn
  clear hn
  go_enter Try.func16, Try.ntmps16
  go_wp2
  have hb := Below.refl (w.alloc (.cells #[.bool false, .int .i64 0, .int .i64 0] 30)).heap.size (w.alloc (.cells #[.bool false, .int .i64 0, .int .i64 0] 30))
  have r0 := box_cell hb 0 (.bool false) rfl
  have r1 := box_cell hb 1 (.int .i64 0) rfl
  have r2 := box_cell hb 2 (.int .i64 0) rfl
  refine bodyPost_ret (v := .tuple #[.agg #[.bool false, .int .i64 0, .int .i64 0], .int .i64 1]) (by simp [results, Try.results16, go_sem, r0, r1, r2]) rfl ⟨rfl, ?_⟩
  exact box_below hb

set_option maxHeartbeats 1000000 in
theorem ralloc_room (R : RefAt B w rb r vb vc) (n : Int) (hn : ¬ n < 0) (hr : r.room - r.words < n) :
    Calls Try.prog 16 #[.pointer (some ⟨rb, 0, none⟩), .int .i64 n] w fun e w' => e = .returned (.tuple #[.agg #[.bool false, .int .i64 0, .int .i64 0], .int .i64 10]) ∧ Below w.heap.size w w' := by
  have t1 : decide (n < 0) = false := by simpa using hn
  have t2 : decide (r.room - r.words < n) = true := by simpa using hr
  have i1 := R.words
  have i2 := R.room1
  have i3 := R.room0
  clear hr hn
  go_enter Try.func16, Try.ntmps16
  go_wp2
  have R1 := R.alloc (.cells #[.bool false, .int .i64 0, .int .i64 0] 30)
  obtain ⟨o0, o1, o2⟩ := R1.objs
  have hlt := R1.lt
  go_quiet (first | (go_at_call 30; refine Calls.quiet_of_same ((rwords_any (R1.below (below_drewN (Below.refl _ _) _))).mono fun e w' h => ⟨h.1, h.2.symm⟩)))
  go_wp2
  have hb := below_drewN (Below.refl (w.alloc (.cells #[.bool false, .int .i64 0, .int .i64 0] 30)).heap.size (w.alloc (.cells #[.bool false, .int .i64 0, .int .i64 0] 30))) nq
  have r0 := box_cell hb 0 (.bool false) rfl
  have r1 := box_cell hb 1 (.int .i64 0) rfl
  have r2 := box_cell hb 2 (.int .i64 0) rfl
  refine bodyPost_ret (v := .tuple #[.agg #[.bool false, .int .i64 0, .int .i64 0], .int .i64 10]) (by simp [results, Try.results16, go_sem, r0, r1, r2]) rfl ⟨rfl, ?_⟩
  exact box3_below (box_below hb)

theorem words_push' (r : RS) (n : Nat) : (⟨r.room, r.bs ++ [(n, false)], r.cs⟩ : RS).words = r.words + n := by
  show ((r.bs ++ [(n, false)]).map _).sum = _
  rw [List.map_append, List.sum_append]
  rfl

set_option maxHeartbeats 1000000 in
theorem ralloc_ok (R : RefAt B w rb r vb vc) (n : Nat) (hr : (n : Int) ≤ r.room - r.words) (hmade : r.bs.length + 1 < 1000) :
    Calls Try.prog 16 #[.pointer (some ⟨rb, 0, none⟩), .int .i64 n] w fun e w' => e = .returned (.tuple #[.agg #[.bool true, .int .i64 ((r.bs.length : Int) + 1), .int .i64 0], .int .i64 0]) ∧ RTurned B w w' rb ⟨r.room, r.bs ++ [(n, false)], r.cs⟩ := by
  have t2 : decide (r.room - r.words < n) = false := by simp; omega
  have i1 := R.words
  have i2 := R.room1
  have i3 := R.room0
  have t1 : decide ((n : Int) < 0) = false := by simp
  obtain ⟨i48, hi48, hz48, hs48, hb48⟩ := info_parts info48
  go_enter Try.func16, Try.ntmps16
  go_wp2
  have R1 := R.alloc (.cells #[.bool false, .int .i64 0, .int .i64 0] 30)
  obtain ⟨o0, o1, o2⟩ := R1.objs
  have hlt := R1.lt
  go_quiet (first | (go_at_call 30; refine Calls.quiet_of_same ((rwords_any (R1.below (below_drewN (Below.refl _ _) _))).mono fun e w' h => ⟨h.1, h.2.symm⟩)))
  go_upto_region 5 with fail
  have hb := below_drewN (Below.refl (w.alloc (.cells #[.bool false, .int .i64 0, .int .i64 0] 30)).heap.size (w.alloc (.cells #[.bool false, .int .i64 0, .int .i64 0] 30))) nq
  have hbx := heap_alloc_new w (.cells #[.bool false, .int .i64 0, .int .i64 0] 30)
  have hbs := hb.size
  have hbb := box_below hb
  replace hbx := (hb.block w.heap.size (by simp)).trans hbx
  replace R1 := R1.below hb
  generalize (w.alloc (Obj.cells #[Value.bool false, Value.int IntKind.i64 0, Value.int IntKind.i64 0] 30)).drewN nq = w1 at hb hbx hbs hbb R1 ⊢
  clear o0 o1 o2 hlt hb
  obtain ⟨o0, o1, o2⟩ := R1.objs
  obtain ⟨fr, hfr⟩ : ∃ fr, fr = r.bs.length := ⟨_, rfl⟩
  have hB := R.base
  have hlt := R1.lt
  have hsz : w.heap.size < w1.heap.size := by simp at hbs; omega
  go_wp2_with (at_builtin; refine wpList_append_own _ rfl (.tmp 23) (.tmp 26) 43 rfl B 48 i48 _ 2 16 Try.underlying43 hi48 hz48 hs48 hb48 rfl (by decide) vb r.bs.length _ rfl (row_below ((Below.refl _ _).alloc (Nat.le_refl _) _) R1.blocks) ⟨w1.heap.size, 0, none⟩ 1 1 (bv (n, false)) rfl rfl ?c1 ?c2 ?c3 ?c4 ?c5 ?_)
  case c1 => first | exact new_cells w1 (bv (n, false)) 48 _ rfl | exact fun _ _ h => h
  case c2 => intro u hu; simp [bv] at hu; rcases hu with rfl | rfl <;> rfl
  case c3 => unfold maxLen; omega
  case c4 => omega
  case c5 => first | omega | (simp; omega)
  intro v' w' hown' hgrow _
  have R2 := R1.alloc (.cells #[.int .i64 n, .bool false] 48)
  have hbx2 := (Below.heap_alloc w1 (.cells #[.int .i64 n, .bool false] 48) _ hsz).trans hbx
  have hb2 := ((Below.refl w1.heap.size w1).alloc (Nat.le_refl _) (.cells #[.int .i64 n, .bool false] 48))
  have hk := RKept.grown R2.blocks (Nat.le_refl _) (.inr (.inl rfl)) hgrow
  have hobj := grown_other R2.blocks hgrow R2.obj (by decide)
  have hbox := grown_other R2.blocks hgrow hbx2 (by decide)
  have hcs := row_other R2.blocks hgrow R2.cells (by decide)
  have hown2 : w'.ownsRow B 48 2 v' (r.bs ++ [(n, false)]).length (blockRow (r.bs ++ [(n, false)])) := by
    rw [List.length_append, List.length_singleton]
    unfold blockRow at hown' ⊢
    rw [List.flatMap_append, List.flatMap_singleton]
    exact hown'
  obtain ⟨og, g, cap, rfl, hog⟩ := row_shape hown'
  obtain rfl := hog (by omega)
  have hrb := R.lt
  have e1 : w'.frozen? ⟨rb, 1, none⟩ = false := by simp [World.frozen?, hobj]
  have c1 : w'.cell? ⟨rb, 1, none⟩ = some vb := by simp [World.cell?, hobj]
  have d0 : w'.cell? ⟨w.heap.size, 0, none⟩ = some (.bool false) := by simp [World.cell?, hbox]
  have d1 : w'.cell? ⟨w.heap.size, 1, none⟩ = some (.int .i64 0) := by simp [World.cell?, hbox]
  have d2 : w'.cell? ⟨w.heap.size, 2, none⟩ = some (.int .i64 0) := by simp [World.cell?, hbox]
  have f0 : w'.frozen? ⟨w.heap.size, 0, none⟩ = false := by simp [World.frozen?, hbox]
  have f1 : w'.frozen? ⟨w.heap.size, 1, none⟩ = false := by simp [World.frozen?, hbox]
  have f2 : w'.frozen? ⟨w.heap.size, 2, none⟩ = false := by simp [World.frozen?, hbox]
  have hne : w.heap.size ≠ rb := by omega
  have hne' : rb ≠ w.heap.size := by omega
  have HK := Lib.hid (((RKept.of_below (hbb.trans (hb2.mono hbb.size))).trans hk).trans (RKept.setCell R.base ⟨_, _, _, hobj, .inl rfl⟩ (a := ⟨rb, 1, none⟩) (.slice (some ⟨g, 0, none⟩) (r.bs.length + 1) cap)))
  have HR := Lib.hid (show RefAt B (w'.setCell ⟨rb, 1, none⟩ (.slice (some ⟨g, 0, none⟩) (r.bs.length + 1) cap)) rb ⟨r.room, r.bs ++ [(n, false)], r.cs⟩ (.slice (some ⟨g, 0, none⟩) (r.bs.length + 1) cap) vc from
    ⟨heap_setCell_same hobj 1 _, R.base, R.room0, R.room1, row_setCell hown2 hobj (by decide) _, row_setCell hcs hobj (by decide) _, by rw [List.length_append, List.length_singleton]; exact hmade, R.lenc, by rw [words_push']; show ((r.words + n : Nat) : Int) ≤ r.room; omega⟩)
  have HX := Lib.hid ((Below.heap_setCell w' ⟨rb, 1, none⟩ (.slice (some ⟨g, 0, none⟩) (r.bs.length + 1) cap) _ hne).trans hbox)
  clear hown2 hcs hobj hbox hk hb2 hbx2 R2 hown' hgrow hbb hbs hbx R1 o0 o1 o2
  go_wp2
  refine bodyPost_ret (v := .tuple #[.agg #[.bool true, .int .i64 ((r.bs.length : Int) + 1), .int .i64 0], .int .i64 0]) (by simp [results, Try.results16, go_sem, d0, d1, d2]) rfl ⟨rfl, ⟨.slice (some ⟨g, 0, none⟩) (r.bs.length + 1) cap, vc, ?_⟩, ?_⟩
  · exact ((HR.out.box (a := ⟨w.heap.size, 0, none⟩) HX.out _).box (a := ⟨w.heap.size, 1, none⟩) (heap_setCell_same HX.out 0 _) _).box (a := ⟨w.heap.size, 2, none⟩) (heap_setCell_same (heap_setCell_same HX.out 0 _) 1 _) _
  · exact ((HK.out.fresh (Nat.le_refl _) _).fresh (Nat.le_refl _) _).fresh (Nat.le_refl _) _

theorem ralloc_any (R : RefAt B w rb r vb vc) (hmade : r.bs.length + 1 < 1000) (n : Int) (x : Wd) (er : Int) (r' : RS) (h : r.allocR n = ((x, er), r')) :
    Calls Try.prog 16 #[.pointer (some ⟨rb, 0, none⟩), .int .i64 n] w fun e w' => e = .returned (.tuple #[.agg #[.bool x.p, .int .i64 x.a, .int .i64 x.n], .int .i64 er]) ∧ RTurned B w w' rb r' := by
  unfold RS.allocR at h
  by_cases h1 : n < 0
  · rw [if_pos h1] at h
    cases h
    exact (ralloc_neg w rb n h1).mono fun e w' ⟨he, hb⟩ => ⟨he, .same R hb⟩
  · rw [if_neg h1] at h
    by_cases h2 : r.room - r.words < n
    · rw [if_pos h2] at h
      cases h
      exact (ralloc_room R n h1 h2).mono fun e w' ⟨he, hb⟩ => ⟨he, .same R hb⟩
    · rw [if_neg h2] at h
      cases h
      obtain ⟨N, rfl⟩ : ∃ N : Nat, n = N := ⟨n.toNat, by omega⟩
      rw [Int.toNat_natCast]
      exact ralloc_ok R N (by omega) hmade

theorem sum_setb (f : Nat × Bool → Nat) (l : List (Nat × Bool)) (k : Nat) (x y : Nat × Bool) (h : l[k]? = some x) : ((l.set k y).map f).sum + f x = (l.map f).sum + f y := by
  induction l generalizing k with
  | nil => simp at h
  | cons z l ih =>
    cases k with
    | zero => simp at h; subst h; simp; omega
    | succ k =>
      have := ih k (by simpa using h)
      simp only [List.set_cons_succ, List.map_cons, List.sum_cons]
      omega
theorem words_free' {r : RS} {k m : Nat} (h : r.bs[k]? = some (m, false)) : (⟨r.room, r.bs.set k (m, true), r.cs⟩ : RS).words + m = r.words := by
  have := sum_setb (fun b : Nat × Bool => if b.2 then 0 else b.1) r.bs k _ (m, true) h
  exact this
theorem row_put {base e size g cap n : Nat} {xs : List Value} (h : w.ownsRow base e size (.slice (some ⟨g, 0, none⟩) n cap) n xs) (i : Nat) (v : Value) : (w.setCell ⟨g, i, none⟩ v).ownsRow base e size (.slice (some ⟨g, 0, none⟩) n cap) n (xs.set i v) := by
  refine ⟨by rw [List.length_set]; exact h.1, ?_⟩
  rcases h.2 with ⟨hv, _⟩ | ⟨g', cap', cur, hv, hbb, hgg, h1, h2, h3, h4⟩
  · cases hv
  · cases hv
    refine .inr ⟨g, cap, cur.set! i v, rfl, hbb, heap_setCell_same hgg i v, h1, h2, by simpa using h3, ?_⟩
    rw [← h4]
    simp [List.take_set]
/-- a block of the row written anew -/
theorem blockRow_set (bs : List (Nat × Bool)) (k : Nat) (m : Nat) (f g : Bool) (h : bs[k]? = some (m, f)) : (blockRow bs).set (k * 2 + 1) (.bool g) = blockRow (bs.set k (m, g)) := by
  induction bs generalizing k with
  | nil => simp at h
  | cons b bs ih =>
    cases k with
    | zero => simp at h; subst h; rfl
    | succ k =>
      have := ih k (by simpa using h)
      show (bv b ++ blockRow bs).set ((k + 1) * 2 + 1) _ = bv b ++ blockRow (bs.set k (m, g))
      rw [← this, List.set_append_right _ _ (by rw [bv_len]; omega), bv_len, show (k + 1) * 2 + 1 - 2 = k * 2 + 1 by omega]

set_option maxHeartbeats 1000000 in
theorem rfree_err (R : RefAt B w rb r vb vc) (b : Bool) (a n er : Int) (he : r.check b a = er) (hne : er ≠ 0) :
    Calls Try.prog 18 #[.pointer (some ⟨rb, 0, none⟩), .agg #[.bool b, .int .i64 a, .int .i64 n]] w fun e w' => e = .returned (.int .i64 er) ∧ Below w.heap.size w w' := by
  have HE := Lib.hid he
  have hd : (er == 0) = false := by simpa using hne
  have hd' : (er != 0) = true := by simpa using hne
  clear he
  go_enter Try.func18, Try.ntmps18
  go_wp2_with fail
  refine (rcheck_any (R.alloc _) b a n).mono ?_
  rintro e w1 ⟨rfl, hb⟩
  rw [HE.out]
  go_wp2
  go_ret
  exact ⟨rfl, box_below hb⟩

set_option maxHeartbeats 1000000 in
theorem rfree_range (R : RefAt B w rb r vb vc) (b : Bool) (a n : Int) (he : r.check b a = 0) (hn : n ≠ 0) :
    Calls Try.prog 18 #[.pointer (some ⟨rb, 0, none⟩), .agg #[.bool b, .int .i64 a, .int .i64 n]] w fun e w' => e = .returned (.int .i64 13) ∧ Below w.heap.size w w' := by
  have HE := Lib.hid he
  have hd : (n == 0) = false := by simpa using hn
  have hd' : (n != 0) = true := by simpa using hn
  clear he
  go_enter Try.func18, Try.ntmps18
  go_wp2_with fail
  refine (rcheck_any (R.alloc _) b a n).mono ?_
  rintro e w1 ⟨rfl, hb⟩
  rw [HE.out]
  have q2 := box_cell hb 2 _ rfl
  go_wp2
  go_ret
  exact ⟨rfl, box_below hb⟩

set_option maxHeartbeats 1000000 in
theorem rfree_ok (R : RefAt B w rb r vb vc) (k m : Nat) (hk : r.bs[k]? = some (m, false)) :
    Calls Try.prog 18 #[.pointer (some ⟨rb, 0, none⟩), .agg #[.bool true, .int .i64 ((k : Int) + 1), .int .i64 0]] w fun e w' => e = .returned (.int .i64 0) ∧ RTurned B w w' rb ⟨r.room, r.bs.set k (m, true), r.cs⟩ := by
  have hkl : k < r.bs.length := (List.getElem?_eq_some_iff.1 hk).1
  have HE := Lib.hid (show r.check true ((k : Int) + 1) = 0 by
    unfold RS.check
    rw [if_neg (by simp), if_neg (by omega), show ((k : Int) + 1 - 1).toNat = k by omega, hk])
  have HB := Lib.hid (blockRow_set r.bs k m false true hk)
  have HKK := Lib.hid hk
  have hl := R.lenb
  obtain ⟨og, g, cap, rfl, hog⟩ := row_shape R.blocks
  obtain rfl := hog (by omega)
  clear hk
  go_enter Try.func18, Try.ntmps18
  go_wp2_with fail
  refine (rcheck_any (R.alloc _) true _ 0).mono ?_
  rintro e w1 ⟨rfl, hb⟩
  rw [HE.out]
  have q1 := box_cell hb 1 (.int .i64 ((k : Int) + 1)) rfl
  have q2 := box_cell hb 2 (.int .i64 0) rfl
  have R1 := R.below (box_below hb)
  obtain ⟨o0, o1, o2⟩ := R1.objs
  obtain ⟨g0, g1⟩ := block_cells R1.blocks rfl rfl k _ HKK.out
  have hgl : g < w1.heap.size := World.block_lt_of_cell? _ _ g0
  have hwr : IntKind.i64.wrap (k : Int) = k := IntWalk.i64_in _ (by omega)
  have hkl' : (k : Int) < r.bs.length := by omega
  have fr1 := R1.blocks.frozenAt (k * 2 + 1)
  have HBk := Lib.hid (row_put R1.blocks (k * 2 + 1) (.bool true))
  obtain ⟨cur, hcur⟩ : ∃ cur, w1.heap[g]? = some (.cells cur 48 (0, 0)) := by
    rcases R1.blocks.2 with ⟨hv, _⟩ | ⟨g', cap', cur, hv, hbb, hgg, _⟩
    · cases hv
    · cases hv; exact ⟨cur, hgg⟩
  have hgB : B ≤ g := by
    rcases R1.blocks.2 with ⟨hv, _⟩ | ⟨g', cap', cur, hv, hbb, hgg, _⟩
    · cases hv
    · cases hv; exact hbb
  have HC := Lib.hid hcur
  clear hcur
  go_wp2
  go_region
  go_wp2
  go_ret
  have hW : (⟨r.room, r.bs.set k (m, true), r.cs⟩ : RS).words ≤ r.words := by have := words_free' HKK.out; omega
  have hd : Below (w1.setCell ⟨g, k * 2 + 1, none⟩ (.bool true)).heap.size (w1.setCell ⟨g, k * 2 + 1, none⟩ (.bool true)) (w1.setCell ⟨g, k * 2 + 1, none⟩ (.bool true)).drew := (Below.refl _ _).trans ⟨rfl, rfl, rfl, Nat.le_refl _, fun _ _ => rfl⟩
  have hR : RefAt B (w1.setCell ⟨g, k * 2 + 1, none⟩ (.bool true)) rb ⟨r.room, r.bs.set k (m, true), r.cs⟩ (.slice (some ⟨g, 0, none⟩) r.bs.length cap) vc := by
    refine ⟨(Below.heap_setCell _ _ _ _ fun e => ?_).trans R1.obj, R1.base, R1.room0, R1.room1, ?_, row_setCell R1.cells HC.out (by decide) _, by rw [List.length_set]; exact R1.lenb, R1.lenc, by have := R1.words; show ((⟨r.room, r.bs.set k (m, true), r.cs⟩ : RS).words : Int) ≤ r.room; omega⟩
    · have h1 := R1.obj
      rw [e, HC.out] at h1
      simp at h1
    · rw [List.length_set, ← HB.out]
      exact HBk.out
  exact ⟨rfl, ⟨_, _, hR.below hd⟩, ((RKept.of_below (box_below hb)).trans (RKept.setCell hgB ⟨_, _, _, HC.out, .inr (.inl rfl)⟩ _)).trans (.of_below hd)⟩

theorem rfree_any (R : RefAt B w rb r vb vc) (b : Bool) (a n er : Int) (r' : RS) (h : r.freeR b a n = (er, r')) :
    Calls Try.prog 18 #[.pointer (some ⟨rb, 0, none⟩), .agg #[.bool b, .int .i64 a, .int .i64 n]] w fun e w' => e = .returned (.int .i64 er) ∧ RTurned B w w' rb r' := by
  unfold RS.freeR at h
  by_cases h1 : r.check b a = 0
  · rw [if_neg (by simpa using h1)] at h
    by_cases h2 : n = 0
    · rw [if_neg (by simpa using h2)] at h
      obtain ⟨k, m, rfl, rfl, hk⟩ := check_zero h1
      rw [size_at hk, show ((k : Int) + 1 - 1).toNat = k by omega] at h
      cases h
      subst h2
      exact rfree_ok R k m hk
    · rw [if_pos h2] at h
      cases h
      exact (rfree_range R b a n h1 h2).mono fun e w' ⟨he, hb⟩ => ⟨he, .same R hb⟩
  · rw [if_pos h1] at h
    cases h
    exact (rfree_err R b a n _ rfl h1).mono fun e w' ⟨he, hb⟩ => ⟨he, .same R hb⟩
end
end Go.Proofs.Ytbcockaleegicaa
