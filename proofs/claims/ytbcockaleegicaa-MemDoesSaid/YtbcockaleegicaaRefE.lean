/-
  The document's own memory: Store. Conditions: it lies in the heap.
-/
import Derived.Test.YtbcockaleegicaaRefD
import Derived.Deep.AppendLies
import Derived.Deep.RegionLaw
namespace Go.Proofs.Ytbcockaleegicaa
open Go.RowKit

theorem below_drew (w : World) : Below w.heap.size w w.drew := ⟨rfl, rfl, rfl, Nat.le_refl _, fun _ _ => rfl⟩
theorem below_ad (w : World) (o : Obj) : Below w.heap.size w (w.alloc o).drew := ((Below.refl _ _).alloc (Nat.le_refl _) _).trans ⟨rfl, rfl, rfl, Nat.le_refl _, fun _ _ => rfl⟩
theorem box_heap {w w1 : World} {o : Obj} (hb : Below (w.alloc o).heap.size (w.alloc o) w1) : w1.heap[w.heap.size]? = some o := (hb.block w.heap.size (by simp)).trans (heap_alloc_new w o)
theorem box2_heap1 {w w1 : World} {o o' : Obj} (hb : Below ((w.alloc o).alloc o').heap.size ((w.alloc o).alloc o') w1) : w1.heap[w.heap.size]? = some o :=
  (hb.block w.heap.size (by simp; omega)).trans ((Below.heap_alloc _ _ _ (by simp)).trans (heap_alloc_new w o))
theorem box2_heap2 {w w1 : World} {o o' : Obj} (hb : Below ((w.alloc o).alloc o').heap.size ((w.alloc o).alloc o') w1) : w1.heap[w.heap.size + 1]? = some o' := by
  have h := (hb.block (w.alloc o).heap.size (by simp)).trans (heap_alloc_new (w.alloc o) o')
  simpa using h
theorem RKept.box {B : Nat} {w w' : World} (h : RKept B w w') {b : Nat} {c : Array Value} {f : Nat × Nat} (hb : w.heap[b]? = some (.cells c 30 f)) : w'.heap[b]? = some (.cells c 30 f) := by
  refine (h.block b (Array.getElem?_eq_some_iff.1 hb).1 (.inr ?_)).trans hb
  rintro ⟨c', e, f', h1, h2⟩
  rw [hb] at h1
  simp only [Option.some.injEq, Obj.cells.injEq] at h1
  obtain ⟨_, rfl, _⟩ := h1
  simp at h2
theorem box_cells {w : World} {b : Nat} {p : Bool} {a n : Int} {f : Nat × Nat} (h : w.heap[b]? = some (.cells #[.bool p, .int .i64 a, .int .i64 n] 30 f)) : w.cell? ⟨b, 0, none⟩ = some (.bool p) ∧ w.cell? ⟨b, 1, none⟩ = some (.int .i64 a) ∧ w.cell? ⟨b, 2, none⟩ = some (.int .i64 n) := by
  refine ⟨?_, ?_, ?_⟩ <;> simp [World.cell?, h]

def RS.storeR (r : RS) (b : Bool) (a n : Int) (x : Wd) : Int × RS :=
  if r.check b a ≠ 0 then (r.check b a, r) else if ¬ (0 ≤ n ∧ n + 1 ≤ r.size a) then (13, r) else (0, ⟨r.room, r.bs, r.cs.filter (other a n) ++ [⟨a, n, x⟩]⟩)

section
variable {B : Nat} {w : World} {rb : Nat} {r : RS} {vb vc : Value}

set_option maxHeartbeats 1000000 in
theorem rstore_err (R : RefAt B w rb r vb vc) (b : Bool) (a n : Int) (x : Wd) (er : Int) (he : r.check b a = er) (hne : er ≠ 0) :
    Calls Try.prog 22 #[.pointer (some ⟨rb, 0, none⟩), .agg #[.bool b, .int .i64 a, .int .i64 n], .agg #[.bool x.p, .int .i64 x.a, .int .i64 x.n]] w fun e w' => e = .returned (.int .i64 er) ∧ Below w.heap.size w w' := by
  have HE := Lib.hid he
  have hd : (er == 0) = false := by simpa using hne
  have hd' : (er != 0) = true := by simpa using hne
  clear he
  go_enter Try.func22, Try.ntmps22
  go_wp2_with fail
  refine (rcheck_any ((R.alloc _).alloc _) b a n).mono ?_
  rintro e w1 ⟨rfl, hb⟩
  rw [HE.out]
  go_wp2
  go_ret
  exact ⟨rfl, box2_below hb⟩

set_option maxHeartbeats 1000000 in
theorem rstore_range (R : RefAt B w rb r vb vc) (k m : Nat) (hk : r.bs[k]? = some (m, false)) (n : Int) (x : Wd) (hn : ¬ (0 ≤ n ∧ n + 1 ≤ m)) :
    Calls Try.prog 22 #[.pointer (some ⟨rb, 0, none⟩), .agg #[.bool true, .int .i64 ((k : Int) + 1), .int .i64 n], .agg #[.bool x.p, .int .i64 x.a, .int .i64 x.n]] w fun e w' => e = .returned (.int .i64 13) ∧ Below w.heap.size w w' := by
  have HE := Lib.hid (show r.check true ((k : Int) + 1) = 0 by
    unfold RS.check
    have := (List.getElem?_eq_some_iff.1 hk).1
    rw [if_neg (by simp), if_neg (by omega), show ((k : Int) + 1 - 1).toNat = k by omega, hk])
  have hm : m ≤ 1048576 := by have := words_le hk; have := R.words; have := R.room1; omega
  have HN := Lib.hid (show decide (0 ≤ n ∧ n + 1 ≤ (m : Int)) = false by simpa using hn)
  replace hk := Lib.hid hk
  clear hn
  go_enter Try.func22, Try.ntmps22
  go_wp2_with fail
  refine (rcheck_any ((R.alloc _).alloc _) true _ n).mono ?_
  rintro e w1 ⟨rfl, hb⟩
  rw [HE.out]
  obtain ⟨q0, q1, q2⟩ := box_cells (box2_heap1 hb)
  have R1 := ((R.alloc _).alloc _).below hb
  go_wp2_with fail
  refine (rhas_any R1 k m false hk.out hm true n 1 (by omega)).mono ?_
  rintro e w2 ⟨rfl, hb2⟩
  rw [HN.out]
  replace hb := hb.trans (hb2.mono hb.size)
  go_wp2
  go_ret
  exact ⟨rfl, box2_below hb⟩

set_option maxHeartbeats 2000000 in
theorem rstore_ok (R : RefAt B w rb r vb vc) (hlen : r.cs.length + 1 < 100000) (k m : Nat) (hk : r.bs[k]? = some (m, false)) (n : Int) (x : Wd) (hn : 0 ≤ n ∧ n + 1 ≤ m) :
    Calls Try.prog 22 #[.pointer (some ⟨rb, 0, none⟩), .agg #[.bool true, .int .i64 ((k : Int) + 1), .int .i64 n], .agg #[.bool x.p, .int .i64 x.a, .int .i64 x.n]] w fun e w' => e = .returned (.int .i64 0) ∧ RTurned B w w' rb ⟨r.room, r.bs, r.cs.filter (other ((k : Int) + 1) n) ++ [⟨(k : Int) + 1, n, x⟩]⟩ := by
  have HE := Lib.hid (show r.check true ((k : Int) + 1) = 0 by
    unfold RS.check
    have := (List.getElem?_eq_some_iff.1 hk).1
    rw [if_neg (by simp), if_neg (by omega), show ((k : Int) + 1 - 1).toNat = k by omega, hk])
  have hm : m ≤ 1048576 := by have := words_le hk; have := R.words; have := R.room1; omega
  have HN := Lib.hid (show decide (0 ≤ n ∧ n + 1 ≤ (m : Int)) = true by simpa using hn)
  replace hk := Lib.hid hk
  clear hn
  have hB := R.base
  have hrb := R.lt
  obtain ⟨i71, hi71, hz71, hs71, hb71⟩ := info_parts info71
  go_enter Try.func22, Try.ntmps22
  go_wp2_with fail
  refine (rcheck_any ((R.alloc _).alloc _) true _ n).mono ?_
  rintro e w1 ⟨rfl, hb⟩
  rw [HE.out]
  obtain ⟨q0, q1, q2⟩ := box_cells (box2_heap1 hb)
  have R1 := ((R.alloc _).alloc _).below hb
  go_wp2_with fail
  refine (rhas_any R1 k m false hk.out hm true n 1 (by omega)).mono ?_
  rintro e w2 ⟨rfl, hb2⟩
  rw [HN.out]
  replace hb := hb.trans (hb2.mono hb.size)
  clear q0 q1 q2
  obtain ⟨q0, q1, q2⟩ := box_cells (box2_heap1 hb)
  replace R1 := R1.below hb2
  go_wp2_with fail
  refine (rdrop_any R1 ((k : Int) + 1) n).mono ?_
  rintro e w3 ⟨rfl, ⟨vb3, vc3, R3⟩, K3⟩
  have h1 := K3.box (box2_heap1 hb)
  have h2 := K3.box (box2_heap2 hb)
  have hz := K3.size
  have hz2 := box2_size hb
  have hk2 := (RKept.of_below (box2_below hb)).trans K3
  clear q0 q1 q2 K3 hb2 hb R1
  obtain ⟨q0, q1, q2⟩ := box_cells h1
  obtain ⟨p0, p1, p2⟩ := box_cells h2
  have hL : (r.drop ((k : Int) + 1) n).cs.length ≤ r.cs.length := List.length_filter_le _ _
  obtain ⟨o0, o1, o2⟩ := R3.objs
  have hrow := R3.cells
  have hlt := R3.lt
  obtain ⟨L, hLe⟩ : ∃ L, (r.drop ((k : Int) + 1) n).cs.length = L := ⟨_, rfl⟩
  rw [hLe] at hL hrow
  replace hLe := Lib.hid hLe
  obtain ⟨o, ho⟩ : ∃ o, o = Obj.cells #[.int .i64 ((k : Int) + 1), .int .i64 n, .bool x.p, .int .i64 x.a, .int .i64 x.n] 71 := ⟨_, rfl⟩
  have R2 := R3.below (below_ad w3 o)
  have h1a := ((below_ad w3 o).block _ (by omega)).trans h1
  have h2a := ((below_ad w3 o).block _ (by omega)).trans h2
  subst ho
  replace hrow := row_below (below_ad w3 (Obj.cells #[.int .i64 ((k : Int) + 1), .int .i64 n, .bool x.p, .int .i64 x.a, .int .i64 x.n] 71)) hrow
  have hn5 := new_cells w3 (ev ⟨(k : Int) + 1, n, x⟩) 71 _ rfl
  have hsz3 := hlt
  have hfin : ∀ g cap (w' : World), w'.ownsRow B 71 5 (.slice (some ⟨g, 0, none⟩) (L + 1) cap) (L + 1) (cellRow (r.drop ((k : Int) + 1) n).cs ++ ev ⟨(k : Int) + 1, n, x⟩) → (w3.alloc (Obj.cells #[.int .i64 ((k : Int) + 1), .int .i64 n, .bool x.p, .int .i64 x.a, .int .i64 x.n] 71)).drew.grownBy w' vc3.ownBlock →
      w'.heap[rb]? = some (Obj.cells #[.int .i64 r.room, vb3, vc3] 46) ∧ RTurned B w (w'.setCell ⟨rb, 2, none⟩ (.slice (some ⟨g, 0, none⟩) (L + 1) cap)) rb ⟨r.room, r.bs, r.cs.filter (other ((k : Int) + 1) n) ++ [⟨(k : Int) + 1, n, x⟩]⟩ := by
    intro g cap w' hown' hgrow
    have hobj := grown_other hrow hgrow R2.obj (by decide)
    refine ⟨hobj, ⟨vb3, .slice (some ⟨g, 0, none⟩) (L + 1) cap, heap_setCell_same hobj 2 _, R.base, R.room0, R.room1, row_setCell (row_other hrow hgrow R2.blocks (by decide)) hobj (by decide) _, row_setCell ?_ hobj (by decide) _, R.lenb, ?_, R.words⟩, ((hk2.trans (.of_below (below_ad w3 _))).trans (RKept.grown hrow (Nat.le_refl _) (.inr (.inr rfl)) hgrow)).trans (RKept.setCell R.base ⟨_, _, _, hobj, .inl rfl⟩ _)⟩
    · have e : (r.cs.filter (other ((k : Int) + 1) n) ++ [(⟨(k : Int) + 1, n, x⟩ : Ce)]).length = L + 1 := by rw [List.length_append, List.length_singleton]; exact congrArg (· + 1) hLe.out
      show w'.ownsRow B 71 5 _ (r.cs.filter (other ((k : Int) + 1) n) ++ [(⟨(k : Int) + 1, n, x⟩ : Ce)]).length _
      rw [e]
      unfold cellRow at hown' ⊢
      rw [List.flatMap_append, List.flatMap_singleton]
      exact hown'
    · show (r.cs.filter (other ((k : Int) + 1) n) ++ [(⟨(k : Int) + 1, n, x⟩ : Ce)]).length < 100000
      rw [List.length_append, List.length_singleton]
      have : (r.cs.filter (other ((k : Int) + 1) n)).length = L := hLe.out
      omega
  have HF := Lib.hid hfin
  have hf := fun {w' : World} (h : w'.heap[rb]? = some (.cells #[.int .i64 r.room, vb3, vc3] 46)) => (show w'.frozen? ⟨rb, 2, none⟩ = false ∧ w'.cell? ⟨rb, 2, none⟩ = some vc3 by constructor <;> simp [World.frozen?, World.cell?, h])
  clear hfin hk2 h1a h2a h1 h2 R2 HE HN hk
  go_wp2
  go_region_law (refine step_append_lies _ rfl (.tmp 28) (.tmp 35) 44 rfl B 71 i71 _ 5 40 Try.underlying44 hi71 hz71 hs71 hb71 rfl (by decide) vc3 L (cellRow (r.drop ((k : Int) + 1) n).cs) (by simp [Act.eval]) (by exact hrow) ⟨w3.heap.size, 0, none⟩ 1 1 (ev ⟨(k : Int) + 1, n, x⟩) (by simp [Act.eval]) rfl (by exact hn5) (by intro u hu; simp [ev] at hu; rcases hu with rfl | rfl | rfl | rfl | rfl <;> rfl) (by decide) (by unfold maxLen; omega) (by omega) (by simp; omega) _ rfl ?_; intro g cap w' hown' hgrow _ hg; have hf' := hf (HF.out _ _ _ hown' hgrow).1; have f1 := hf'.1; have f2 := hf'.2)
  all_goals
    go_wp2
    go_ret
    exact ⟨rfl, (HF.out _ _ _ hown' hgrow).2⟩

theorem rstore_any (R : RefAt B w rb r vb vc) (hlen : r.cs.length + 1 < 100000) (b : Bool) (a n : Int) (x : Wd) (er : Int) (r' : RS) (h : r.storeR b a n x = (er, r')) :
    Calls Try.prog 22 #[.pointer (some ⟨rb, 0, none⟩), .agg #[.bool b, .int .i64 a, .int .i64 n], .agg #[.bool x.p, .int .i64 x.a, .int .i64 x.n]] w fun e w' => e = .returned (.int .i64 er) ∧ RTurned B w w' rb r' := by
  unfold RS.storeR at h
  by_cases h1 : r.check b a = 0
  · rw [if_neg (by simpa using h1)] at h
    obtain ⟨k, m, rfl, rfl, hk⟩ := check_zero h1
    rw [size_at hk] at h
    by_cases h2 : 0 ≤ n ∧ n + 1 ≤ m
    · rw [if_neg (by simpa using h2)] at h
      cases h
      exact rstore_ok R hlen k m hk n x h2
    · rw [if_pos h2] at h
      cases h
      exact (rstore_range R k m hk n x h2).mono fun e w' ⟨he, hb⟩ => ⟨he, .same R hb⟩
  · rw [if_pos h1] at h
    cases h
    exact (rstore_err R b a n x _ rfl h1).mono fun e w' ⟨he, hb⟩ => ⟨he, .same R hb⟩
end
end Go.Proofs.Ytbcockaleegicaa
