/-
  The document's own memory: New, Free, Load. Conditions: it lies in the heap.
-/
import Derived.Test.YtbcockaleegicaaRefB
namespace Go.Proofs.Ytbcockaleegicaa
open Go.RowKit

theorem box2_first {w w1 : World} {o : Obj} {c : Array Value} {t : TypeId} (hb : Below ((w.alloc (.cells c t)).alloc o).heap.size ((w.alloc (.cells c t)).alloc o) w1) (j : Nat) (v : Value) (hv : c[j]? = some v) : w1.cell? ⟨w.heap.size, j, none⟩ = some v := by
  have h := alloc_cell w c t j v hv
  refine (hb.cell (p := ⟨w.heap.size, j, none⟩) (by simp; omega)).trans ?_
  refine (((Below.refl _ _).alloc (Nat.le_refl _) o).cell (p := ⟨w.heap.size, j, none⟩) (by simp)).trans h

set_option maxHeartbeats 400000 in
theorem rnew_run (k : Int) (w : World) :
    Calls Try.prog 14 #[.int .i64 k] w fun e w' => e = .returned (.pointer (some ⟨w.heap.size, 0, none⟩)) ∧ w' = w.alloc (.cells #[.int .i64 (min (max k 0) 1048576), .slice none 0 0, .slice none 0 0] 46) := by
  go_enter Try.func14, Try.ntmps14
  go_wp2
  all_goals go_ret
  · rw [show min (max k 0) 1048576 = 0 by omega]; exact ⟨rfl, rfl⟩
  · rw [show min (max k 0) 1048576 = 1048576 by omega]; exact ⟨rfl, rfl⟩
  · rw [show min (max k 0) 1048576 = k by omega]; exact ⟨rfl, rfl⟩

theorem rnew_any (k m : Int) (w : World) (B : Nat) (hB : B ≤ w.heap.size) (hm : m = min (max k 0) 1048576) :
    Calls Try.prog 14 #[.int .i64 k] w fun e w' => e = .returned (.pointer (some ⟨w.heap.size, 0, none⟩)) ∧ RefAt B w' w.heap.size ⟨m, [], []⟩ (.slice none 0 0) (.slice none 0 0) ∧ Below w.heap.size w w' ∧ w.heap.size < w'.heap.size := by
  refine (rnew_run k w).mono ?_
  rintro e w' ⟨rfl, rfl⟩
  rw [← hm]
  exact ⟨rfl, ⟨heap_alloc_new w _, hB, by show 0 ≤ m; omega, by show m ≤ 1048576; omega, World.ownsRow_nil _ _ _ _, World.ownsRow_nil _ _ _ _, by simp, by simp, by show (0 : Int) ≤ m; omega⟩, (Below.refl _ _).alloc (Nat.le_refl _) _, by simp⟩

theorem check_zero {r : RS} {b : Bool} {a : Int} (h : r.check b a = 0) : ∃ k m : Nat, b = true ∧ a = (k : Int) + 1 ∧ r.bs[k]? = some (m, false) := by
  unfold RS.check at h
  split at h
  · simp at h
  · rename_i h1
    split at h
    · simp at h
    · rename_i h2
      refine ⟨(a - 1).toNat, ?_⟩
      cases hx : r.bs[(a - 1).toNat]? with
      | none => rw [hx] at h; simp at h
      | some x =>
        rw [hx] at h
        obtain ⟨m, f⟩ := x
        cases f
        · exact ⟨m, by simpa using h1, by omega, rfl⟩
        · simp at h
theorem words_le {r : RS} {k m : Nat} (h : r.bs[k]? = some (m, false)) : m ≤ r.words := by
  have ht := take_words r.bs k _ h
  have h2 := congrArg (fun l => (l.map fun b : Nat × Bool => if b.2 then 0 else b.1).sum) (List.take_append_drop (k + 1) r.bs)
  simp only [List.map_append, List.sum_append] at h2
  simp only [Bool.false_eq_true, if_false] at ht
  show m ≤ (r.bs.map fun b => if b.2 then 0 else b.1).sum
  omega
def RS.size (r : RS) (a : Int) : Nat := ((r.bs[(a - 1).toNat]?).map (·.1)).getD 0
theorem size_at {r : RS} {k m : Nat} {f : Bool} (h : r.bs[k]? = some (m, f)) : r.size ((k : Int) + 1) = m := by
  unfold RS.size
  rw [show ((k : Int) + 1 - 1).toNat = k by omega, h]; rfl
def z3 : Wd := ⟨false, 0, 0⟩
def RS.loadR (r : RS) (b : Bool) (a n : Int) : Wd × Int :=
  if r.check b a ≠ 0 then (z3, r.check b a) else if ¬ (0 ≤ n ∧ n + 1 ≤ r.size a) then (z3, 13) else match lookc r.cs a n with | none => (z3, 14) | some x => (x, 0)
theorem look_step (cs : List Ce) (k : Nat) (c : Ce) (h : cs[k]? = some c) (a n : Int) : lookc (cs.drop k) a n = if other a n c then lookc (cs.drop (k + 1)) a n else some c.x := by
  have hk : k < cs.length := (List.getElem?_eq_some_iff.1 h).1
  rw [List.drop_eq_getElem_cons hk]
  have : cs[k] = c := by rw [List.getElem?_eq_getElem hk] at h; simpa using h
  rw [this]
  unfold lookc other
  rw [List.find?_cons]
  cases hb : (c.a == a && c.n == n) <;> simp

section
variable {B : Nat} {w : World} {rb : Nat} {r : RS} {vb vc : Value}

theorem RefAt.same {w' : World} (R : RefAt B w rb r vb vc) (h : Below w.heap.size w w') : RefAt B w' rb r vb vc := R.below h

set_option maxHeartbeats 1000000 in
theorem rload_err (R : RefAt B w rb r vb vc) (b : Bool) (a n er : Int) (he : r.check b a = er) (hne : er ≠ 0) :
    Calls Try.prog 20 #[.pointer (some ⟨rb, 0, none⟩), .agg #[.bool b, .int .i64 a, .int .i64 n]] w fun e w' => e = .returned (.tuple #[.agg #[.bool false, .int .i64 0, .int .i64 0], .int .i64 er]) ∧ Below w.heap.size w w' := by
  have HE := Lib.hid he
  have hd : (er == 0) = false := by simpa using hne
  have hd' : (er != 0) = true := by simpa using hne
  clear he
  go_enter Try.func20, Try.ntmps20
  go_wp2_with fail
  refine (rcheck_any ((R.alloc _).alloc _) b a n).mono ?_
  rintro e w1 ⟨rfl, hb⟩
  rw [HE.out]
  have r0 := box2_cell hb 0 (.bool false) rfl
  have r1 := box2_cell hb 1 (.int .i64 0) rfl
  have r2 := box2_cell hb 2 (.int .i64 0) rfl
  have f0 := box2_frozen hb 0
  have f1 := box2_frozen hb 1
  have f2 := box2_frozen hb 2
  have hz := box2_size hb
  go_wp2
  refine bodyPost_ret (v := .tuple #[.agg #[.bool false, .int .i64 0, .int .i64 0], .int .i64 er]) (by simp [results, Try.results20, go_sem, r0, r1, r2]) rfl ⟨rfl, ?_⟩
  exact (((box2_below hb).setCell (by simp) _).setCell (by simp) _).setCell (by simp) _

set_option maxHeartbeats 1000000 in
theorem rload_range (R : RefAt B w rb r vb vc) (k m : Nat) (hk : r.bs[k]? = some (m, false)) (n : Int) (hn : ¬ (0 ≤ n ∧ n + 1 ≤ m)) :
    Calls Try.prog 20 #[.pointer (some ⟨rb, 0, none⟩), .agg #[.bool true, .int .i64 ((k : Int) + 1), .int .i64 n]] w fun e w' => e = .returned (.tuple #[.agg #[.bool false, .int .i64 0, .int .i64 0], .int .i64 13]) ∧ Below w.heap.size w w' := by
  have HE := Lib.hid (show r.check true ((k : Int) + 1) = 0 by
    unfold RS.check
    have := (List.getElem?_eq_some_iff.1 hk).1
    rw [if_neg (by simp), if_neg (by omega), show ((k : Int) + 1 - 1).toNat = k by omega, hk])
  have hm : m ≤ 1048576 := by have := words_le hk; have := R.words; have := R.room1; omega
  have HN := Lib.hid (show decide (0 ≤ n ∧ n + 1 ≤ (m : Int)) = false by simpa using hn)
  replace hk := Lib.hid hk
  clear hn
  go_enter Try.func20, Try.ntmps20
  go_wp2_with fail
  refine (rcheck_any ((R.alloc _).alloc _) true _ n).mono ?_
  rintro e w1 ⟨rfl, hb⟩
  rw [HE.out]
  have q0 := box2_first hb 0 (.bool true) rfl
  have q1 := box2_first hb 1 (.int .i64 ((k : Int) + 1)) rfl
  have q2 := box2_first hb 2 (.int .i64 n) rfl
  have R1 := ((R.alloc _).alloc _).below hb
  go_wp2_with fail
  refine (rhas_any R1 k m false hk.out hm true n 1 (by omega)).mono ?_
  rintro e w2 ⟨rfl, hb2⟩
  rw [HN.out]
  replace hb := hb.trans (hb2.mono hb.size)
  have r0 := box2_cell hb 0 (.bool false) rfl
  have r1 := box2_cell hb 1 (.int .i64 0) rfl
  have r2 := box2_cell hb 2 (.int .i64 0) rfl
  have f0 := box2_frozen hb 0
  have f1 := box2_frozen hb 1
  have f2 := box2_frozen hb 2
  have hz := box2_size hb
  go_wp2
  refine bodyPost_ret (v := .tuple #[.agg #[.bool false, .int .i64 0, .int .i64 0], .int .i64 13]) (by simp [results, Try.results20, go_sem, r0, r1, r2]) rfl ⟨rfl, ?_⟩
  exact (((box2_below hb).setCell (by simp) _).setCell (by simp) _).setCell (by simp) _

def LoadIs (cs : List Ce) (a n : Int) (e : Ending) : Prop := match lookc cs a n with
  | none => e = .returned (.tuple #[.agg #[.bool false, .int .i64 0, .int .i64 0], .int .i64 14])
  | some x => e = .returned (.tuple #[.agg #[.bool x.p, .int .i64 x.a, .int .i64 x.n], .int .i64 0])

set_option maxHeartbeats 2000000 in
theorem rload_look (R : RefAt B w rb r vb vc) (k m : Nat) (hk : r.bs[k]? = some (m, false)) (n : Int) (hn : 0 ≤ n ∧ n + 1 ≤ m) :
    Calls Try.prog 20 #[.pointer (some ⟨rb, 0, none⟩), .agg #[.bool true, .int .i64 ((k : Int) + 1), .int .i64 n]] w fun e w' => LoadIs r.cs ((k : Int) + 1) n e ∧ Below w.heap.size w w' := by
  have HE := Lib.hid (show r.check true ((k : Int) + 1) = 0 by
    unfold RS.check
    have := (List.getElem?_eq_some_iff.1 hk).1
    rw [if_neg (by simp), if_neg (by omega), show ((k : Int) + 1 - 1).toNat = k by omega, hk])
  have hm : m ≤ 1048576 := by have := words_le hk; have := R.words; have := R.room1; omega
  have HN := Lib.hid (show decide (0 ≤ n ∧ n + 1 ≤ (m : Int)) = true by simpa using hn)
  replace hk := Lib.hid hk
  clear hn
  obtain ⟨og, g, cap, rfl, hog⟩ := row_shape R.cells
  replace hog := Lib.hid hog
  have hl := R.lenc
  go_enter Try.func20, Try.ntmps20
  go_wp2_with fail
  refine (rcheck_any ((R.alloc _).alloc _) true _ n).mono ?_
  rintro e w1 ⟨rfl, hb⟩
  rw [HE.out]
  have q0 := box2_first hb 0 (.bool true) rfl
  have q1 := box2_first hb 1 (.int .i64 ((k : Int) + 1)) rfl
  have q2 := box2_first hb 2 (.int .i64 n) rfl
  have R1 := ((R.alloc _).alloc _).below hb
  go_wp2_with fail
  refine (rhas_any R1 k m false hk.out hm true n 1 (by omega)).mono ?_
  rintro e w2 ⟨rfl, hb2⟩
  rw [HN.out]
  replace hb := hb.trans (hb2.mono hb.size)
  clear hb2 q0 q1 q2 R1
  go_wp2_with fail
  go_loopw [7] (fun ui wr => ∃ i : Nat, i ≤ r.cs.length ∧ ui = .int .i64 i ∧ Hid (lookc r.cs ((k : Int) + 1) n = lookc (r.cs.drop i) ((k : Int) + 1) n) ∧ Below ((w.alloc (.cells #[.bool true, .int .i64 ((k : Int) + 1), .int .i64 n] 30)).alloc (.cells #[.bool false, .int .i64 0, .int .i64 0] 30)).heap.size ((w.alloc (.cells #[.bool true, .int .i64 ((k : Int) + 1), .int .i64 n] 30)).alloc (.cells #[.bool false, .int .i64 0, .int .i64 0] 30)) wr) (fun ui _ => r.cs.length - (intOf ui).toNat)
  case atStart => exact ⟨0, by omega, rfl, Lib.hid rfl, hb⟩
  case round =>
    obtain ⟨i, hi, rfl, hlook, hb⟩ := hrel
    have q1 := box2_first hb 1 (.int .i64 ((k : Int) + 1)) rfl
    have q2 := box2_first hb 2 (.int .i64 n) rfl
    have r0 := box2_cell hb 0 (.bool false) rfl
    have r1 := box2_cell hb 1 (.int .i64 0) rfl
    have r2 := box2_cell hb 2 (.int .i64 0) rfl
    have f0 := box2_frozen hb 0
    have f1 := box2_frozen hb 1
    have f2 := box2_frozen hb 2
    have hz := box2_size hb
    have Rr := ((R.alloc _).alloc _).below hb
    obtain ⟨o0, o1, o2⟩ := Rr.objs
    by_cases hil : i < r.cs.length
    · have t1 : decide ((i : Int) < r.cs.length) = true := by simpa using hil
      have hil' : (i : Int) < r.cs.length := by omega
      obtain rfl := hog.out (by omega)
      obtain ⟨c, hc⟩ : ∃ c, r.cs[i]? = some c := ⟨_, List.getElem?_eq_getElem hil⟩
      obtain ⟨g0, g1, g2, g3, g4⟩ := cell_cells Rr.cells rfl rfl i c hc
      have hgl : g < wr.heap.size := World.block_lt_of_cell? _ _ g0
      have hwr : IntKind.i64.wrap (i : Int) = i := IntWalk.i64_in _ (by omega)
      have hs := look_step r.cs i c hc ((k : Int) + 1) n
      rw [← hlook.out] at hs
      by_cases h1 : c.a = (k : Int) + 1
      · have t2 : (c.a == (k : Int) + 1) = true := by simpa using h1
        by_cases h2 : c.n = n
        · have t3 : (c.n == n) = true := by simpa using h2
          have HS := Lib.hid (show lookc r.cs ((k : Int) + 1) n = some c.x by rw [hs, if_neg (by simp [other, h1, h2])])
          clear hs hc h1 h2 Rr
          go_wp2
          go_quiet (fail)
          go_wp2
          refine bodyPost_ret (v := .tuple #[.agg #[.bool c.x.p, .int .i64 c.x.a, .int .i64 c.x.n], .int .i64 0]) (by simp [results, Try.results20, go_sem, r0, r1, r2]) rfl ⟨?_, ?_⟩
          · unfold LoadIs; rw [HS.out]
          · exact (((box2_below (below_drewN hb _)).setCell (by simp) _).setCell (by simp) _).setCell (by simp) _
        · have t3 : (c.n == n) = false := by simpa using h2
          have HS := Lib.hid (show lookc r.cs ((k : Int) + 1) n = lookc (r.cs.drop (i + 1)) ((k : Int) + 1) n by rw [hs, if_pos (by simp [other, h2])])
          clear hs hc h1 h2 Rr
          go_wp2
          go_quiet (fail)
          go_wp2
          go_roundw
          case rel => exact ⟨i + 1, by omega, by go_num, HS, below_drewN hb _⟩
          case measure => simp [intOf]; omega
      · have t2 : (c.a == (k : Int) + 1) = false := by simpa using h1
        have HS := Lib.hid (show lookc r.cs ((k : Int) + 1) n = lookc (r.cs.drop (i + 1)) ((k : Int) + 1) n by rw [hs, if_pos (by simp [other, h1])])
        clear hs hc h1 Rr
        go_wp2
        go_quiet (fail)
        go_wp2
        go_roundw
        case rel => exact ⟨i + 1, by omega, by go_num, HS, below_drewN hb _⟩
        case measure => simp [intOf]; omega
    · have t1 : decide ((i : Int) < r.cs.length) = false := by simpa using hil
      go_wp2
      refine bodyPost_ret (v := .tuple #[.agg #[.bool false, .int .i64 0, .int .i64 0], .int .i64 14]) (by simp [results, Try.results20, go_sem, r0, r1, r2]) rfl ⟨?_, ?_⟩
      · unfold LoadIs
        rw [hlook.out, List.drop_eq_nil_of_le (by omega)]
        rfl
      · exact (((box2_below hb).setCell (by simp) _).setCell (by simp) _).setCell (by simp) _

theorem rload_any (R : RefAt B w rb r vb vc) (b : Bool) (a n : Int) (x : Wd) (er : Int) (h : r.loadR b a n = (x, er)) :
    Calls Try.prog 20 #[.pointer (some ⟨rb, 0, none⟩), .agg #[.bool b, .int .i64 a, .int .i64 n]] w fun e w' => e = .returned (.tuple #[.agg #[.bool x.p, .int .i64 x.a, .int .i64 x.n], .int .i64 er]) ∧ Below w.heap.size w w' := by
  unfold RS.loadR at h
  by_cases h1 : r.check b a = 0
  · rw [if_neg (by simpa using h1)] at h
    obtain ⟨k, m, rfl, rfl, hk⟩ := check_zero h1
    rw [size_at hk] at h
    by_cases h2 : 0 ≤ n ∧ n + 1 ≤ m
    · rw [if_neg (by simpa using h2)] at h
      refine (rload_look R k m hk n h2).mono ?_
      rintro e w' ⟨he, hb⟩
      refine ⟨?_, hb⟩
      unfold LoadIs at he
      cases hx : lookc r.cs ((k : Int) + 1) n with
      | none => rw [hx] at h he; cases h; exact he
      | some y => rw [hx] at h he; cases h; exact he
    · rw [if_pos h2] at h
      cases h
      exact rload_range R k m hk n h2
  · rw [if_pos h1] at h
    cases h
    exact rload_err R b a n _ rfl h1
end
end Go.Proofs.Ytbcockaleegicaa
