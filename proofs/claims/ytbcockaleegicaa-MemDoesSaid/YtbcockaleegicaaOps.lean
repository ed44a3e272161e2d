/-
  The contracts of mem's reading calls (Load, Set, Live, Words), and the errors of span and stored in one word. Conditions: the memory lies in the heap.
-/
import Derived.Test.YtbcockaleegicaaSpan
namespace Go.Proofs.Ytbcockaleegicaa
open Go.RowKit

theorem sum_get : ∀ (bs : List (Option (List Cl))) (k : Nat) (o : Option (List Cl)), bs[k]? = some o → szO o ≤ (bs.map szO).sum
  | [], _, _, h => by simp at h
  | x :: bs, 0, o, h => by simp at h; subst h; simp
  | x :: bs, k + 1, o, h => by
    have := sum_get bs k o (by simpa using h)
    simp only [List.map_cons, List.sum_cons]; omega

theorem at_some {S : MS} {k : Nat} {l : List Cl} (h : S.at k = some l) : S.blocks[k]? = some (some l) := by
  unfold MS.at at h
  cases hb : S.blocks[k]? with
  | none => rw [hb] at h; cases h
  | some o => rw [hb] at h; simp at h; rw [h]

theorem at_len {S : MS} {k : Nat} {l : List Cl} (h : S.at k = some l) : l.length ≤ S.words := sum_get S.blocks k (some l) (at_some h)
theorem RepAt.len {w : World} {mb : Nat} {lm : Option Nat} {loc : Nat → Nat} {S : MS} (R : RepAt w mb lm loc S) {k : Nat} {l : List Cl} (h : S.at k = some l) : l.length ≤ 1048576 := by
  have := at_len h; have := R.words; have := R.room1; omega

theorem findE_zero {S : MS} {b : Bool} {a : Int} (h : findE S b a = 0) : ∃ (k : Nat) (l : List Cl), b = true ∧ a = (k : Int) + 1 ∧ S.at k = some l := by
  unfold findE at h
  split at h
  · simp at h
  · rename_i hb
    split at h
    · simp at h
    · rename_i ha
      split at h
      · simp at h
      · rename_i l hl
        exact ⟨(a - 1).toNat, l, by simpa using hb, by omega, hl⟩
theorem findE_at {S : MS} {k : Nat} {l : List Cl} (hl : S.at k = some l) : findE S true ((k : Int) + 1) = 0 := by
  have hk := at_lt hl
  unfold findE
  rw [if_neg (by simp), if_neg (by omega), show ((k : Int) + 1 - 1).toNat = k by omega, hl]

def spanE (S : MS) (b : Bool) (a n c : Int) : Int :=
  if findE S b a ≠ 0 then findE S b a else match S.at (a - 1).toNat with
    | none => 0
    | some l => if n < 0 ∨ (l.length : Int) < n + c then 13 else 0
def storedE (S : MS) (b : Bool) (a n c : Int) : Int :=
  if c = 0 then 0 else if findE S b a ≠ 0 then findE S b a else match S.at (a - 1).toNat with
    | none => 0
    | some l => if n < 0 ∨ (l.length : Int) ≤ n then 13 else scanE (l.drop n.toNat) c.toNat

theorem spanE_at {S : MS} {k : Nat} {l : List Cl} (hl : S.at k = some l) (n c : Int) : spanE S true ((k : Int) + 1) n c = if n < 0 ∨ (l.length : Int) < n + c then 13 else 0 := by
  unfold spanE
  rw [if_neg (by rw [findE_at hl]; simp), show ((k : Int) + 1 - 1).toNat = k by omega, hl]
theorem storedE_at {S : MS} {k : Nat} {l : List Cl} (hl : S.at k = some l) (n c : Int) (hc : c ≠ 0) : storedE S true ((k : Int) + 1) n c = if n < 0 ∨ (l.length : Int) ≤ n then 13 else scanE (l.drop n.toNat) c.toNat := by
  unfold storedE
  rw [if_neg hc, if_neg (by rw [findE_at hl]; simp), show ((k : Int) + 1 - 1).toNat = k by omega, hl]

theorem spanE_zero {S : MS} {b : Bool} {a n c : Int} (h : spanE S b a n c = 0) : ∃ (k N : Nat) (l : List Cl), b = true ∧ a = (k : Int) + 1 ∧ n = N ∧ S.at k = some l ∧ (N : Int) + c ≤ l.length := by
  by_cases hf : findE S b a = 0
  · obtain ⟨k, l, rfl, rfl, hl⟩ := findE_zero hf
    rw [spanE_at hl] at h
    split at h
    · simp at h
    · exact ⟨k, n.toNat, l, rfl, rfl, by omega, hl, by omega⟩
  · unfold spanE at h
    rw [if_pos hf] at h
    exact absurd h hf

theorem storedE_zero {S : MS} {b : Bool} {a n c : Int} (h : storedE S b a n c = 0) (hc : 0 < c) : ∃ (k N : Nat) (l : List Cl), b = true ∧ a = (k : Int) + 1 ∧ n = N ∧ S.at k = some l ∧ N < l.length ∧ scanE (l.drop N) c.toNat = 0 := by
  by_cases hf : findE S b a = 0
  · obtain ⟨k, l, rfl, rfl, hl⟩ := findE_zero hf
    rw [storedE_at hl _ _ (by omega)] at h
    split at h
    · simp at h
    · exact ⟨k, n.toNat, l, rfl, rfl, by omega, hl, by omega, h⟩
  · unfold storedE at h
    rw [if_neg (by omega), if_pos hf] at h
    exact absurd h hf

section
variable {w : World} {mb : Nat} {lm : Option Nat} {loc : Nat → Nat} {S : MS}

theorem span_fail (R : RepAt w mb lm loc S) (b : Bool) (a n c er : Int) (he : spanE S b a n c = er) (hne : er ≠ 0) (hn : n ≤ 9223372036854775807) :
    Calls Try.prog 37 #[.pointer (some ⟨mb, 0, none⟩), .agg #[.bool b, .int .i64 a, .int .i64 n], .int .i64 c] w fun e w' =>
      e = .returned (.tuple #[.slice none 0 0, .int .i64 er]) ∧ Below w.heap.size w w' := by
  by_cases hf : findE S b a = 0
  · obtain ⟨k, l, rfl, rfl, hl⟩ := findE_zero hf
    rw [spanE_at hl] at he
    split at he
    · subst he
      exact span_range R k l hl n c ‹_› (R.len hl) hn
    · exact absurd he.symm hne
  · unfold spanE at he
    rw [if_pos hf] at he
    exact span_err R b a n c er he hne

theorem stored_fail (R : RepAt w mb lm loc S) (b : Bool) (a n : Int) (c : Nat) (er : Int) (he : storedE S b a n c = er) (hne : er ≠ 0) (hc : (c : Int) < 9223372036854775807) :
    Calls Try.prog 35 #[.pointer (some ⟨mb, 0, none⟩), .agg #[.bool b, .int .i64 a, .int .i64 n], .int .i64 c] w fun e w' =>
      e = .returned (.tuple #[.slice none 0 0, .int .i64 er]) ∧ Below w.heap.size w w' := by
  have hc0 : (c : Int) ≠ 0 := by
    intro h
    unfold storedE at he
    rw [if_pos h] at he
    exact hne he.symm
  by_cases hf : findE S b a = 0
  · obtain ⟨k, l, rfl, rfl, hl⟩ := findE_zero hf
    rw [storedE_at hl _ _ hc0] at he
    split at he
    · subst he
      exact stored_range R k l hl n c ‹_› hc0
    · have hn : ∃ N : Nat, n = N := ⟨n.toNat, by omega⟩
      obtain ⟨N, rfl⟩ := hn
      simp only [Int.toNat_natCast] at he
      refine (stored_scan R k l hl N c (by omega) (by omega) (by omega) (R.len hl)).mono ?_
      rintro e w' ⟨h, hb⟩
      refine ⟨?_, hb⟩
      unfold StoredIs at h
      rw [he, if_neg hne] at h
      exact h
  · unfold storedE at he
    rw [if_neg hc0, if_pos hf] at he
    exact stored_err R b a n c er he hne hc0

theorem stored_ok (R : RepAt w mb lm loc S) (k : Nat) (l : List Cl) (hl : S.at k = some l) (n c : Nat) (hn : n < l.length) (hc : 0 < c) (hc' : c < 9223372036854775807) (hs : scanE (l.drop n) c = 0) :
    Calls Try.prog 35 #[.pointer (some ⟨mb, 0, none⟩), .agg #[.bool true, .int .i64 ((k : Int) + 1), .int .i64 (n : Int)], .int .i64 (c : Int)] w fun e w' =>
      e = .returned (.tuple #[.slice (some ⟨loc k, n * 4, none⟩) c (l.length - n), .int .i64 0]) ∧ Below w.heap.size w w' := by
  refine (stored_scan R k l hl n c hn hc hc' (R.len hl)).mono ?_
  rintro e w' ⟨h, hb⟩
  refine ⟨?_, hb⟩
  unfold StoredIs at h
  rw [hs, if_pos rfl] at h
  exact h

/-- what is loaded, and the error -/
def loadR (S : MS) (b : Bool) (a n : Int) : Wd × Int :=
  if storedE S b a n 1 ≠ 0 then (⟨false, 0, 0⟩, storedE S b a n 1) else match S.at (a - 1).toNat with
    | none => (⟨false, 0, 0⟩, 0)
    | some l => match l[n.toNat]? with
      | some (some x) => (x, 0)
      | _ => (⟨false, 0, 0⟩, 0)

set_option maxHeartbeats 400000 in
theorem set_any (R : RepAt w mb lm loc S) (b : Bool) (a n : Int) :
    Calls Try.prog 31 #[.pointer (some ⟨mb, 0, none⟩), .agg #[.bool b, .int .i64 a, .int .i64 n]] w fun e w' =>
      e = .returned (.bool (decide (storedE S b a n 1 = 0))) ∧ Below w.heap.size w w' := by
  by_cases he : storedE S b a n 1 = 0
  · obtain ⟨k, N, l, rfl, rfl, rfl, hl, hN, hs⟩ := storedE_zero he (by omega)
    have HE := Lib.hid he
    clear he
    go_enter Try.func31, Try.ntmps31
    go_wp2_with fail
    refine (stored_ok (R.alloc _) k l hl N 1 hN (by omega) (by omega) hs).mono ?_
    rintro e w1 ⟨rfl, hb⟩
    go_wp2
    go_ret
    exact ⟨by rw [HE.out]; rfl, box_below hb⟩
  · obtain ⟨er, her⟩ : ∃ er, storedE S b a n 1 = er := ⟨_, rfl⟩
    have HE := Lib.hid her
    have hne : er ≠ 0 := by rw [← her]; exact he
    have hd : (er == 0) = false := by simpa using hne
    clear he her
    go_enter Try.func31, Try.ntmps31
    go_wp2_with fail
    refine (stored_fail (R.alloc _) b a n 1 er HE.out hne (by omega)).mono ?_
    rintro e w1 ⟨rfl, hb⟩
    go_wp2
    go_ret
    exact ⟨by rw [HE.out]; simp [hne], box_below hb⟩

theorem box2_cell {w w1 : World} {o : Obj} {c : Array Value} {t : TypeId} (hb : Below ((w.alloc o).alloc (.cells c t)).heap.size ((w.alloc o).alloc (.cells c t)) w1) (j : Nat) (v : Value) (hv : c[j]? = some v) : w1.cell? ⟨w.heap.size + 1, j, none⟩ = some v := by
  have h := box_cell (w := w.alloc o) hb j v hv
  simpa using h
theorem box2_frozen {w w1 : World} {o : Obj} {c : Array Value} {t : TypeId} (hb : Below ((w.alloc o).alloc (.cells c t)).heap.size ((w.alloc o).alloc (.cells c t)) w1) (j : Nat) : w1.frozen? ⟨w.heap.size + 1, j, none⟩ = false := by
  rw [hb.frozen (p := ⟨w.heap.size + 1, j, none⟩) (by simp)]
  have h : ((w.alloc o).alloc (.cells c t)).heap[w.heap.size + 1]? = some (.cells c t) := by
    have := heap_alloc_new (w.alloc o) (.cells c t)
    simpa using this
  simp only [World.frozen?, h]
  simp
theorem box2_below {w w1 : World} {o o' : Obj} (hb : Below ((w.alloc o).alloc o').heap.size ((w.alloc o).alloc o') w1) : Below w.heap.size w w1 :=
  (((Below.refl _ _).alloc (Nat.le_refl _) _).alloc (by simp) _).trans (hb.mono (by simp; omega))
theorem box2_size {w w1 : World} {o o' : Obj} (hb : Below ((w.alloc o).alloc o').heap.size ((w.alloc o).alloc o') w1) : w.heap.size + 1 < w1.heap.size := by
  have := hb.size
  simp at this
  omega

set_option maxHeartbeats 400000 in
theorem load_fail (R : RepAt w mb lm loc S) (b : Bool) (a n er : Int) (he : storedE S b a n 1 = er) (hne : er ≠ 0) :
    Calls Try.prog 19 #[.pointer (some ⟨mb, 0, none⟩), .agg #[.bool b, .int .i64 a, .int .i64 n]] w fun e w' =>
      e = .returned (.tuple #[.agg #[.bool false, .int .i64 0, .int .i64 0], .int .i64 er]) ∧ Below w.heap.size w w' := by
  have HE := Lib.hid he
  have hd : (er == 0) = false := by simpa using hne
  have hd' : (er != 0) = true := by simpa using hne
  clear he
  go_enter Try.func19, Try.ntmps19
  go_wp2_with fail
  refine (stored_fail ((R.alloc _).alloc _) b a n 1 er HE.out hne (by omega)).mono ?_
  rintro e w1 ⟨rfl, hb⟩
  have r0 := box2_cell hb 0 (.bool false) rfl
  have r1 := box2_cell hb 1 (.int .i64 0) rfl
  have r2 := box2_cell hb 2 (.int .i64 0) rfl
  have f0 := box2_frozen hb 0
  have f1 := box2_frozen hb 1
  have f2 := box2_frozen hb 2
  have hz := box2_size hb
  go_wp2
  refine bodyPost_ret (v := .tuple #[.agg #[.bool false, .int .i64 0, .int .i64 0], .int .i64 er]) (by simp [results, Try.results19, go_sem, r0, r1, r2]) rfl ⟨rfl, ?_⟩
  exact (((box2_below hb).setCell (by simp) _).setCell (by simp) _).setCell (by simp) _

set_option maxHeartbeats 400000 in
theorem load_ok (R : RepAt w mb lm loc S) (k : Nat) (l : List Cl) (hl : S.at k = some l) (n : Nat) (x : Wd) (hx : l[n]? = some (some x)) :
    Calls Try.prog 19 #[.pointer (some ⟨mb, 0, none⟩), .agg #[.bool true, .int .i64 ((k : Int) + 1), .int .i64 (n : Int)]] w fun e w' =>
      e = .returned (.tuple #[.agg #[.bool x.p, .int .i64 x.a, .int .i64 x.n], .int .i64 0]) ∧ Below w.heap.size w w' := by
  have hn : n < l.length := (List.getElem?_eq_some_iff.1 hx).1
  have hs : Hid (scanE (l.drop n) 1 = 0) := by
    have := scanE_drop l n 1 0 (by omega)
    simp only [Nat.add_zero, hx] at this
    refine this.trans ?_
    cases l.drop (n + (0 + 1)) <;> rfl
  have HX := Lib.hid hx
  clear hx
  go_enter Try.func19, Try.ntmps19
  go_wp2_with fail
  refine (stored_ok ((R.alloc _).alloc _) k l hl n 1 hn (by omega) (by omega) hs.out).mono ?_
  rintro e w1 ⟨rfl, hb⟩
  have r0 := box2_cell hb 0 (.bool false) rfl
  have r1 := box2_cell hb 1 (.int .i64 0) rfl
  have r2 := box2_cell hb 2 (.int .i64 0) rfl
  have f0 := box2_frozen hb 0
  have f1 := box2_frozen hb 1
  have f2 := box2_frozen hb 2
  have hz := box2_size hb
  have hrow := (((R.alloc _).alloc _).below hb).blk k l hl
  have g0 := row_cell hrow n 0 _ HX.out (by omega) (.bool x.p) rfl (n * 4) (by omega)
  have g1 := row_cell hrow n 1 _ HX.out (by omega) (.int .i64 x.a) rfl (n * 4 + 1) (by omega)
  have g2 := row_cell hrow n 2 _ HX.out (by omega) (.int .i64 x.n) rfl (n * 4 + 2) (by omega)
  clear hrow
  go_wp2
  refine bodyPost_ret (v := .tuple #[.agg #[.bool x.p, .int .i64 x.a, .int .i64 x.n], .int .i64 0]) (by simp [results, Try.results19, go_sem, r0, r1, r2]) rfl ⟨rfl, ?_⟩
  exact (((box2_below hb).setCell (by simp) _).setCell (by simp) _).setCell (by simp) _

set_option maxHeartbeats 400000 in
theorem words_any (R : RepAt w mb lm loc S) : Calls Try.prog 29 #[.pointer (some ⟨mb, 0, none⟩)] w fun e w' => e = .returned (.int .i64 S.words) ∧ w = w' := by
  obtain ⟨c0, c1, c2, c3⟩ := obj_cells R.obj
  go_enter Try.func29, Try.ntmps29
  go_wp2
  go_ret
  exact ⟨rfl, rfl⟩
set_option maxHeartbeats 400000 in
theorem live_any (R : RepAt w mb lm loc S) : Calls Try.prog 27 #[.pointer (some ⟨mb, 0, none⟩)] w fun e w' => e = .returned (.int .i64 S.live) ∧ w = w' := by
  obtain ⟨c0, c1, c2, c3⟩ := obj_cells R.obj
  cases lm with
  | none =>
    have hn : S.live = 0 := by unfold MS.live; rw [R.nomap rfl]; rfl
    rw [hn]
    have hl : (Builtin.len_ #[61] 3 #[.map none]).run Try.prog w = .ok (.int .i64 0) w := by kernel_rfl
    go_enter Try.func27, Try.ntmps27
    go_wp2
    go_ret
    exact ⟨rfl, rfl⟩
  | some lb =>
    obtain ⟨D, hD, hM⟩ := R.map lb rfl
    have hl := hD.len Try.underlying61 3
    rw [hM.size] at hl
    clear hD
    go_enter Try.func27, Try.ntmps27
    go_wp2
    go_ret
    exact ⟨rfl, rfl⟩
end
end Go.Proofs.Ytbcockaleegicaa
