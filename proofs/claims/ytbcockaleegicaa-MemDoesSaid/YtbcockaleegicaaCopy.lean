/-
  The walks of (*mem.Memory).Copy and Clear. Conditions: the memory lies in the heap.
-/
import Derived.Test.YtbcockaleegicaaCalls
namespace Go.Proofs.Ytbcockaleegicaa
open Go.RowKit

theorem rowv_take (l : List Cl) (n : Nat) : (rowv l).take (n * 4) = rowv (l.take n) := by
  by_cases h : n ≤ l.length
  · conv => lhs; rw [← List.take_append_drop n l, rowv_append]
    rw [List.take_append_of_le_length (by rw [rowv_length, List.length_take]; omega), List.take_of_length_le (by rw [rowv_length, List.length_take]; omega)]
  · rw [List.take_of_length_le (by rw [rowv_length]; omega), List.take_of_length_le (by omega)]
theorem rowv_drop (l : List Cl) (n : Nat) : (rowv l).drop (n * 4) = rowv (l.drop n) := by
  by_cases h : n ≤ l.length
  · conv => lhs; rw [← List.take_append_drop n l, rowv_append]
    rw [List.drop_append_of_le_length (by rw [rowv_length, List.length_take]; omega), List.drop_of_length_le (by rw [rowv_length, List.length_take]; omega)]
    simp
  · rw [List.drop_of_length_le (by rw [rowv_length]; omega), List.drop_of_length_le (by omega)]
    rfl

/-- where c words from n on are others -/
def lay (l : List Cl) (n : Nat) (cs : List Cl) : List Cl := l.take n ++ cs ++ l.drop (n + cs.length)
theorem lay_length (l : List Cl) (n : Nat) (cs : List Cl) (h : n + cs.length ≤ l.length) : (lay l n cs).length = l.length := by simp [lay]; omega
theorem rowv_lay (l : List Cl) (n : Nat) (cs : List Cl) : (rowv l).take (n * 4) ++ rowv cs ++ (rowv l).drop (n * 4 + (rowv cs).length) = rowv (lay l n cs) := by
  rw [lay, rowv_append, rowv_append, rowv_take, rowv_length, show n * 4 + 4 * cs.length = (n + cs.length) * 4 by omega, rowv_drop]

theorem cv_one (l : List Cl) : ∀ v ∈ rowv l, v.oneCell' = true := by
  intro v hv
  obtain ⟨c, _, hc⟩ := List.mem_flatMap.1 hv
  cases c <;> simp [cv] at hc <;> rcases hc with rfl | rfl | rfl | rfl <;> rfl

theorem size69 : (Try.prog.info? 69).map (·.size) = some 4 := by kernel_rfl
theorem zero69 (w : World) : (zeroValue 69).run Try.prog w = .ok (.agg #[.bool false, .int .i64 0, .int .i64 0, .bool false]) w := by kernel_rfl

theorem run_copy_wide {P : Program} (w : World) (dT sT ty elem : TypeId) (g o dLen dCap : Nat) (a : Addr) (sLen sCap sz : Nat) (cur : Array Value) (t : TypeId) (cs : List Value)
    (hu : P.underlying dT = some (.slice elem)) (hs : (P.info? elem).map (·.size) = some sz)
    (hg : w.heap[g]? = some (.cells cur t (0, 0))) (hn : cs.length = Nat.min sLen dLen * sz)
    (hsrc : ∀ j v, cs[j]? = some v → w.cell? (a.add j) = some v) (hfit : o + cs.length ≤ cur.size) (h1 : ∀ v ∈ cs, v.oneCell' = true) :
    (Builtin.copy_ #[dT, sT] ty #[.slice (some ⟨g, o, none⟩) dLen dCap, .slice (some a) sLen sCap]).run P w =
      .ok (goInt (Nat.min sLen dLen)) (w.setRow g (cur.toList.take o ++ cs ++ cur.toList.drop (o + cs.length)).toArray) := by
  have hl := run_loadCells_list (P := P) w a cs hsrc
  have hst := run_storeCells_at P g o t cs 0 cur w hg (by simpa using hfit) h1
  cases hq : P.info? elem with
  | none => simp [hq] at hs
  | some i =>
    have hi : i.size = sz := by simpa [hq] using hs
    simp [Builtin.copy_, run_underlying hu, Builtin.lenOf, Builtin.firstCells, sizeOf, typeInfo, hq, hi, ← hn, hl, hst]

theorem run_clear_wide {P : Program} (w : World) (t e ty : TypeId) (z : Value) (ht : P.underlying t = some (.slice e)) (hv : ∀ w, (zeroValue e).run P w = .ok z w) (g o n c : Nat) (hn : 0 < n) (cur : Array Value) (tt : TypeId) (cs : List Value)
    (hz : (Builtin.zeroCells z.cells n).toList = cs) (hg : w.heap[g]? = some (.cells cur tt (0, 0))) (hfit : o + cs.length ≤ cur.size) (h1 : ∀ v ∈ cs, v.oneCell' = true) :
    (Builtin.clear_ #[t] ty #[.slice (some ⟨g, o, none⟩) n c]).run P w = .ok (.tuple #[]) (w.setRow g (cur.toList.take o ++ cs ++ cur.toList.drop (o + cs.length)).toArray) := by
  have hst := run_storeCells_at P g o tt cs 0 cur w hg (by simpa using hfit) h1
  obtain ⟨m, rfl⟩ : ∃ m, n = m + 1 := ⟨n - 1, by omega⟩
  simp [Builtin.clear_, run_underlying ht, hv, hz, hst]

theorem zeroCells_eq (n : Nat) : (Builtin.zeroCells #[.bool false, .int .i64 0, .int .i64 0, .bool false] n).toList = rowv (List.replicate n none) := by
  have h := zeros_eq n
  unfold madeCells at h
  unfold Builtin.zeroCells
  have h2 := congrArg Array.toList h
  simpa using h2

theorem run_clear_nil (w : World) (ad : Option Addr) (c : Nat) (ty : TypeId) : (Builtin.clear_ #[64] ty #[.slice ad 0 c]).run Try.prog w = .ok (.tuple #[]) w := by
  cases ad <;> simp [Builtin.clear_, run_underlying Try.underlying64]

section
variable {w : World} {mb : Nat} {lm : Option Nat} {loc : Nat → Nat} {S : MS}

theorem clear_row {w1 : World} {b : Nat} {l : List Cl} (hrow : w1.heap[b]? = some (.cells (rowv l).toArray 69)) (n c cap : Nat) (hc : 0 < c) (hnc : n + c ≤ l.length) (ty : TypeId) :
    (Builtin.clear_ #[64] ty #[.slice (some ⟨b, n * 4, none⟩) c cap]).run Try.prog w1 = .ok (.tuple #[]) (w1.setRow b (rowv (lay l n (List.replicate c none))).toArray) := by
  have h := run_clear_wide w1 64 69 ty _ Try.underlying64 zero69 b (n * 4) c cap hc _ 69 _ (zeroCells_eq c) hrow (by simp [rowv_length]; omega) (cv_one _)
  rw [List.toList_toArray, rowv_lay] at h
  exact h

theorem copy_row {w1 : World} {b d : Nat} {l m : List Cl} (hrow : w1.heap[b]? = some (.cells (rowv l).toArray 69)) (hsrc : w1.heap[d]? = some (.cells (rowv m).toArray 69)) (n f c cap cap' : Nat) (hnc : n + c ≤ l.length) (hfc : f + c ≤ m.length) (ty : TypeId) :
    (Builtin.copy_ #[64, 64] ty #[.slice (some ⟨b, n * 4, none⟩) c cap, .slice (some ⟨d, f * 4, none⟩) c cap']).run Try.prog w1 = .ok (goInt c) (w1.setRow b (rowv (lay l n ((m.drop f).take c))).toArray) := by
  have hlen : ((m.drop f).take c).length = c := by simp; omega
  have hl4 : (rowv ((m.drop f).take c)).length = 4 * c := by rw [rowv_length, hlen]
  have hmin : Nat.min c c = c := Nat.min_self c
  have h := run_copy_wide (P := Try.prog) w1 64 64 ty 69 b (n * 4) c cap ⟨d, f * 4, none⟩ c cap' 4 _ 69 (rowv ((m.drop f).take c)) Try.underlying64 size69 hrow (by rw [hl4, hmin]; omega) ?_ (by simp [rowv_length]; omega) (cv_one _)
  · rw [List.toList_toArray, rowv_lay, hmin] at h
    exact h
  · intro j v hv
    have hadd : (⟨d, f * 4, none⟩ : Addr).add j = ⟨d, f * 4 + j, none⟩ := by unfold Addr.add; split <;> simp_all
    rw [hadd]
    simp only [World.cell?, hsrc]
    rw [← rowv_take, ← rowv_drop, List.getElem?_take] at hv
    split at hv
    · rw [List.getElem?_drop] at hv
      simpa using hv
    · cases hv

set_option maxHeartbeats 400000 in
theorem clear_neg (mb : Nat) (b : Bool) (a n c : Int) (w : World) (hc : c < 0) :
    Calls Try.prog 25 #[.pointer (some ⟨mb, 0, none⟩), .agg #[.bool b, .int .i64 a, .int .i64 n], .int .i64 c] w fun e w' => e = .returned (.int .i64 1) ∧ Below w.heap.size w w' := by
  have hd : decide (c < 0) = true := by simpa using hc
  go_enter Try.func25, Try.ntmps25
  go_wp2
  go_ret
  exact ⟨rfl, by go_grown⟩

set_option maxHeartbeats 400000 in
theorem clear_fail (R : RepAt w mb lm loc S) (b : Bool) (a n c er : Int) (he : spanE S b a n c = er) (hne : er ≠ 0) (hn : n ≤ 9223372036854775807) (hc : 0 ≤ c) :
    Calls Try.prog 25 #[.pointer (some ⟨mb, 0, none⟩), .agg #[.bool b, .int .i64 a, .int .i64 n], .int .i64 c] w fun e w' => e = .returned (.int .i64 er) ∧ Below w.heap.size w w' := by
  have HE := Lib.hid he
  have hd : (er == 0) = false := by simpa using hne
  have hd' : (er != 0) = true := by simpa using hne
  have hd2 : decide (c < 0) = false := by simpa using hc
  clear he
  go_enter Try.func25, Try.ntmps25
  go_wp2_with fail
  refine (span_fail (R.alloc _) b a n c er HE.out hne hn).mono ?_
  rintro e w1 ⟨rfl, hb⟩
  go_wp2
  go_ret
  exact ⟨rfl, box_below hb⟩

set_option maxHeartbeats 400000 in
theorem clear_ok (R : RepAt w mb lm loc S) (k : Nat) (l : List Cl) (hl : S.at k = some l) (n c : Nat) (hnc : n + c ≤ l.length) :
    Calls Try.prog 25 #[.pointer (some ⟨mb, 0, none⟩), .agg #[.bool true, .int .i64 ((k : Int) + 1), .int .i64 (n : Int)], .int .i64 (c : Int)] w fun e w' =>
      e = .returned (.int .i64 0) ∧ Turned w w' mb lm loc S (S.setb k (some (lay l n (List.replicate c none)))) := by
  have hd2 : decide ((c : Int) < 0) = false := by simp
  by_cases hc : c = 0
  · subst hc
    have hlay : lay l n (List.replicate 0 none) = l := by simp [lay]
    rw [hlay]
    go_enter Try.func25, Try.ntmps25
    go_wp2_with fail
    refine (span_ok (R.alloc _) k l hl n 0 hnc (R.len hl)).mono ?_
    rintro e w1 ⟨⟨ad, rfl, had⟩, hb⟩
    have hrun := fun ty => run_clear_nil w1 (some ad) (l.length - n) ty
    clear had
    go_wp2
    go_ret
    exact ⟨rfl, row_rep R hl rfl (box_below hb) (((R.alloc _).below hb).blk k l hl) (fun _ _ => rfl) ⟨rfl, rfl, rfl, Nat.le_refl _⟩⟩
  · go_enter Try.func25, Try.ntmps25
    go_wp2_with fail
    refine (span_ok (R.alloc _) k l hl n c hnc (R.len hl)).mono ?_
    rintro e w1 ⟨⟨ad, rfl, had⟩, hb⟩
    obtain rfl := had (by omega)
    have hrow := ((R.alloc _).below hb).blk k l hl
    have hrun := fun ty => clear_row hrow n c (l.length - n) (by omega) hnc ty
    have HR := Lib.hid hrow
    clear hrow had
    go_wp2
    go_ret
    refine ⟨rfl, row_rep R hl (by rw [lay_length _ _ _ (by simpa using hnc)]) (box_below hb) (setRow_heap w1 _ _ _ _ _ HR.out) (fun b hne => setRow_other w1 _ b _ hne) ⟨rfl, rfl, rfl, by simp [World.setRow]⟩⟩
set_option maxHeartbeats 400000 in
theorem copy_neg (mb : Nat) (b b' : Bool) (a n a' n' c : Int) (w : World) (hc : c < 0) :
    Calls Try.prog 23 #[.pointer (some ⟨mb, 0, none⟩), .agg #[.bool b, .int .i64 a, .int .i64 n], .agg #[.bool b', .int .i64 a', .int .i64 n'], .int .i64 c] w fun e w' => e = .returned (.int .i64 1) ∧ Below w.heap.size w w' := by
  have hd : decide (c < 0) = true := by simpa using hc
  go_enter Try.func23, Try.ntmps23
  go_wp2
  go_ret
  exact ⟨rfl, by go_grown⟩

set_option maxHeartbeats 400000 in
theorem copy_fail1 (R : RepAt w mb lm loc S) (b b' : Bool) (a n a' n' : Int) (c : Nat) (er : Int) (he : storedE S b' a' n' c = er) (hne : er ≠ 0) (hc : (c : Int) < 9223372036854775807) :
    Calls Try.prog 23 #[.pointer (some ⟨mb, 0, none⟩), .agg #[.bool b, .int .i64 a, .int .i64 n], .agg #[.bool b', .int .i64 a', .int .i64 n'], .int .i64 (c : Int)] w fun e w' => e = .returned (.int .i64 er) ∧ Below w.heap.size w w' := by
  have HE := Lib.hid he
  have hd : (er == 0) = false := by simpa using hne
  have hd' : (er != 0) = true := by simpa using hne
  have hd2 : decide ((c : Int) < 0) = false := by simp
  clear he
  go_enter Try.func23, Try.ntmps23
  go_wp2_with fail
  refine (stored_fail ((R.alloc _).alloc _) b' a' n' c er HE.out hne hc).mono ?_
  rintro e w1 ⟨rfl, hb⟩
  go_wp2
  go_ret
  exact ⟨rfl, box2_below hb⟩

set_option maxHeartbeats 400000 in
theorem copy_fail2 (R : RepAt w mb lm loc S) (b b' : Bool) (a n a' n' : Int) (c : Nat) (er : Int) (h0 : storedE S b' a' n' c = 0) (he : spanE S b a n c = er) (hne : er ≠ 0) (hn : n ≤ 9223372036854775807) (hc' : c < 9223372036854775807) :
    Calls Try.prog 23 #[.pointer (some ⟨mb, 0, none⟩), .agg #[.bool b, .int .i64 a, .int .i64 n], .agg #[.bool b', .int .i64 a', .int .i64 n'], .int .i64 (c : Int)] w fun e w' => e = .returned (.int .i64 er) ∧ Below w.heap.size w w' := by
  have HE := Lib.hid he
  have hd : (er == 0) = false := by simpa using hne
  have hd' : (er != 0) = true := by simpa using hne
  have hd2 : decide ((c : Int) < 0) = false := by simp
  clear he
  by_cases hc : c = 0
  · subst hc
    go_enter Try.func23, Try.ntmps23
    go_wp2_with fail
    refine (stored_zero mb b' a' n' _).mono ?_
    rintro e w1 ⟨rfl, hb⟩
    have Rn := ((R.alloc (.cells #[.bool b, .int .i64 a, .int .i64 n] 30)).alloc (.cells #[.bool b', .int .i64 a', .int .i64 n'] 30)).below hb
    have v := ((Var.mk w b a n).alloc (.cells #[.bool b', .int .i64 a', .int .i64 n'] 30)).below hb
    obtain ⟨p0, p1, p2⟩ := v.cells
    go_wp2_with fail
    refine (span_fail Rn b a n 0 er HE.out hne hn).mono ?_
    rintro e w2 ⟨rfl, hb2⟩
    go_wp2
    go_ret
    exact ⟨rfl, (box2_below hb).trans (hb2.mono (box2_below hb).size)⟩
  · obtain ⟨k, N, l, rfl, rfl, rfl, hl, hN, hs⟩ := storedE_zero h0 (by omega)
    rw [Int.toNat_natCast] at hs
    clear h0
    go_enter Try.func23, Try.ntmps23
    go_wp2_with fail
    refine (stored_ok ((R.alloc _).alloc _) k l hl N c hN (by omega) hc' hs).mono ?_
    rintro e w1 ⟨rfl, hb⟩
    have Rn := ((R.alloc _).alloc _).below hb
    have v := ((Var.mk w b a n).alloc (.cells #[.bool true, .int .i64 ((k : Int) + 1), .int .i64 (N : Int)] 30)).below hb
    obtain ⟨p0, p1, p2⟩ := v.cells
    go_wp2_with fail
    refine (span_fail Rn b a n c er HE.out hne hn).mono ?_
    rintro e w2 ⟨rfl, hb2⟩
    go_wp2
    go_ret
    exact ⟨rfl, (box2_below hb).trans (hb2.mono (box2_below hb).size)⟩

set_option maxHeartbeats 400000 in
theorem copy_zero (R : RepAt w mb lm loc S) (b b' : Bool) (a n a' n' : Int) (he : spanE S b a n 0 = 0) :
    Calls Try.prog 23 #[.pointer (some ⟨mb, 0, none⟩), .agg #[.bool b, .int .i64 a, .int .i64 n], .agg #[.bool b', .int .i64 a', .int .i64 n'], .int .i64 0] w fun e w' => e = .returned (.int .i64 0) ∧ Below w.heap.size w w' := by
  obtain ⟨k, N, l, rfl, rfl, rfl, hl, hN⟩ := spanE_zero he
  clear he
  go_enter Try.func23, Try.ntmps23
  go_wp2_with fail
  refine (stored_zero mb b' a' n' _).mono ?_
  rintro e w1 ⟨rfl, hb⟩
  have Rn := ((R.alloc (.cells #[.bool true, .int .i64 ((k : Int) + 1), .int .i64 (N : Int)] 30)).alloc (.cells #[.bool b', .int .i64 a', .int .i64 n'] 30)).below hb
  have v := ((Var.mk w true ((k : Int) + 1) N).alloc (.cells #[.bool b', .int .i64 a', .int .i64 n'] 30)).below hb
  obtain ⟨p0, p1, p2⟩ := v.cells
  go_wp2_with fail
  refine (span_ok Rn k l hl N 0 (by omega) (Rn.len hl)).mono ?_
  rintro e w2 ⟨⟨ad, rfl, had⟩, hb2⟩
  have hrun := fun ty => run_copy_nil (P := Try.prog) w2 64 64 ty 69 ad 0 (l.length - N) Try.underlying64 (by rw [size69]; rfl)
  clear had
  go_wp2
  go_ret
  exact ⟨rfl, (box2_below hb).trans (hb2.mono (box2_below hb).size)⟩

set_option maxHeartbeats 400000 in
theorem copy_ok (R : RepAt w mb lm loc S) (k k' : Nat) (l l' : List Cl) (hl : S.at k = some l) (hl' : S.at k' = some l') (n n' c : Nat) (hnc : n + c ≤ l.length) (hn' : n' < l'.length) (hc : 0 < c) (hs : scanE (l'.drop n') c = 0) (hfc : n' + c ≤ l'.length) (hc' : c < 9223372036854775807) :
    Calls Try.prog 23 #[.pointer (some ⟨mb, 0, none⟩), .agg #[.bool true, .int .i64 ((k : Int) + 1), .int .i64 (n : Int)], .agg #[.bool true, .int .i64 ((k' : Int) + 1), .int .i64 (n' : Int)], .int .i64 (c : Int)] w fun e w' =>
      e = .returned (.int .i64 0) ∧ Turned w w' mb lm loc S (S.setb k (some (lay l n ((l'.drop n').take c)))) := by
  have hd2 : decide ((c : Int) < 0) = false := by simp
  go_enter Try.func23, Try.ntmps23
  go_wp2_with fail
  refine (stored_ok ((R.alloc _).alloc _) k' l' hl' n' c hn' hc hc' hs).mono ?_
  rintro e w1 ⟨rfl, hb⟩
  have Rn := ((R.alloc (.cells #[.bool true, .int .i64 ((k : Int) + 1), .int .i64 (n : Int)] 30)).alloc (.cells #[.bool true, .int .i64 ((k' : Int) + 1), .int .i64 (n' : Int)] 30)).below hb
  have v := ((Var.mk w true ((k : Int) + 1) n).alloc (.cells #[.bool true, .int .i64 ((k' : Int) + 1), .int .i64 (n' : Int)] 30)).below hb
  obtain ⟨p0, p1, p2⟩ := v.cells
  go_wp2_with fail
  refine (span_ok Rn k l hl n c hnc (Rn.len hl)).mono ?_
  rintro e w2 ⟨⟨ad, rfl, had⟩, hb2⟩
  obtain rfl := had hc
  have Rm := Rn.below hb2
  have hrow := Rm.blk k l hl
  have hrun := fun ty => copy_row hrow (Rm.blk k' l' hl') n n' c (l.length - n) (l'.length - n') hnc hfc ty
  have HR := Lib.hid hrow
  clear hrow had
  go_wp2
  go_ret
  refine ⟨rfl, row_rep R hl (by rw [lay_length _ _ _ (by simp; omega)]) ((box2_below hb).trans (hb2.mono (box2_below hb).size)) (setRow_heap w2 _ _ _ _ _ HR.out) (fun b hne => setRow_other w2 _ b _ hne) ⟨rfl, rfl, rfl, by simp [World.setRow]⟩⟩
end
end Go.Proofs.Ytbcockaleegicaa
