/-
  The document's own memory: Clear. Conditions: it lies in the heap.
-/
import Derived.Test.YtbcockaleegicaaRefE
namespace Go.Proofs.Ytbcockaleegicaa
open Go.RowKit

def RS.dropN (r : RS) (a n : Int) : Nat → RS
  | 0 => r
  | i + 1 => (r.dropN a n i).drop a (n + i)
def RS.clearR (r : RS) (b : Bool) (a n c : Int) : Int × RS :=
  if c < 0 then (1, r) else if r.check b a ≠ 0 then (r.check b a, r) else if ¬ (0 ≤ n ∧ n + c ≤ r.size a) then (13, r) else (0, r.dropN a n c.toNat)

section
variable {B : Nat} {w : World} {rb : Nat} {r : RS} {vb vc : Value}

theorem RTurned.trans {w' w'' : World} {r' r'' : RS} (h : RTurned B w w' rb r') (k : RTurned B w' w'' rb r'') : RTurned B w w'' rb r'' := ⟨k.1, h.2.trans k.2⟩

set_option maxHeartbeats 1000000 in
theorem rclear_neg (w : World) (rb : Nat) (b : Bool) (a n c : Int) (hc : c < 0) :
    Calls Try.prog 26 #[.pointer (some ⟨rb, 0, none⟩), .agg #[.bool b, .int .i64 a, .int .i64 n], .int .i64 c] w fun e w' => e = .returned (.int .i64 1) ∧ Below w.heap.size w w' := by
  have t1 : decide (c < 0) = true := by simpa using hc
  clear hc
  go_enter Try.func26, Try.ntmps26
  go_wp2
  go_ret
  exact ⟨rfl, by go_grown⟩

set_option maxHeartbeats 1000000 in
theorem rclear_err (R : RefAt B w rb r vb vc) (b : Bool) (a n c er : Int) (hc : ¬ c < 0) (he : r.check b a = er) (hne : er ≠ 0) :
    Calls Try.prog 26 #[.pointer (some ⟨rb, 0, none⟩), .agg #[.bool b, .int .i64 a, .int .i64 n], .int .i64 c] w fun e w' => e = .returned (.int .i64 er) ∧ Below w.heap.size w w' := by
  have t1 : decide (c < 0) = false := by simpa using hc
  have HE := Lib.hid he
  have hd : (er == 0) = false := by simpa using hne
  have hd' : (er != 0) = true := by simpa using hne
  clear he hc
  go_enter Try.func26, Try.ntmps26
  go_wp2_with fail
  refine (rcheck_any (R.alloc _) b a n).mono ?_
  rintro e w1 ⟨rfl, hb⟩
  rw [HE.out]
  go_wp2
  go_ret
  exact ⟨rfl, box_below hb⟩

set_option maxHeartbeats 1000000 in
theorem rclear_range (R : RefAt B w rb r vb vc) (k m : Nat) (hk : r.bs[k]? = some (m, false)) (n : Int) (C : Nat) (hC : C ≤ 1000000) (hn : ¬ (0 ≤ n ∧ n + C ≤ m)) :
    Calls Try.prog 26 #[.pointer (some ⟨rb, 0, none⟩), .agg #[.bool true, .int .i64 ((k : Int) + 1), .int .i64 n], .int .i64 C] w fun e w' => e = .returned (.int .i64 13) ∧ Below w.heap.size w w' := by
  have t1 : decide ((C : Int) < 0) = false := by simp
  have HE := Lib.hid (show r.check true ((k : Int) + 1) = 0 by
    unfold RS.check
    have := (List.getElem?_eq_some_iff.1 hk).1
    rw [if_neg (by simp), if_neg (by omega), show ((k : Int) + 1 - 1).toNat = k by omega, hk])
  have hm : m ≤ 1048576 := by have := words_le hk; have := R.words; have := R.room1; omega
  have HN := Lib.hid (show decide (0 ≤ n ∧ n + C ≤ (m : Int)) = false by simpa using hn)
  replace hk := Lib.hid hk
  clear hn
  go_enter Try.func26, Try.ntmps26
  go_wp2_with fail
  refine (rcheck_any (R.alloc _) true _ n).mono ?_
  rintro e w1 ⟨rfl, hb⟩
  rw [HE.out]
  obtain ⟨q0, q1, q2⟩ := box_cells (box_heap hb)
  have R1 := (R.alloc _).below hb
  go_wp2_with fail
  refine (rhas_any R1 k m false hk.out hm true n C (by omega)).mono ?_
  rintro e w2 ⟨rfl, hb2⟩
  rw [HN.out]
  replace hb := hb.trans (hb2.mono hb.size)
  go_wp2
  go_ret
  exact ⟨rfl, box_below hb⟩

set_option maxHeartbeats 1000000 in
theorem rclear_ok (R : RefAt B w rb r vb vc) (k m : Nat) (hk : r.bs[k]? = some (m, false)) (n : Int) (C : Nat) (hC : C ≤ 1000000) (hn : 0 ≤ n ∧ n + C ≤ m) :
    Calls Try.prog 26 #[.pointer (some ⟨rb, 0, none⟩), .agg #[.bool true, .int .i64 ((k : Int) + 1), .int .i64 n], .int .i64 C] w fun e w' => e = .returned (.int .i64 0) ∧ RTurned B w w' rb (r.dropN ((k : Int) + 1) n C) := by
  have t1 : decide ((C : Int) < 0) = false := by simp
  have HE := Lib.hid (show r.check true ((k : Int) + 1) = 0 by
    unfold RS.check
    have := (List.getElem?_eq_some_iff.1 hk).1
    rw [if_neg (by simp), if_neg (by omega), show ((k : Int) + 1 - 1).toNat = k by omega, hk])
  have hm : m ≤ 1048576 := by have := words_le hk; have := R.words; have := R.room1; omega
  have HN := Lib.hid (show decide (0 ≤ n ∧ n + C ≤ (m : Int)) = true by simpa using hn)
  replace hk := Lib.hid hk
  obtain ⟨N, rfl⟩ : ∃ N : Nat, n = N := ⟨n.toNat, by omega⟩
  have hNC : N + C ≤ 1048576 := by omega
  clear hn
  go_enter Try.func26, Try.ntmps26
  go_wp2_with fail
  refine (rcheck_any (R.alloc _) true _ N).mono ?_
  rintro e w1 ⟨rfl, hb⟩
  rw [HE.out]
  obtain ⟨q0, q1, q2⟩ := box_cells (box_heap hb)
  have R1 := (R.alloc _).below hb
  go_wp2_with fail
  refine (rhas_any R1 k m false hk.out hm true N C (by omega)).mono ?_
  rintro e w2 ⟨rfl, hb2⟩
  rw [HN.out]
  replace hb := hb.trans (hb2.mono hb.size)
  clear q0 q1 q2 hb2
  replace R1 := (R.alloc _).below hb
  have hbx := box_heap hb
  have hT : RTurned B w w2 rb (r.dropN ((k : Int) + 1) N 0) := .same R (box_below hb)
  clear hb
  go_wp2_with fail
  go_loopw [8] (fun ui wr => ∃ i : Nat, i ≤ C ∧ ui = .int .i64 i ∧ RTurned B w wr rb (r.dropN ((k : Int) + 1) N i) ∧ wr.heap[w.heap.size]? = some (.cells #[.bool true, .int .i64 ((k : Int) + 1), .int .i64 N] 30)) (fun ui _ => C - (intOf ui).toNat)
  case atStart => exact ⟨0, by omega, rfl, hT, hbx⟩
  case round =>
    obtain ⟨i, hi, rfl, ⟨⟨vb1, vc1, Rr⟩, Kr⟩, hbx⟩ := hrel
    by_cases hil : i < C
    · have t2 : decide ((i : Int) < C) = true := by simpa using hil
      obtain ⟨q0, q1, q2⟩ := box_cells hbx
      go_wp2_with fail
      refine (rdrop_any Rr ((k : Int) + 1) ((N : Int) + i)).mono ?_
      rintro e w4 ⟨rfl, hT⟩
      have hbx' := hT.2.box hbx
      have hK := Kr.trans hT.2
      go_wp2
      go_roundw
      case rel => exact ⟨i + 1, by omega, by go_num, ⟨hT.1, hK⟩, hbx'⟩
      case measure => simp [intOf]; omega
    · have t2 : decide ((i : Int) < C) = false := by simpa using hil
      obtain rfl : i = C := by omega
      go_wp2
      go_ret
      exact ⟨rfl, ⟨_, _, Rr⟩, Kr⟩

theorem rclear_any (R : RefAt B w rb r vb vc) (b : Bool) (a n c er : Int) (r' : RS) (h : r.clearR b a n c = (er, r')) (hc : c ≤ 1000) :
    Calls Try.prog 26 #[.pointer (some ⟨rb, 0, none⟩), .agg #[.bool b, .int .i64 a, .int .i64 n], .int .i64 c] w fun e w' => e = .returned (.int .i64 er) ∧ RTurned B w w' rb r' := by
  unfold RS.clearR at h
  by_cases h0 : c < 0
  · rw [if_pos h0] at h
    cases h
    exact (rclear_neg w rb b a n c h0).mono fun e w' ⟨he, hb⟩ => ⟨he, .same R hb⟩
  · rw [if_neg h0] at h
    by_cases h1 : r.check b a = 0
    · rw [if_neg (by simpa using h1)] at h
      obtain ⟨k, m, rfl, rfl, hk⟩ := check_zero h1
      rw [size_at hk] at h
      obtain ⟨C, rfl⟩ : ∃ C : Nat, c = C := ⟨c.toNat, by omega⟩
      by_cases h2 : 0 ≤ n ∧ n + C ≤ m
      · rw [if_neg (by simpa using h2)] at h
        cases h
        rw [Int.toNat_natCast]
        exact rclear_ok R k m hk n C (by omega) h2
      · rw [if_pos h2] at h
        cases h
        exact (rclear_range R k m hk n C (by omega) h2).mono fun e w' ⟨he, hb⟩ => ⟨he, .same R hb⟩
    · rw [if_pos h1] at h
      cases h
      exact (rclear_err R b a n c _ h0 rfl h1).mono fun e w' ⟨he, hb⟩ => ⟨he, .same R hb⟩
end
end Go.Proofs.Ytbcockaleegicaa
