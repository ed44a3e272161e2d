/-
  Graph: slices.Repeat of one bool; the library's Mul, once n. Conditions: n is at most 1000.
-/
import Derived.Test.YtfpdecjlfnambaaGChg
import Derived.Laws.Bits64b
import Derived.Deep.OwnRows
import Derived.Laws.CopyRow
namespace Go.Proofs.Ytfpdecjlfnambaa
open Go Go.RowKit

set_option maxRecDepth 100000 in
set_option maxHeartbeats 4000000 in
theorem mul64_any (n : Nat) (hn : n ≤ 1000) (w : World) : Calls Try.prog 62 #[.int .u64 1, .int .u64 (n : Int)] w fun e w' => e = .returned (.tuple #[.int .u64 0, .int .u64 (n : Int)]) ∧ w' = w := by
  have b1 : bits .and .u64 1 4294967295 = 1 := by decide
  have b0 : bits .and .u64 0 4294967295 = 0 := by decide
  have bn : bits .and .u64 (n : Int) 4294967295 = (n : Int) := by
    have := bits_and_u64_nat n 4294967295 (by omega) (by omega)
    rw [show ((4294967295 : Nat) : Int) = 4294967295 from rfl] at this
    rw [this]
    have h2 : n &&& 4294967295 = n % 4294967296 := Nat.and_two_pow_sub_one_eq_mod n 32
    rw [h2]
    omega
  have b2 : (n : Int) / 4294967296 = 0 := by omega
  go_enter Try.func62, Try.ntmps62
  go_wp2
  go_ret2
  exact ⟨rfl, rfl⟩

set_option maxRecDepth 100000 in
set_option maxHeartbeats 4000000 in
theorem mul_any (n : Nat) (hn : n ≤ 1000) (w : World) : Calls Try.prog 54 #[.int .u64 1, .int .u64 (n : Int)] w fun e w' => e = .returned (.tuple #[.int .u64 0, .int .u64 (n : Int)]) ∧ w' = w := by
  go_enter Try.func54, Try.ntmps54
  go_wp2_with (go_at_call 62; refine (mul64_any n hn _).mono ?_; rintro e w' ⟨rfl, rfl⟩)
  go_ret2
  exact ⟨rfl, rfl⟩

theorem infoBool : (Try.prog.info? 4).map (fun i => (i.zero, i.size, i.bytes)) = some (some (.bool false), 1, 1) := by kernel_rfl
theorem made_one (z : Value) (n : Nat) : madeCells #[z] n = (List.replicate n z).toArray := by
  apply Array.toList_inj.1
  rw [toList_madeCells_one]
theorem make_bools (n : Nat) (h : n ≤ 1000) (w : World) : (Instr.makeSlice 26 (.int .i64 (n : Int)) (.int .i64 (n : Int))).run Try.prog w = .ok (.slice (some ⟨w.heap.size, 0, none⟩) n n) (w.alloc (.cells (bC (List.replicate n false)).toArray 4)) := by
  rw [run_make_row' 26 4 (.bool false) 1 Try.underlying26 infoBool rfl .i64 .i64 n (by omega) (by omega) w, made_one]
  simp [bC]
theorem rep_step (m c n : Nat) (b : Bool) (h : m + c ≤ n) : (List.replicate m b ++ List.replicate (n - m) false).take m ++ List.replicate c b ++ (List.replicate m b ++ List.replicate (n - m) false).drop (m + c) = List.replicate (m + c) b ++ List.replicate (n - (m + c)) false := by
  rw [List.take_left' (by simp), ← List.drop_drop, List.drop_left' (by simp), List.drop_replicate, List.replicate_append_replicate, Nat.sub_sub]
theorem copy_row (r m : Nat) (oa : Option Addr) (sn sc c : Nat) (b : Bool) (n : Nat) (L : List Bool) (w : World) (hr : Bx w r 4 (bC L)) (hL : L.length = n) (hm : m ≤ n) (hc : c = Nat.min sn (n - m)) (hsrc : 0 < c → ∃ g, oa = some ⟨g, 0, none⟩ ∧ ∀ j, j < c → w.cell? ⟨g, j, none⟩ = some (.bool b)) :
    ∃ w', (Builtin.copy_ #[26, 26] 3 #[.slice (some ⟨r, m, none⟩) (n - m) (n - m), .slice oa sn sc]).run Try.prog w = .ok (.int .i64 (c : Int)) w' ∧ Kep (fun k => k = r) w w' ∧ Bx w' r 4 (bC (L.take m ++ List.replicate c b ++ L.drop (m + c))) := by
  rcases Nat.eq_zero_or_pos c with h0 | h0
  · refine ⟨w, ?_, Kep.refl _ _, ?_⟩
    · rw [run_copy_none w _ _ _ 4 _ _ _ _ _ _ Try.underlying26 (by kernel_rfl) (by rw [← hc, h0]), h0]
      rfl
    · rw [h0]
      simpa using hr
  · obtain ⟨g, rfl, hg⟩ := hsrc h0
    have e := run_copy_row (P := Try.prog) w 26 26 3 4 r m (n - m) (n - m) ⟨g, 0, none⟩ sn sc (bC L).toArray 4 (List.replicate c (.bool b)) Try.underlying26 (by kernel_rfl) hr (by rw [List.length_replicate, hc])
      (fun j v hj => by
        have hjc : j < c := by
          have := (List.getElem?_eq_some_iff.1 hj).1
          rwa [List.length_replicate] at this
        rw [List.getElem?_replicate, if_pos hjc] at hj
        cases hj
        rw [show (⟨g, 0, none⟩ : Addr).add j = ⟨g, j, none⟩ by by_cases h0 : j = 0 <;> simp [Addr.add, h0]]
        exact hg j hjc)
      (by
        have : c ≤ n - m := by rw [hc]; exact Nat.min_le_right _ _
        simp
        omega)
      (fun v hv => by
        rw [List.mem_replicate] at hv
        rw [hv.2]
        rfl)
    refine ⟨w.setRow r ((bC L).toArray.toList.take m ++ List.replicate c (Value.bool b) ++ (bC L).toArray.toList.drop (m + c)).toArray, by rw [e, List.length_replicate]; rfl, ⟨rfl, rfl, rfl, by simp, fun k hk hm => setRow_other w r k _ hm⟩, ?_⟩
    rw [Bx, setRow_heap w r _ _ _ _ hr]
    simp [bC, List.map_take, List.map_drop]

set_option maxRecDepth 100000 in
set_option maxHeartbeats 4000000 in
theorem repeat_any (g : Nat) (b : Bool) (n : Nat) (hn : n ≤ 1000) (w : World) (hg : w.cell? ⟨g, 0, none⟩ = some (.bool b)) : Calls Try.prog 36 #[.slice (some ⟨g, 0, none⟩) 1 1, .int .i64 (n : Int)] w fun e w' =>
    ∃ r, e = .returned (.slice (some ⟨r, 0, none⟩) n n) ∧ w.heap.size ≤ r ∧ Below w.heap.size w w' ∧ Bx w' r 4 (bC (List.replicate n b)) := by
  have hmk := make_bools n hn w
  obtain ⟨W1, hW1⟩ : ∃ W1, W1 = w.alloc (.cells (bC (List.replicate n false)).toArray 4) := ⟨_, rfl⟩
  rw [← hW1] at hmk
  have hb1 : Bx W1 w.heap.size 4 (bC (List.replicate n false)) := by
    rw [hW1]
    exact Bx.new w _ _
  have hg1 : W1.cell? ⟨g, 0, none⟩ = some (.bool b) := by
    rw [hW1]
    exact cellA _ hg
  have hglt := World.block_lt_of_cell? w _ hg
  have hbl1 : Below w.heap.size w W1 := by
    rw [hW1]
    exact (Below.refl _ _).alloc (Nat.le_refl _) _
  obtain ⟨c1, hc1⟩ : ∃ c1, c1 = Nat.min 1 (n - 0) := ⟨_, rfl⟩
  obtain ⟨W2, hcp, hk2, hb2⟩ := copy_row w.heap.size 0 (some ⟨g, 0, none⟩) 1 1 c1 b n (List.replicate n false) W1 hb1 (by simp) (Nat.zero_le _) hc1 (fun h => ⟨g, rfl, fun j hj => by
    have : j = 0 := by
      have : c1 ≤ 1 := by rw [hc1]; exact Nat.min_le_left _ _
      omega
    rw [this]
    exact hg1⟩)
  simp only [Nat.sub_zero] at hcp
  have hc2 : c1 ≤ n := by rw [hc1]; exact Nat.min_le_right _ _
  have hc3 : 0 < n → 0 < c1 := fun h => by rw [hc1]; show 0 < min 1 (n - 0); omega
  have hbl2 : Below w.heap.size w W2 := hbl1.trans (hk2.to_below hbl1.size (fun q hq h => by omega))
  have HA := Lib.hid (And.intro hb2 (And.intro hbl2 hc3))
  clear hW1 hb1 hg1 hbl1 hk2 hb2 hbl2 hc3 hc1 hg hglt
  go_enter Try.func36, Try.ntmps36
  go_wp2_with (go_at_call 54; refine (mul_any n hn _).mono ?_; rintro e w' ⟨rfl, rfl⟩)
  clear hmk hcp
  obtain ⟨r, hr⟩ : ∃ r, r = w'.heap.size := ⟨_, rfl⟩
  rw [← hr]
  have HR := Lib.hid hr
  clear hr
  go_loopw [8] (fun i wr => ∃ m : Nat, m ≤ n ∧ i = .int .i64 m ∧ (0 < n → 0 < m) ∧ Below w'.heap.size w' wr ∧ Bx wr r 4 (bC (List.replicate m b ++ List.replicate (n - m) false)))
    (fun i _ => n - (intOf i).toNat)
  case atStart =>
    obtain ⟨h1, h2, h3⟩ := HA.out
    refine ⟨c1, hc2, rfl, h3, h2, ?_⟩
    rw [HR.out]
    simpa using h1
  case round =>
    obtain ⟨m, hm, rfl, hm0, hbel, hbx⟩ := hrel
    by_cases hlt : m < n
    · obtain ⟨c, hc⟩ : ∃ c, c = Nat.min m (n - m) := ⟨_, rfl⟩
      have hcm : c ≤ m := by rw [hc]; exact Nat.min_le_left _ _
      have hcn : c ≤ n - m := by rw [hc]; exact Nat.min_le_right _ _
      have hc0 : 0 < c := by
        have := hm0 (by omega)
        rw [hc]
        show 0 < min m (n - m)
        omega
      obtain ⟨w3, hcp, hk3, hb3⟩ := copy_row r m (some ⟨r, 0, none⟩) m n c b n _ wr.drew hbx.drew (by simp; omega) hm hc (fun _ => ⟨r, rfl, fun j hj => by
        rw [hbx.drew.cell, bC_get (by simp; omega), List.getElem?_append_left (by simp; omega), List.getElem?_replicate, if_pos (by omega)]
        rfl⟩)
      have HB := Lib.hid (And.intro hbel (And.intro hk3 (And.intro hb3 hcm)))
      clear hbel hbx hk3 hb3 hc hm0 hcm
      go_upto_region 9 with fail
      go_region
      go_wp2
      go_roundw
      case rel =>
        obtain ⟨hbel, hk3, hb3, hcm⟩ := HB.out
        have := hbel.size
        refine ⟨m + c, by omega, by simp, fun _ => by omega, (hbel.drew).trans (hk3.to_below this (fun q hq h => by have := HR.out; omega)), ?_⟩
        rw [rep_step m c n b (by omega)] at hb3
        exact hb3
      case measure => simp [intOf]; omega
    · obtain rfl : m = n := by omega
      go_wp2
      go_ret
      refine ⟨r, rfl, by rw [HR.out]; exact Nat.le_refl _, hbel, ?_⟩
      simpa using hbx

end Go.Proofs.Ytfpdecjlfnambaa
