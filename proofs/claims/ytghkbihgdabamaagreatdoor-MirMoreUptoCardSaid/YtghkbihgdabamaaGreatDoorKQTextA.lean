/-
  mir's Text, piece by piece, as the document's example wants it. Conditions: the builder is one that this call has made.
-/
import Derived.Test.YtghkbihgdabamaaGreatDoorKQStr
import Derived.Test.YtghkbihgdabamaaGreatDoorKQIntoA
import Derived.Test.YtghkbihgdabamaaGreatDoorKLScan
namespace Go.Proofs.YtghkbihgdabamaaGreatDoor
open Go.RowKit

theorem snocq {α : Type} (g : α → List UInt8) (l : List α) (j : Nat) (x : α) (h : l[j]? = some x) : (l.take (j + 1)).flatMap g = (l.take j).flatMap g ++ g x := by
  obtain ⟨hj, hx⟩ := List.getElem?_eq_some_iff.1 h
  rw [List.take_succ_eq_append_getElem hj, hx, List.flatMap_append, List.flatMap_singleton]
theorem lenq {α : Type} (g : α → List UInt8) (l : List α) (j : Nat) (x : α) (h : l[j]? = some x) : ((l.take j).flatMap g).length + (g x).length ≤ (l.flatMap g).length := by
  have e : l.flatMap g = (l.take (j + 1)).flatMap g ++ (l.drop (j + 1)).flatMap g := by rw [← List.flatMap_append, List.take_append_drop]
  rw [e, snocq g l j x h]
  simp only [List.length_append]
  omega
theorem cellsq_str (s : ByteArray) : Lib.strCells s = Lib.byteCells (bs s) := Lib.strCells_eq s
/-- a builder that lies at b, above B, and holds these bytes -/
abbrev Bd (B b : Nat) (l : List UInt8) (w : World) : Prop := Lib.IsBuilderF 107 5 B b (Lib.byteCells l) w
theorem newB (w : World) : Bd w.heap.size w.heap.size [] (w.alloc (.cells #[.pointer none, .slice none 0 0] 107)) :=
  .inl ⟨Nat.le_refl _, .slice none 0 0, by simpa using heap_alloc_new w (.cells #[.pointer none, .slice none 0 0] 107), World.ownsRowF_of (World.ownsRow_nil _ _ _ _), by simp [Value.ownBlock]⟩
set_option maxRecDepth 100000 in
set_option maxHeartbeats 4000000 in
theorem numbers_nil (w : World) : Calls Tryz.prog 80 #[.slice none 0 0] w fun e w' => e = .returned (.string ⟨#[]⟩) ∧ Below w.heap.size w w' := by
  obtain ⟨W0, hW⟩ : ∃ W, W = w.alloc (.cells #[.pointer none, .slice none 0 0] 107) := ⟨_, rfl⟩
  have hb0 : Below w.heap.size w W0 := by rw [hW]; exact alloc_below _ _
  have hI : Bd w.heap.size w.heap.size [] W0 := by rw [hW]; exact newB w
  have HST := Lib.hid (Tryz.Builder_String_empty_f w.heap.size w.heap.size W0 hI hb0.size)
  have HB0 := Lib.hid hb0
  clear hb0 hI
  go_enter Tryz.func80, Tryz.ntmps80
  go_upto_region 2 with fail
  rw [← hW]
  clear hW
  go_wp2_with fail
  go_loopw [8] (fun u wr => u = .int .i64 0 ∧ wr = W0) (fun _ _ => 0)
  case atStart => exact ⟨rfl, rfl⟩
  case round =>
    obtain ⟨rfl, rfl⟩ := hrel
    go_wp2_with (go_loud (go_at_call 47; refine HST.out.mono ?_; rintro e w1 ⟨rfl, -, hb1⟩; have HB1 := Lib.hid (HB0.out.trans hb1); clear hb1))
    go_ret
    exact ⟨rfl, HB1.out⟩
theorem itoa0 (w : World) : Calls Tryz.prog 43 #[.int .i64 0] w fun e w' => e = .returned (.string ⟨#[48]⟩) ∧ w' = w := by
  have h := Tryz.strconv_Itoa_small 0 (by decide) w
  rw [show (Lib.decDigits 0).toArray = #[48] by decide +kernel] at h
  exact h
theorem itoa1 (w : World) : Calls Tryz.prog 43 #[.int .i64 1] w fun e w' => e = .returned (.string ⟨#[49]⟩) ∧ w' = w := by
  have h := Tryz.strconv_Itoa_small 1 (by decide) w
  rw [show (Lib.decDigits 1).toArray = #[49] by decide +kernel] at h
  exact h
set_option maxRecDepth 100000 in
set_option maxHeartbeats 4000000 in
theorem spot_zero (w : World) : Calls Tryz.prog 76 #[.agg #[.int .i64 0, .slice none 0 0]] w fun e w' => e = .returned (.string ⟨#[48]⟩) ∧ Below w.heap.size w w' := by
  obtain ⟨V0, hV⟩ : ∃ W, W = w.alloc (.cells #[.int .i64 0, .slice none 0 0] 33) := ⟨_, rfl⟩
  obtain ⟨W0, hW⟩ : ∃ W, W = V0.alloc (.cells #[.pointer none, .slice none 0 0] 107) := ⟨_, rfl⟩
  have hbv : Below w.heap.size w V0 := by rw [hV]; exact alloc_below _ _
  have hxv : V0.heap[w.heap.size]? = some (.cells #[.int .i64 0, .slice none 0 0] 33) := by rw [hV]; exact heap_alloc_new _ _
  have hbw : Below V0.heap.size V0 W0 := by rw [hW]; exact alloc_below _ _
  have hI : Bd V0.heap.size V0.heap.size [] W0 := by rw [hW]; exact newB V0
  obtain ⟨N, hN⟩ : ∃ N, N = w.heap.size := ⟨_, rfl⟩
  obtain ⟨b, hb⟩ : ∃ N, N = V0.heap.size := ⟨_, rfl⟩
  have hbn : b = N + 1 := by rw [hb, hV, hN]; simp
  rw [← hb] at hI hbw
  rw [← hN] at hxv
  have hx0 : W0.heap[N]? = _ := (hbw.block N (by omega)).trans hxv
  obtain ⟨p0, p1, pf, pl⟩ := cells2p hx0
  have HI := Lib.hid (And.intro hI (And.intro hbw.size (And.intro hx0 (And.intro hbn hN))))
  have HB0 := Lib.hid (And.intro hbv (And.intro hbw (show V0.heap.size = b from hb.symm)))
  have HBB := Lib.hid hb
  have HLE := Lib.hid (show b ≤ W0.heap.size ∧ N < b from ⟨by have h1 := hbw.size; omega, by omega⟩)
  have HL0 := Lib.hid (show (Lib.byteCells []).length + (⟨#[48]⟩ : ByteArray).size ≤ 140737488355328 by decide)
  clear hI hbw hbv hxv hx0 hN hbn hb
  go_enter Tryz.func76, Tryz.ntmps76
  go_upto_region 2 with fail
  rw [← hV, ← hW]
  clear hV hW
  try simp only [← HBB.out]
  try simp only [← HI.out.2.2.2.2]
  simp only [← HI.out.2.2.2.1]
  go_upto_region 3 with
    (first
      | (go_loud (go_at_call 43; refine (itoa0 W0).mono ?_; rintro e W1 ⟨rfl, hw1⟩; rw [hw1]; clear hw1))
      | (go_loud (go_at_call 41; refine (writeString_any b b _ ⟨#[48]⟩ W0 HI.out.1 HL0.out HLE.out.1).mono ?_; rintro e W2 ⟨rfl, h2, hb2, -⟩; have H2 := Lib.hid (show Bd b b [48] W2 from .inr h2); have HB2 := Lib.hid (show Below b W0 W2 from hb2); have hx2 := ((hb2.block N HLE.out.2).trans (And.left (And.right (And.right HI.out)))); clear h2 hb2)))
  clear p0 p1 pf pl
  obtain ⟨p0, p1, pf, pl⟩ := cells2p hx2
  clear hx2
  have hbs : b ≤ W2.heap.size := by
    have h1 := HLE.out.1
    have h2 := HB2.out.size
    omega
  have HST := Lib.hid (Tryz.Builder_String_any_f b b [48] W2 H2.out hbs)
  clear hbs
  go_wp2_with fail
  go_loopw [13] (fun u wr => u = .int .i64 0 ∧ wr = W2) (fun _ _ => 0)
  case atStart => exact ⟨rfl, rfl⟩
  case round =>
    obtain ⟨rfl, rfl⟩ := hrel
    go_wp2_with (go_loud (go_at_call 47; refine HST.out.mono ?_; rintro e W3 ⟨rfl, -, hb3⟩; have HB3 := Lib.hid hb3; clear hb3))
    go_ret
    refine ⟨rfl, HB0.out.1.trans ?_⟩
    have h : Below b V0 W3 := HB0.out.2.1.trans (HB2.out.trans HB3.out)
    refine h.mono ?_
    have h1 := HI.out.2.2.2.1
    have h2 := HI.out.2.2.2.2
    have h3 := HB0.out.2.2
    have h4 := HB0.out.1.size
    omega
set_option maxRecDepth 100000 in
set_option maxHeartbeats 4000000 in
theorem use_copy (w : World) : Calls Tryz.prog 79 #[.agg #[.bool false, .int .i64 0, .bool false, .int .i64 0, .slice none 0 0]] w fun e w' => e = .returned (.string ⟨#[99, 111, 112, 121, 32, 48]⟩) ∧ Below w.heap.size w w' := by
  obtain ⟨W0, hW⟩ : ∃ W, W = w.alloc (.cells #[.bool false, .int .i64 0, .bool false, .int .i64 0, .slice none 0 0] 42) := ⟨_, rfl⟩
  have hb0 : Below w.heap.size w W0 := by rw [hW]; exact alloc_below _ _
  have hx0 : W0.heap[w.heap.size]? = some (.cells #[.bool false, .int .i64 0, .bool false, .int .i64 0, .slice none 0 0] 42) := by rw [hW]; exact heap_alloc_new _ _
  obtain ⟨N, hN⟩ : ∃ N, N = w.heap.size := ⟨_, rfl⟩
  rw [← hN] at hx0
  obtain ⟨p0, p1, p2, p3, p4⟩ : W0.cell? ⟨N, 0, none⟩ = some (.bool false) ∧ W0.cell? ⟨N, 1, none⟩ = some (.int .i64 0) ∧ W0.cell? ⟨N, 2, none⟩ = some (.bool false) ∧ W0.cell? ⟨N, 3, none⟩ = some (.int .i64 0) ∧ W0.cell? ⟨N, 3 + 1, none⟩ = some (.slice none 0 0) := by
    refine ⟨?_, ?_, ?_, ?_, ?_⟩ <;> simp [World.cell?, hx0]
  have HB0 := Lib.hid hb0
  clear hb0 hx0
  go_enter Tryz.func79, Tryz.ntmps79
  go_upto_block 0 with fail
  rw [← hW]
  clear hW
  try simp only [← hN]
  clear hN
  go_wp2_with (go_loud (go_at_call 76; refine (spot_zero W0).mono ?_; rintro e W1 ⟨rfl, hb1⟩; have HB1 := Lib.hid (HB0.out.trans (hb1.mono HB0.out.size)); clear hb1))
  go_ret
  exact ⟨by first | done | rfl, HB1.out⟩

set_option maxRecDepth 100000 in
set_option maxHeartbeats 4000000 in
theorem mline_any (B b k cap : Nat) (bs0 : List UInt8) (ps : List ByteArray) (w : World) (h : Bd B b bs0 w) (hk : w.heap[k]? = some (.cells (ps.map Value.string).toArray 9)) (hkb : k ≠ b) (hBw : B ≤ w.heap.size) (hpl : ps.length ≤ 1000)
    (hlen : bs0.length + (ps.flatMap bs).length + 1 ≤ 100000000000000) :
    Calls Tryz.prog 40 #[.slice (some ⟨k, 0, none⟩) ps.length cap, .pointer (some ⟨b, 0, none⟩)] w fun e w' => e = .returned (.tuple #[]) ∧ Bd B b (bs0 ++ (ps.flatMap bs ++ [10])) w' ∧ Kp B b w w' := by
  replace hk := Lib.hid hk
  have HH1 := Lib.hid h
  clear h
  go_enter Tryz.func40, Tryz.ntmps40
  go_wp2_with fail
  go_loopw [7] (fun u wr => ∃ i : Nat, i ≤ ps.length ∧ u = .int .i64 i ∧ Bd B b (bs0 ++ (ps.take i).flatMap bs) wr ∧ Kp B b w wr) (fun u _ => ps.length - (intOf u).toNat)
  case atStart => exact ⟨0, by omega, rfl, by simpa using HH1.out, Kp.refl _ _ _⟩
  case round =>
    clear HH1
    obtain ⟨i, hi, rfl, H, K⟩ := hrel
    have hBr : B ≤ wr.heap.size := Nat.le_trans hBw K.below.size
    by_cases hil : i < ps.length
    · have t2 : decide ((i : Int) < ps.length) = true := by simp; omega
      obtain ⟨x, hx⟩ : ∃ x, ps[i]? = some x := ⟨_, List.getElem?_eq_getElem hil⟩
      have hkr := kp_block K hk.out hkb (by decide)
      have g0 : wr.cell? ⟨k, i, none⟩ = some (.string x) := by simp [World.cell?, hkr, hx]
      have HS := Lib.hid (snocq bs ps i x hx)
      have hln := lenq bs ps i x hx
      rw [bs_len] at hln
      clear hx hkr
      go_wp2_with fail
      refine (writeString_any _ _ _ x wr H (by rw [Lib.byteCells_length, List.length_append]; omega) hBr).mono ?_
      rintro e w2 ⟨rfl, h2, hb2, hk2⟩
      have K2 := K.trans ⟨hb2, hk2⟩
      have H2 : Bd B b (bs0 ++ (ps.take (i + 1)).flatMap bs) w2 := by
        rw [HS.out, ← List.append_assoc]
        unfold Bd
        rw [Lib.byteCells_append, ← cellsq_str]
        exact .inr h2
      clear h2 hb2 hk2 H K g0
      go_wp2
      go_roundw
      case rel => exact ⟨i + 1, by omega, by go_num, H2, K2⟩
      case measure => simp [intOf]; omega
    · have t2 : decide ((i : Int) < ps.length) = false := by simp; omega
      obtain rfl : i = ps.length := by omega
      rw [List.take_length] at H
      go_wp2_with fail
      refine (writeByte_any _ _ _ 10 wr H (by rw [Lib.byteCells_length, List.length_append]; omega) hBr).mono ?_
      rintro e w2 ⟨rfl, h2, hb2, hk2⟩
      have K2 := K.trans ⟨hb2, hk2⟩
      have H2 : Bd B b (bs0 ++ (ps.flatMap bs ++ [10])) w2 := by
        rw [← List.append_assoc]
        unfold Bd
        rw [Lib.byteCells_append]
        exact .inr h2
      clear h2 hb2 hk2
      go_wp2
      go_end0
      exact ⟨rfl, H2, K2⟩

end Go.Proofs.YtghkbihgdabamaaGreatDoor
