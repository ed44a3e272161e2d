/-
  behind, behindName and pass of lexis. Conditions: the place is in the text.
-/
import Derived.Test.YtggdpgaedmegbaaGreatDoorJLByte
import Derived.Test.YtggdpgaedmegbaaGreatDoorJPText
import Derived.Shelf.Abstract
namespace Go.Proofs.YtggdpgaedmegbaaGreatDoor
open Go.RowKit

theorem bs_len (s : ByteArray) : (bs s).length = s.size := (Lib.size_eq s).symm
theorem byte_at (s : ByteArray) (j : Nat) (h : j < s.size) : ∃ c r, (bs s).drop j = c :: r ∧ r = (bs s).drop (j + 1) ∧ s[j] = c := by
  have hl : j < (bs s).length := by rw [bs_len]; exact h
  refine ⟨(bs s)[j], (bs s).drop (j + 1), List.drop_eq_getElem_cons hl, rfl, ?_⟩
  obtain ⟨⟨l⟩⟩ := s
  rfl
theorem run_byte (s : ByteArray) (j : Nat) (c : UInt8) (h : j < s.size) (hc : s[j] = c) (W : World) : (Instr.index 9 (.string s) (.int .i64 j)).run Tryz.prog W = .ok (.int .u8 c.toNat) W := by
  rw [run_index_string W 9 s .i64 j Tryz.underlying9, dif_pos ⟨by omega, by omega⟩]
  subst hc
  rfl
set_option maxHeartbeats 1000000 in
theorem behind_any (s : ByteArray) (hs : s.size ≤ 4611686018427387904) (F : Nat) (g : UInt8 → Bool) (hE : ∀ args w, (callFunc F args).run Tryz.prog w = .ok (.enter F args) w)
    (hF : ∀ c w, Calls Tryz.prog F #[.int .u8 (UInt8.toNat c)] w fun e w' => e = .returned (.bool (g c)) ∧ w' = w) (p : Nat) (hp : p ≤ s.size) (w : World) :
    Calls Tryz.prog 106 #[.string s, .int .i64 p, .func (.func F) #[] #[]] w fun e w' => e = .returned (.int .i64 ((p + spanN g ((bs s).drop p) : Nat))) ∧ w' = w := by
  replace hF := Lib.hid hF
  go_enter Tryz.func106, Tryz.ntmps106
  go_wp2_with fail
  go_loopw [1] (fun u wr => ∃ j : Nat, p ≤ j ∧ j ≤ s.size ∧ u = .int .i64 j ∧ j + spanN g ((bs s).drop j) = p + spanN g ((bs s).drop p) ∧ wr = w) (fun u _ => s.size - (intOf u).toNat)
  case atStart => exact ⟨p, by omega, by omega, rfl, rfl, rfl⟩
  case round =>
    obtain ⟨j, hpj, hj, rfl, hsp, rfl⟩ := hrel
    have HSP := Lib.hid hsp
    clear hsp
    by_cases hjl : j < s.size
    · have t1 : decide ((j : Int) < s.size) = true := by simp; omega
      obtain ⟨c, r, h1, h2, h3⟩ := byte_at s j hjl
      have hi := run_byte s j c hjl h3
      have H1 := Lib.hid h1
      have H2 := Lib.hid h2
      clear h1 h2 h3
      cases hg : g c with
      | true =>
        have HG := Lib.hid hg
        clear hg
        go_wp2_with (go_at_fn F; refine (hF.out c _).mono ?_; rintro e w1 ⟨rfl, rfl⟩; rw [HG.out])
        go_roundw
        case rel =>
          refine ⟨j + 1, by omega, by omega, by go_num, ?_, by trivial⟩
          rw [← HSP.out, H1.out, ← H2.out]
          simp only [spanN, HG.out, if_true]
          omega
        case measure => simp [intOf]; omega
      | false =>
        have HG := Lib.hid hg
        clear hg
        go_wp2_with (go_at_fn F; refine (hF.out c _).mono ?_; rintro e w1 ⟨rfl, rfl⟩; rw [HG.out])
        go_ret
        refine ⟨?_, rfl⟩
        rw [← HSP.out, H1.out]
        simp [spanN, HG.out]
    · have t1 : decide ((j : Int) < s.size) = false := by simp; omega
      obtain rfl : j = s.size := by omega
      go_wp2
      go_ret
      refine ⟨?_, rfl⟩
      rw [← HSP.out, List.drop_eq_nil_of_le (by rw [bs_len]; omega)]
      simp [spanN]
theorem enters39 (args : Array Value) (w : World) : (callFunc 252 args).run Tryz.prog w = .ok (.enter 252 args) w := Go.Proofs.enters_of Tryz.func252 (by kernel_rfl) rfl args w
theorem enters29 (args : Array Value) (w : World) : (callFunc 107 args).run Tryz.prog w = .ok (.enter 107 args) w := Go.Proofs.enters_of Tryz.func107 (by kernel_rfl) rfl args w
theorem enters31 (args : Array Value) (w : World) : (callFunc 109 args).run Tryz.prog w = .ok (.enter 109 args) w := Go.Proofs.enters_of Tryz.func109 (by kernel_rfl) rfl args w
theorem enters33 (args : Array Value) (w : World) : (callFunc 112 args).run Tryz.prog w = .ok (.enter 112 args) w := Go.Proofs.enters_of Tryz.func112 (by kernel_rfl) rfl args w
theorem behindName_any (s : ByteArray) (hs : s.size ≤ 4611686018427387904) (p : Nat) (hp : p ≤ s.size) (w : World) :
    Calls Tryz.prog 188 #[.string s, .int .i64 p] w fun e w' => e = .returned (.int .i64 ((p + spanN nameB ((bs s).drop p) : Nat))) ∧ w' = w := by
  have hb := Lib.hid (behind_any s hs 252 nameB enters39 name_byte_any p hp)
  go_enter Tryz.func188, Tryz.ntmps188
  go_wp2_with (go_at_call 106; refine (hb.out _).mono ?_; rintro e w1 ⟨rfl, rfl⟩)
  go_ret
  exact ⟨rfl, rfl⟩
end Go.Proofs.YtggdpgaedmegbaaGreatDoor
