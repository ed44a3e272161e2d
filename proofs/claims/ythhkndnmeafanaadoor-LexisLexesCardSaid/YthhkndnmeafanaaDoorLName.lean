/-
  name and sign of lexis. Conditions: the place is in the text; the package variables lie as the program's text lays them.
-/
import Derived.Test.YthhkndnmeafanaaDoorLPass
import Derived.Deep.Cut
namespace Go.Proofs.YthhkndnmeafanaaDoor
open Go.RowKit

/-- What token hands back. -/
def tokOut (t : Tok) (er : Int) : Value := .tuple #[tokV t, .int .i64 er]

set_option maxHeartbeats 1000000 in
theorem name_any (s : ByteArray) (hs : s.size ≤ 4611686018427387904) (p : Nat) (hp : p ≤ s.size) (w : World) :
    Calls Tryd.prog 32 #[.string s, .int .i64 p] w fun e w' => e = .returned (if spanN nameB ((bs s).drop p) ≤ 24 then tokOut ⟨1, ((bs s).drop p).take (spanN nameB ((bs s).drop p)), 0, p⟩ 0 else tokOut noTok 42) ∧ Below w.heap.size w w' := by
  obtain ⟨m, hm⟩ : ∃ m, m = spanN nameB ((bs s).drop p) := ⟨_, rfl⟩
  have hle := spanN_le nameB ((bs s).drop p)
  rw [List.length_drop, bs_len, ← hm] at hle
  have hb := Lib.hid (behindName_any s hs p hp)
  rw [← hm] at hb ⊢
  have hx : s.extract p (p + m) = strB (((bs s).drop p).take m) := by rw [extract_strB, Nat.add_sub_cancel_left]
  have hsz : (strB (((bs s).drop p).take m)).size = m := by rw [strB_size, List.length_take, List.length_drop, bs_len]; omega
  generalize ((bs s).drop p).take m = tx at hx hsz ⊢
  obtain ⟨out, hout⟩ : ∃ out, out = if m ≤ 24 then tokOut ⟨1, tx, 0, p⟩ 0 else tokOut noTok 42 := ⟨_, rfl⟩
  rw [← hout]
  have HO := Lib.hid hout
  clear hout
  have HX := Lib.hid hx
  clear hx hm
  obtain ⟨W, hW⟩ : ∃ W, W = w.alloc (.cells #[.int .i64 0, .string ⟨#[]⟩, .int .i64 0, .int .i64 0] 31) := ⟨_, rfl⟩
  have hbW : Below w.heap.size w W := by rw [hW]; exact alloc_below _ _
  have hx0 : W.heap[w.heap.size]? = some (.cells #[.int .i64 0, .string ⟨#[]⟩, .int .i64 0, .int .i64 0] 31) := by rw [hW, heap_alloc_new]
  go_enter Tryd.func32, Tryd.ntmps32
  go_upto_region 1 with fail
  rw [← hW]
  clear hW
  obtain ⟨b, hb0⟩ : ∃ b, b = w.heap.size := ⟨_, rfl⟩
  rw [← hb0] at hx0
  simp only [← hb0]
  have hbb : w.heap.size ≤ b := by omega
  clear hb0
  obtain ⟨c0, c1, c2, c3, cf, cl⟩ := cells4 hx0
  have HX0 := Lib.hid hx0
  have HBW := Lib.hid hbW
  clear hx0 hbW
  by_cases h24 : m ≤ 24
  · have t1 : decide ((m : Int) > 24) = false := by simp; omega
    have hfz := set4 (u0 := .int .i64 1) (u1 := .string (s.extract p (p + m))) (u2 := .int .i64 0) (u3 := .int .i64 p) HX0.out
    have hbz := set4_below (u0 := .int .i64 1) (u1 := .string (s.extract p (p + m))) (u2 := .int .i64 0) (u3 := .int .i64 p) HBW.out hbb
    replace hfz := Lib.hid hfz
    replace hbz := Lib.hid hbz
    replace HO := Lib.hid (HO.out.trans (if_pos h24))
    go_wp2_with (go_at_call 26; refine (hb.out _).mono ?_; rintro e w1 ⟨rfl, rfl⟩)
    have hf := hfz.out
    have hg := hbz.out
    clear hfz hbz
    generalize (((w1.setCell ⟨b, 0, none⟩ (.int .i64 1)).setCell ⟨b, 1, none⟩ (.string (s.extract p (p + m)))).setCell ⟨b, 2, none⟩ (.int .i64 0)).setCell ⟨b, 3, none⟩ (.int .i64 p) = WW at hf hg ⊢
    obtain ⟨y0, y1, y2, y3, yf, yl⟩ := cells4 hf
    refine bodyPost_ret (v := tokOut ⟨1, tx, 0, p⟩ 0) (by simp [results, Tryd.results32, go_sem, y0, y1, y2, y3, tokOut, tokV, HX.out]) rfl ⟨by rw [HO.out], hg⟩
  · have t1 : decide ((m : Int) > 24) = true := by simp; omega
    have hfz := set4 (u0 := .int .i64 0) (u1 := .string ⟨#[]⟩) (u2 := .int .i64 0) (u3 := .int .i64 0) HX0.out
    have hbz := set4_below (u0 := .int .i64 0) (u1 := .string ⟨#[]⟩) (u2 := .int .i64 0) (u3 := .int .i64 0) HBW.out hbb
    replace hfz := Lib.hid hfz
    replace hbz := Lib.hid hbz
    replace HO := Lib.hid (HO.out.trans (if_neg h24))
    go_wp2_with (go_at_call 26; refine (hb.out _).mono ?_; rintro e w1 ⟨rfl, rfl⟩)
    have hf := hfz.out
    have hg := hbz.out
    clear hfz hbz
    generalize (((w1.setCell ⟨b, 0, none⟩ (.int .i64 0)).setCell ⟨b, 1, none⟩ (.string ⟨#[]⟩)).setCell ⟨b, 2, none⟩ (.int .i64 0)).setCell ⟨b, 3, none⟩ (.int .i64 0) = WW at hf hg ⊢
    obtain ⟨y0, y1, y2, y3, yf, yl⟩ := cells4 hf
    refine bodyPost_ret (v := tokOut noTok 42) (by simp [results, Tryd.results32, go_sem, y0, y1, y2, y3, tokOut, tokV, noTok, strB]) rfl ⟨by rw [HO.out], hg⟩
end Go.Proofs.YthhkndnmeafanaaDoor
