/-
  number of lexis. Conditions: a digit stands at the place; the package variables lie as the program's text lays them.
-/
import Derived.Test.YthhkndnmeafanaaDoorLName
namespace Go.Proofs.YthhkndnmeafanaaDoor
open Go.RowKit

theorem bytesWorld_below (w : World) (t : ByteArray) : Below w.heap.size w (Lib.bytesWorld w 5 t) := Lib.bytesWorld_below w 5 t

set_option maxHeartbeats 2000000 in
theorem number_any (s : ByteArray) (hs : s.size ≤ 65536) (p : Nat) (hp : p ≤ s.size) (w : World) (hV : Vars w) (hd : 1 ≤ spanN digitB ((bs s).drop p)) :
    Calls Tryd.prog 34 #[.string s, .int .i64 p] w fun e w' => e = .returned (if numV (((bs s).drop p).take (spanN digitB ((bs s).drop p))) < 9223372036854775808 then tokOut ⟨2, ((bs s).drop p).take (spanN digitB ((bs s).drop p)), numV (((bs s).drop p).take (spanN digitB ((bs s).drop p))), p⟩ 0 else tokOut noTok 41) ∧ Below w.heap.size w w' := by
  have hall := spanN_take (f := digitB) ((bs s).drop p)
  obtain ⟨m, hm⟩ : ∃ m, m = spanN digitB ((bs s).drop p) := ⟨_, rfl⟩
  have hle := spanN_le digitB ((bs s).drop p)
  rw [List.length_drop, bs_len, ← hm] at hle
  have hb := Lib.hid (behind_any s (by omega) 33 digitB enters33 digit_any p hp)
  rw [← hm] at hb hd hall ⊢
  have hx : s.extract p (p + m) = strB (((bs s).drop p).take m) := by rw [extract_strB, Nat.add_sub_cancel_left]
  have hne : ((bs s).drop p).take m ≠ [] := by
    intro h
    have := congrArg List.length h
    simp only [List.length_take, List.length_drop, bs_len, List.length_nil] at this
    omega
  generalize ((bs s).drop p).take m = tx at hx hne hall ⊢
  have hat : Lib.atoiAll (s.extract p (p + m)).data.toList = if numV tx < 9223372036854775808 then .ok (numV tx : Int) else .range := by
    rw [hx, show (strB tx).data.toList = tx from strB_bs tx]
    exact atoi_digits hne hall
  have hxs : (s.extract p (p + m)).size ≤ 65536 := by rw [ByteArray.size_extract]; omega
  obtain ⟨out, hout⟩ : ∃ out, out = if numV tx < 9223372036854775808 then tokOut ⟨2, tx, numV tx, p⟩ 0 else tokOut noTok 41 := ⟨_, rfl⟩
  rw [← hout]
  have HO := Lib.hid hout
  have HX := Lib.hid hx
  clear hx hm hout hne hall
  obtain ⟨W, hW⟩ : ∃ W, W = w.alloc (.cells #[.int .i64 0, .string ⟨#[]⟩, .int .i64 0, .int .i64 0] 31) := ⟨_, rfl⟩
  have hbW : Below w.heap.size w W := by rw [hW]; exact alloc_below _ _
  have hx0 : W.heap[w.heap.size]? = some (.cells #[.int .i64 0, .string ⟨#[]⟩, .int .i64 0, .int .i64 0] 31) := by rw [hW, heap_alloc_new]
  have hV1 := hV.b hbW
  go_enter Tryd.func34, Tryd.ntmps34
  go_upto_region 1 with fail
  rw [← hW]
  clear hW
  obtain ⟨b, hb0⟩ : ∃ b, b = w.heap.size := ⟨_, rfl⟩
  rw [← hb0] at hx0
  simp only [← hb0]
  have hbb : w.heap.size ≤ b := by omega
  clear hb0
  have HX0 := Lib.hid hx0
  have HBW := Lib.hid hbW
  by_cases hv : numV tx < 9223372036854775808
  · rw [if_pos hv] at hat
    have hA := Lib.hid (Tryd.strconv_Atoi_ok (s.extract p (p + m)) (by omega) _ hat W)
    replace HO := Lib.hid (HO.out.trans (if_pos hv))
    generalize hn : numV tx = n at hv hA HO
    clear hat hx0 hbW hn
    go_wp2_with (first
      | (go_at_call 28; refine (hb.out _).mono ?_; rintro e w1 ⟨rfl, rfl⟩)
      | (go_at_call 41; refine hA.out.mono ?_; rintro e w2 ⟨rfl, hw2⟩; have hb2 : Below w1.heap.size w1 w2 := (by rcases hw2 with rfl | ⟨t, rfl⟩; exact Below.refl _ _; exact bytesWorld_below _ _); have hX2 := Lib.hid (keepB HX0.out hb2); obtain ⟨c0, c1, c2, c3, cf, cl⟩ := cells4 hX2.out; have HB2 := Lib.hid (HBW.out.trans (hb2.mono HBW.out.size)); clear hw2 hb2))
    have hf := set4 (u0 := .int .i64 2) (u1 := .string (s.extract p (p + m))) (u2 := .int .i64 n) (u3 := .int .i64 p) hX2.out
    have hg := set4_below (u0 := .int .i64 2) (u1 := .string (s.extract p (p + m))) (u2 := .int .i64 n) (u3 := .int .i64 p) HB2.out hbb
    generalize (((w2.setCell ⟨b, 0, none⟩ (.int .i64 2)).setCell ⟨b, 1, none⟩ (.string (s.extract p (p + m)))).setCell ⟨b, 2, none⟩ (.int .i64 n)).setCell ⟨b, 3, none⟩ (.int .i64 p) = WW at hf hg ⊢
    clear c0 c1 c2 c3 cf cl
    obtain ⟨y0, y1, y2, y3, yf, yl⟩ := cells4 hf
    refine bodyPost_ret (v := tokOut ⟨2, tx, n, p⟩ 0) (by simp [results, Tryd.results34, go_sem, y0, y1, y2, y3, tokOut, tokV, HX.out]) rfl ⟨by rw [HO.out], hg⟩
  · rw [if_neg hv] at hat
    obtain ⟨te, pe, hr⟩ := hV1.range
    have hA := Lib.hid (Tryd.strconv_Atoi_range (s.extract p (p + m)) (by omega) hat _ W hr (.inr ⟨te, pe, rfl⟩))
    replace HO := Lib.hid (HO.out.trans (if_neg hv))
    generalize Lib.atoiSat (s.extract p (p + m)).data.toList = sat at hA
    clear hat hx0 hbW hr
    go_wp2_with (first
      | (go_at_call 28; refine (hb.out _).mono ?_; rintro e w1 ⟨rfl, rfl⟩)
      | (go_at_call 41; refine hA.out.mono ?_; rintro e w2 ⟨N, rfl, -, -, hb2⟩; have hX2 := Lib.hid (keepB HX0.out hb2); obtain ⟨c0, c1, c2, c3, cf, cl⟩ := cells4 hX2.out; have HB2 := Lib.hid (HBW.out.trans (hb2.mono HBW.out.size)); clear hb2))
    have hf := set4 (u0 := .int .i64 0) (u1 := .string ⟨#[]⟩) (u2 := .int .i64 0) (u3 := .int .i64 0) hX2.out
    have hg := set4_below (u0 := .int .i64 0) (u1 := .string ⟨#[]⟩) (u2 := .int .i64 0) (u3 := .int .i64 0) HB2.out hbb
    generalize (((w2.setCell ⟨b, 0, none⟩ (.int .i64 0)).setCell ⟨b, 1, none⟩ (.string ⟨#[]⟩)).setCell ⟨b, 2, none⟩ (.int .i64 0)).setCell ⟨b, 3, none⟩ (.int .i64 0) = WW at hf hg ⊢
    clear c0 c1 c2 c3 cf cl
    obtain ⟨y0, y1, y2, y3, yf, yl⟩ := cells4 hf
    refine bodyPost_ret (v := tokOut noTok 41) (by simp [results, Tryd.results34, go_sem, y0, y1, y2, y3, tokOut, tokV, noTok, strB]) rfl ⟨by rw [HO.out], hg⟩
end Go.Proofs.YthhkndnmeafanaaDoor
