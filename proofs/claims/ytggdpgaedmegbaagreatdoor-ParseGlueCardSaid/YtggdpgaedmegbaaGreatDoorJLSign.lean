/-
  sign of lexis. Conditions: the place is in the text; the package variables lie as the program's text lays them.
-/
import Derived.Test.YtggdpgaedmegbaaGreatDoorJLName
namespace Go.Proofs.YtggdpgaedmegbaaGreatDoor
open Go.RowKit

theorem indexByte_neg (l : List UInt8) (c : UInt8) : Lib.indexByte l c < 0 ↔ c ∉ l := by
  induction l with
  | nil => simp [Lib.indexByte]
  | cons b l ih =>
    have hge := Lib.indexByte_ge l c
    simp only [Lib.indexByte, List.mem_cons, not_or]
    by_cases hb : b = c
    · simp [hb]
    · have h1 : (b == c) = false := by simpa using hb
      rw [h1]
      by_cases h2 : Lib.indexByte l c = -1
      · simp only [h2]
        have := ih.1 (by omega)
        simp [this]
        exact fun h => hb h.symm
      · have h3 : (Lib.indexByte l c == -1) = false := by simpa using h2
        rw [h3]
        simp only [Bool.false_eq_true, if_false]
        constructor
        · intro h; omega
        · intro h; have := ih.2 h.2; omega
/-- What sign hands back. -/
def signOut (l : List UInt8) (p : Nat) : Value := if signN l = 0 then tokOut noTok 40 else tokOut ⟨3, l.take (signN l), 0, p⟩ 0
theorem sign_long {l x : List UInt8} {p : Nat} (hx : x ∈ longL) (h : l.take x.length = x) : signOut l p = tokOut ⟨3, x, 0, p⟩ 0 := by
  have h2 : x.length = 2 := by
    simp only [longL, List.mem_cons, List.not_mem_nil, or_false] at hx
    rcases hx with rfl | rfl | rfl | rfl <;> rfl
  rw [h2] at h
  have h3 : signN l = 2 := by unfold signN; rw [h, if_pos hx]
  rw [signOut, h3, if_neg (by decide), h]
theorem sign_short {c : UInt8} {r : List UInt8} (h : (c :: r).take 2 ∉ longL) : signN (c :: r) = if c ∈ shortL then 1 else 0 := by
  unfold signN
  rw [if_neg h]
def longV : Array Value := #[.string (strB [58, 58]), .string (strB [61, 61]), .string (strB [61, 62]), .string (strB [45, 62])]
theorem long_at {k : Nat} {x : List UInt8} (h : longL[k]? = some x) : k < 4 ∧ longV[k]? = some (.string (strB x)) := by
  have hk : k < 4 := (List.getElem?_eq_some_iff.1 h).1
  refine ⟨hk, ?_⟩
  match k, hk with
  | 0, _ => cases h; rfl
  | 1, _ => cases h; rfl
  | 2, _ => cases h; rfl
  | 3, _ => cases h; rfl
set_option maxRecDepth 100000 in
set_option maxHeartbeats 4000000 in
theorem sign_any (s : ByteArray) (hs : s.size ≤ 65536) (p : Nat) (hp : p < s.size) (w : World) (hV : Vars w) :
    Calls Tryz.prog 114 #[.string s, .int .i64 p] w fun e w' => e = .returned (signOut ((bs s).drop p) p) ∧ Below w.heap.size w w' := by
  have hdx := drop_extract s p
  have hpr : ∀ (k : Nat) (x : List UInt8), longL[k]? = some x → ∀ w, Calls Tryz.prog 108 #[.string (s.extract p s.size), .string (strB x)] w fun e w' => e = .returned (.bool (decide (((bs s).drop p).take x.length = x))) ∧ w' = w := fun k x _ w => by
    have h := Tryz.strings_HasPrefix (s.extract p s.size) (strB x) w
    rw [show (s.extract p s.size).data.toList = (bs s).drop p from hdx, show (strB x).data.toList = x from strB_bs x, hasPrefix_take] at h
    exact h
  have HPR := Lib.hid hpr
  obtain ⟨out, hout⟩ : ∃ out, out = signOut ((bs s).drop p) p := ⟨_, rfl⟩
  rw [← hout]
  have HO := Lib.hid hout
  obtain ⟨c, r, h1, h2, h3⟩ := byte_at s p hp
  have hi := run_byte s p c hp h3
  have H1 := Lib.hid h1
  clear hpr hdx hout h1 h2 h3
  obtain ⟨W, hW⟩ : ∃ W, W = w.alloc (.cells #[.int .i64 0, .string ⟨#[]⟩, .int .i64 0, .int .i64 0] 40) := ⟨_, rfl⟩
  have hbW : Below w.heap.size w W := by rw [hW]; exact alloc_below _ _
  have hx0 : W.heap[w.heap.size]? = some (.cells #[.int .i64 0, .string ⟨#[]⟩, .int .i64 0, .int .i64 0] 40) := by rw [hW, heap_alloc_new]
  have hV1 := hV.b hbW
  have g0 := hV1.signs 0 _ rfl
  have g1 := hV1.signs 1 _ rfl
  have g2 := hV1.signs 2 _ rfl
  have g3 := hV1.signs 3 _ rfl
  go_enter Tryz.func114, Tryz.ntmps114
  go_upto_region 1 with fail
  rw [← hW]
  clear hW hV1 hV
  obtain ⟨b, hb0⟩ : ∃ b, b = w.heap.size := ⟨_, rfl⟩
  rw [← hb0] at hx0
  simp only [← hb0]
  have hbb : w.heap.size ≤ b := by omega
  clear hb0
  have HX0 := Lib.hid hx0
  have HBW := Lib.hid hbW
  clear hx0 hbW
  go_wp2_with fail
  go_loopw [9] (fun u wr => ∃ j : Nat, j ≤ 4 ∧ u = .int .i64 j ∧ (∀ (i : Nat) (x : List UInt8), i < j → longL[i]? = some x → ((bs s).drop p).take x.length ≠ x) ∧ wr = W) (fun u _ => 4 - (intOf u).toNat)
  case atStart => exact ⟨0, by omega, rfl, fun i x hi => by omega, rfl⟩
  case round =>
    obtain ⟨j, hj, rfl, hno, rfl⟩ := hrel
    have HNO := Lib.hid hno
    obtain ⟨c0, c1, c2, c3, cf, cl⟩ := cells4 HX0.out
    clear hno g0 g1 g2 g3
    by_cases hj4 : j < 4
    · obtain ⟨x, hx⟩ : ∃ x, longL[j]? = some x := ⟨_, List.getElem?_eq_getElem (show j < longL.length from hj4)⟩
      have hpx := Lib.hid (HPR.out j x hx)
      have hmem := Lib.hid (List.mem_of_getElem? hx)
      have HXJ := Lib.hid hx
      have hxi : ∀ W, (Instr.index 263 (.agg #[.string (strB [58, 58]), .string (strB [61, 61]), .string (strB [61, 62]), .string (strB [45, 62])]) (.int .i64 j)).run Tryz.prog W = .ok (.string (strB x)) W := fun W => by
        match j, hj4, hx with
        | 0, _, hx => cases hx; rfl
        | 1, _, hx => cases hx; rfl
        | 2, _, hx => cases hx; rfl
        | 3, _, hx => cases hx; rfl
      clear hx
      by_cases hp2 : ((bs s).drop p).take x.length = x
      · have hso := Lib.hid (HO.out.trans (sign_long hmem.out hp2))
        have t2 : decide (((bs s).drop p).take x.length = x) = true := by simpa using hp2
        rw [t2] at hpx
        clear t2 hp2
        go_wp2_with (go_at_call 108; refine (hpx.out _).mono ?_; rintro e w1 ⟨rfl, rfl⟩)
        have hf := set4 (u0 := .int .i64 3) (u1 := .string (strB x)) (u2 := .int .i64 0) (u3 := .int .i64 p) HX0.out
        have hg := set4_below (u0 := .int .i64 3) (u1 := .string (strB x)) (u2 := .int .i64 0) (u3 := .int .i64 p) HBW.out hbb
        generalize (((w1.setCell ⟨b, 0, none⟩ (.int .i64 3)).setCell ⟨b, 1, none⟩ (.string (strB x))).setCell ⟨b, 2, none⟩ (.int .i64 0)).setCell ⟨b, 3, none⟩ (.int .i64 p) = WW at hf hg ⊢
        clear c0 c1 c2 c3 cf cl
        obtain ⟨y0, y1, y2, y3, yf, yl⟩ := cells4 hf
        refine bodyPost_ret (v := tokOut ⟨3, x, 0, p⟩ 0) (by simp [results, Tryz.results114, go_sem, y0, y1, y2, y3, tokOut, tokV]) rfl ⟨by rw [hso.out], hg⟩
      · have t2 : decide (((bs s).drop p).take x.length = x) = false := by simpa using hp2
        have HP2 := Lib.hid hp2
        rw [t2] at hpx
        clear t2 hp2
        go_wp2_with (go_at_call 108; refine (hpx.out _).mono ?_; rintro e w1 ⟨rfl, rfl⟩)
        go_roundw
        case rel =>
          refine ⟨j + 1, by omega, by go_num, fun i y hi hy => ?_, by trivial⟩
          by_cases hij : i = j
          · subst hij
            have := HXJ.out
            rw [hy] at this
            cases this
            exact HP2.out
          · exact HNO.out i y (by omega) hy
        case measure => simp [intOf]; omega
    · obtain rfl : j = 4 := by omega
      have hnl : (c :: r).take 2 ∉ longL := by
        rw [← H1.out]
        intro h
        obtain ⟨i, hi⟩ := List.getElem?_of_mem h
        have hi4 : i < 4 := (List.getElem?_eq_some_iff.1 hi).1
        have hl2 : (((bs s).drop p).take 2).length = 2 := by
          match i, hi4 with
          | 0, _ => rw [← Option.some.inj hi]; rfl
          | 1, _ => rw [← Option.some.inj hi]; rfl
          | 2, _ => rw [← Option.some.inj hi]; rfl
          | 3, _ => rw [← Option.some.inj hi]; rfl
        exact HNO.out i _ hi4 hi (by rw [hl2])
      have hsn := sign_short hnl
      have hib := Tryz.strings_IndexByte ⟨#[123, 125, 40, 41, 44, 59, 58, 46, 42, 38, 61, 43, 45, 60]⟩ c.toNat wr
      rw [show ((c.toNat : Int).toNat.toUInt8) = c by simp, show (ByteArray.mk #[123, 125, 40, 41, 44, 59, 58, 46, 42, 38, 61, 43, 45, 60]).data.toList = shortL from rfl] at hib
      have hin := indexByte_neg shortL c
      obtain ⟨z, hz⟩ : ∃ z, z = Lib.indexByte shortL c := ⟨_, rfl⟩
      rw [← hz] at hib hin
      replace hib := Lib.hid hib
      by_cases hm : c ∈ shortL
      · rw [if_pos hm] at hsn
        have hso := Lib.hid (show out = tokOut ⟨3, [c], 0, p⟩ 0 by rw [HO.out, signOut, H1.out, hsn, if_neg (by decide)]; rfl)
        have t3 : decide (z < 0) = false := by simp only [decide_eq_false_iff_not]; intro h; exact hin.1 h hm
        have hxt : s.extract p (p + 1) = strB [c] := by rw [extract_strB, Nat.add_sub_cancel_left, H1.out]; rfl
        have HXT := Lib.hid hxt
        clear hz hin hnl hsn hm hxt
        go_wp2_with (go_at_call 190; refine hib.out.mono ?_; rintro e w1 ⟨rfl, rfl⟩)
        have hf := set4 (u0 := .int .i64 3) (u1 := .string (s.extract p (p + 1))) (u2 := .int .i64 0) (u3 := .int .i64 p) HX0.out
        have hg := set4_below (u0 := .int .i64 3) (u1 := .string (s.extract p (p + 1))) (u2 := .int .i64 0) (u3 := .int .i64 p) HBW.out hbb
        generalize (((w1.setCell ⟨b, 0, none⟩ (.int .i64 3)).setCell ⟨b, 1, none⟩ (.string (s.extract p (p + 1)))).setCell ⟨b, 2, none⟩ (.int .i64 0)).setCell ⟨b, 3, none⟩ (.int .i64 p) = WW at hf hg ⊢
        clear c0 c1 c2 c3 cf cl
        obtain ⟨y0, y1, y2, y3, yf, yl⟩ := cells4 hf
        refine bodyPost_ret (v := tokOut ⟨3, [c], 0, p⟩ 0) (by simp [results, Tryz.results114, go_sem, y0, y1, y2, y3, tokOut, tokV, HXT.out]) rfl ⟨by rw [hso.out], hg⟩
      · rw [if_neg hm] at hsn
        have hso := Lib.hid (show out = tokOut noTok 40 by rw [HO.out, signOut, H1.out, hsn, if_pos rfl])
        have t3 : decide (z < 0) = true := by simp only [decide_eq_true_eq]; exact hin.2 hm
        clear hz hin hnl hsn hm
        go_wp2_with (go_at_call 190; refine hib.out.mono ?_; rintro e w1 ⟨rfl, rfl⟩)
        have hf := set4 (u0 := .int .i64 0) (u1 := .string ⟨#[]⟩) (u2 := .int .i64 0) (u3 := .int .i64 0) HX0.out
        have hg := set4_below (u0 := .int .i64 0) (u1 := .string ⟨#[]⟩) (u2 := .int .i64 0) (u3 := .int .i64 0) HBW.out hbb
        generalize (((w1.setCell ⟨b, 0, none⟩ (.int .i64 0)).setCell ⟨b, 1, none⟩ (.string ⟨#[]⟩)).setCell ⟨b, 2, none⟩ (.int .i64 0)).setCell ⟨b, 3, none⟩ (.int .i64 0) = WW at hf hg ⊢
        clear c0 c1 c2 c3 cf cl
        obtain ⟨y0, y1, y2, y3, yf, yl⟩ := cells4 hf
        refine bodyPost_ret (v := tokOut noTok 40) (by simp [results, Tryz.results114, go_sem, y0, y1, y2, y3, tokOut, tokV, noTok, strB]) rfl ⟨by rw [hso.out], hg⟩
end Go.Proofs.YtggdpgaedmegbaaGreatDoor
