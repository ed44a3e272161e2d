/-
  Several texts of the proof in one: LNumber, LToken, LLex, PCutL. No conditions of their own: each lemma states its own.
-/
import Derived.Test.YtggdpgaedmegbaaGreatDoorJLName
import Derived.Test.YtggdpgaedmegbaaGreatDoorJLSign
import Derived.Deep.DeepCutAuto
import Derived.Laws.AppendOwn
import Derived.Test.YtggdpgaedmegbaaGreatDoorJPText
namespace Go.Proofs.YtggdpgaedmegbaaGreatDoor
open Go.RowKit

theorem bytesWorld_below (w : World) (t : ByteArray) : Below w.heap.size w (Lib.bytesWorld w 5 t) := Lib.bytesWorld_below w 5 t
set_option maxHeartbeats 2000000 in
theorem number_any (s : ByteArray) (hs : s.size ≤ 65536) (p : Nat) (hp : p ≤ s.size) (w : World) (hV : Vars w) (hd : 1 ≤ spanN digitB ((bs s).drop p)) :
    Calls Tryz.prog 113 #[.string s, .int .i64 p] w fun e w' => e = .returned (if numV (((bs s).drop p).take (spanN digitB ((bs s).drop p))) < 9223372036854775808 then tokOut ⟨2, ((bs s).drop p).take (spanN digitB ((bs s).drop p)), numV (((bs s).drop p).take (spanN digitB ((bs s).drop p))), p⟩ 0 else tokOut noTok 41) ∧ Below w.heap.size w w' := by
  have hall := spanN_take (f := digitB) ((bs s).drop p)
  obtain ⟨m, hm⟩ : ∃ m, m = spanN digitB ((bs s).drop p) := ⟨_, rfl⟩
  have hle := spanN_le digitB ((bs s).drop p)
  rw [List.length_drop, bs_len, ← hm] at hle
  have hb := Lib.hid (behind_any s (by omega) 112 digitB enters33 digit_any p hp)
  rw [← hm] at hb hd hall ⊢
  have hx : s.extract p (p + m) = strB (((bs s).drop p).take m) := by rw [extract_strB, Nat.add_sub_cancel_left]
  have hne : ((bs s).drop p).take m ≠ [] := by
    intro h
    have := congrArg List.length h
    simp only [List.length_take, List.length_drop, bs_len, List.length_nil] at this
    omega
  generalize ((bs s).drop p).take m = tx at hx hne hall ⊢
  have hat : Lib.atoiAll (s.extract p (p + m)).data.toList = if numV tx < 9223372036854775808 then .ok (numV tx : Int) else .range := by
    rw [hx, show (strB tx).data.toList = tx from strB_bs tx]
    exact atoi_digits hne hall
  have hxs : (s.extract p (p + m)).size ≤ 65536 := by rw [ByteArray.size_extract]; omega
  obtain ⟨out, hout⟩ : ∃ out, out = if numV tx < 9223372036854775808 then tokOut ⟨2, tx, numV tx, p⟩ 0 else tokOut noTok 41 := ⟨_, rfl⟩
  rw [← hout]
  have HO := Lib.hid hout
  have HX := Lib.hid hx
  clear hx hm hout hne hall
  obtain ⟨W, hW⟩ : ∃ W, W = w.alloc (.cells #[.int .i64 0, .string ⟨#[]⟩, .int .i64 0, .int .i64 0] 40) := ⟨_, rfl⟩
  have hbW : Below w.heap.size w W := by rw [hW]; exact alloc_below _ _
  have hx0 : W.heap[w.heap.size]? = some (.cells #[.int .i64 0, .string ⟨#[]⟩, .int .i64 0, .int .i64 0] 40) := by rw [hW, heap_alloc_new]
  have hV1 := hV.b hbW
  go_enter Tryz.func113, Tryz.ntmps113
  go_upto_region 1 with fail
  rw [← hW]
  clear hW
  obtain ⟨b, hb0⟩ : ∃ b, b = w.heap.size := ⟨_, rfl⟩
  rw [← hb0] at hx0
  simp only [← hb0]
  have hbb : w.heap.size ≤ b := by omega
  clear hb0
  have HX0 := Lib.hid hx0
  have HBW := Lib.hid hbW
  by_cases hv : numV tx < 9223372036854775808
  · rw [if_pos hv] at hat
    have hA := Lib.hid (Tryz.strconv_Atoi_ok (s.extract p (p + m)) (by omega) _ hat W)
    replace HO := Lib.hid (HO.out.trans (if_pos hv))
    generalize hn : numV tx = n at hv hA HO
    clear hat hx0 hbW hn
    go_wp2_with (first
      | (go_at_call 106; refine (hb.out _).mono ?_; rintro e w1 ⟨rfl, rfl⟩)
      | (go_at_call 189; refine hA.out.mono ?_; rintro e w2 ⟨rfl, hw2⟩; have hb2 : Below w1.heap.size w1 w2 := (by rcases hw2 with rfl | ⟨t, rfl⟩; exact Below.refl _ _; exact bytesWorld_below _ _); have hX2 := Lib.hid (keepB HX0.out hb2); obtain ⟨c0, c1, c2, c3, cf, cl⟩ := cells4 hX2.out; have HB2 := Lib.hid (HBW.out.trans (hb2.mono HBW.out.size)); clear hw2 hb2))
    have hf := set4 (u0 := .int .i64 2) (u1 := .string (s.extract p (p + m))) (u2 := .int .i64 n) (u3 := .int .i64 p) hX2.out
    have hg := set4_below (u0 := .int .i64 2) (u1 := .string (s.extract p (p + m))) (u2 := .int .i64 n) (u3 := .int .i64 p) HB2.out hbb
    generalize (((w2.setCell ⟨b, 0, none⟩ (.int .i64 2)).setCell ⟨b, 1, none⟩ (.string (s.extract p (p + m)))).setCell ⟨b, 2, none⟩ (.int .i64 n)).setCell ⟨b, 3, none⟩ (.int .i64 p) = WW at hf hg ⊢
    clear c0 c1 c2 c3 cf cl
    obtain ⟨y0, y1, y2, y3, yf, yl⟩ := cells4 hf
    refine bodyPost_ret (v := tokOut ⟨2, tx, n, p⟩ 0) (by simp [results, Tryz.results113, go_sem, y0, y1, y2, y3, tokOut, tokV, HX.out]) rfl ⟨by rw [HO.out], hg⟩
  · rw [if_neg hv] at hat
    obtain ⟨te, pe, hr⟩ := hV1.range
    have hA := Lib.hid (Tryz.strconv_Atoi_range (s.extract p (p + m)) (by omega) hat _ W hr (.inr ⟨te, pe, rfl⟩))
    replace HO := Lib.hid (HO.out.trans (if_neg hv))
    generalize Lib.atoiSat (s.extract p (p + m)).data.toList = sat at hA
    clear hat hx0 hbW hr
    go_wp2_with (first
      | (go_at_call 106; refine (hb.out _).mono ?_; rintro e w1 ⟨rfl, rfl⟩)
      | (go_at_call 189; refine hA.out.mono ?_; rintro e w2 ⟨N, rfl, -, -, hb2⟩; have hX2 := Lib.hid (keepB HX0.out hb2); obtain ⟨c0, c1, c2, c3, cf, cl⟩ := cells4 hX2.out; have HB2 := Lib.hid (HBW.out.trans (hb2.mono HBW.out.size)); clear hb2))
    have hf := set4 (u0 := .int .i64 0) (u1 := .string ⟨#[]⟩) (u2 := .int .i64 0) (u3 := .int .i64 0) hX2.out
    have hg := set4_below (u0 := .int .i64 0) (u1 := .string ⟨#[]⟩) (u2 := .int .i64 0) (u3 := .int .i64 0) HB2.out hbb
    generalize (((w2.setCell ⟨b, 0, none⟩ (.int .i64 0)).setCell ⟨b, 1, none⟩ (.string ⟨#[]⟩)).setCell ⟨b, 2, none⟩ (.int .i64 0)).setCell ⟨b, 3, none⟩ (.int .i64 0) = WW at hf hg ⊢
    clear c0 c1 c2 c3 cf cl
    obtain ⟨y0, y1, y2, y3, yf, yl⟩ := cells4 hf
    refine bodyPost_ret (v := tokOut noTok 41) (by simp [results, Tryz.results113, go_sem, y0, y1, y2, y3, tokOut, tokV, noTok, strB]) rfl ⟨by rw [HO.out], hg⟩
end Go.Proofs.YtggdpgaedmegbaaGreatDoor

namespace Go.Proofs.YtggdpgaedmegbaaGreatDoor
open Go.RowKit

/-- What token hands back. -/
def tokenOut (l : List UInt8) (p : Nat) : Tok × Int := match tokR l with
  | .err e => (noTok, e)
  | .tok k m n => (⟨k, l.take m, n, p⟩, 0)
theorem tokenOut_letter {c : UInt8} {r : List UInt8} {p : Nat} (h : letterB c = true) :
    (if spanN nameB (c :: r) ≤ 24 then tokOut ⟨1, (c :: r).take (spanN nameB (c :: r)), 0, p⟩ 0 else tokOut noTok 42) = tokOut (tokenOut (c :: r) p).1 (tokenOut (c :: r) p).2 := by
  have hn : nameB c = true := by simp [nameB, h]
  have hs : spanN nameB (c :: r) = spanN nameB r + 1 := by simp [spanN, hn]
  rw [hs, tokenOut]
  by_cases h24 : spanN nameB r + 1 ≤ 24
  · have : tokR (c :: r) = .tok 1 (spanN nameB r + 1) 0 := by simp [tokR, h, h24]
    rw [this, if_pos h24]
  · have : tokR (c :: r) = .err 42 := by simp only [tokR, h, h24, if_true, if_false]
    rw [this, if_neg h24]
theorem tokenOut_digit {c : UInt8} {r : List UInt8} {p : Nat} (h : letterB c = false) (hd : digitB c = true) :
    (if numV ((c :: r).take (spanN digitB (c :: r))) < 9223372036854775808 then tokOut ⟨2, (c :: r).take (spanN digitB (c :: r)), numV ((c :: r).take (spanN digitB (c :: r))), p⟩ 0 else tokOut noTok 41) = tokOut (tokenOut (c :: r) p).1 (tokenOut (c :: r) p).2 := by
  rw [tokenOut]
  by_cases h24 : numV ((c :: r).take (spanN digitB (c :: r))) < 9223372036854775808
  · have : tokR (c :: r) = .tok 2 (spanN digitB (c :: r)) (numV ((c :: r).take (spanN digitB (c :: r)))) := by simp only [tokR, h, hd, h24, if_true, Bool.false_eq_true, if_false]
    rw [this, if_pos h24]
  · have : tokR (c :: r) = .err 41 := by simp only [tokR, h, hd, h24, if_true, Bool.false_eq_true, if_false]
    rw [this, if_neg h24]
theorem tokenOut_sign {c : UInt8} {r : List UInt8} {p : Nat} (h : letterB c = false) (hd : digitB c = false) : signOut (c :: r) p = tokOut (tokenOut (c :: r) p).1 (tokenOut (c :: r) p).2 := by
  rw [tokenOut, signOut]
  by_cases h0 : signN (c :: r) = 0
  · have : tokR (c :: r) = .err 40 := by simp only [tokR, h, hd, h0, Bool.false_eq_true, if_false, if_true]
    rw [this, if_pos h0]
  · have : tokR (c :: r) = .tok 3 (signN (c :: r)) 0 := by simp only [tokR, h, hd, h0, Bool.false_eq_true, if_false]
    rw [this, if_neg h0]
theorem spanN_digit {c : UInt8} {r : List UInt8} (hd : digitB c = true) : 1 ≤ spanN digitB (c :: r) := by simp [spanN, hd]
set_option maxHeartbeats 4000000 in
theorem token_any (s : ByteArray) (hs : s.size ≤ 65536) (p : Nat) (hp : p < s.size) (w : World) (hV : Vars w) :
    Calls Tryz.prog 46 #[.string s, .int .i64 p] w fun e w' => e = .returned (tokOut (tokenOut ((bs s).drop p) p).1 (tokenOut ((bs s).drop p) p).2) ∧ Below w.heap.size w w' := by
  obtain ⟨c, r, h1, h2, h3⟩ := byte_at s p hp
  have hi := run_byte s p c hp h3
  have H1 := Lib.hid h1
  obtain ⟨W, hW⟩ : ∃ W, W = w.alloc (.cells #[.int .i64 0, .string ⟨#[]⟩, .int .i64 0, .int .i64 0] 40) := ⟨_, rfl⟩
  have hbW : Below w.heap.size w W := by rw [hW]; exact alloc_below _ _
  have hx0 : W.heap[w.heap.size]? = some (.cells #[.int .i64 0, .string ⟨#[]⟩, .int .i64 0, .int .i64 0] 40) := by rw [hW, heap_alloc_new]
  have hV1 := hV.b hbW
  have hname := Lib.hid (name_any s (by omega) p (by omega) W)
  have hsign := Lib.hid (sign_any s hs p hp W hV1)
  have hnum := Lib.hid (number_any s hs p (by omega) W hV1)
  rw [h1] at hname hsign hnum ⊢
  obtain ⟨t, ht⟩ : ∃ t, t = (tokenOut (c :: r) p).1 := ⟨_, rfl⟩
  obtain ⟨er, her⟩ : ∃ er, er = (tokenOut (c :: r) p).2 := ⟨_, rfl⟩
  rw [← ht, ← her]
  replace ht := Lib.hid ht
  replace her := Lib.hid her
  have hlet := Lib.hid (letter_any c)
  have hdig := Lib.hid (digit_any c)
  obtain ⟨b, hb0⟩ : ∃ b, b = w.heap.size := ⟨_, rfl⟩
  go_enter Tryz.func46, Tryz.ntmps46
  go_upto_region 1 with fail
  rw [← hW]
  clear hW hV1 hV h1 h2 h3
  rw [← hb0] at hx0
  simp only [← hb0]
  have hbb : w.heap.size ≤ b := by omega
  clear hb0
  have HX0 := Lib.hid hx0
  have HBW := Lib.hid hbW
  clear hx0 hbW
  cases hl : letterB c with
  | true =>
    have HL := Lib.hid hl
    have hcall : Hid (Calls Tryz.prog 111 #[.string s, .int .i64 p] W fun e w' => e = .returned (tokOut t er) ∧ Below W.heap.size W w') := Lib.hid (by
      rw [ht.out, her.out, ← tokenOut_letter hl]; exact hname.out)
    clear hl hname hsign hnum
    go_wp2_with (first
      | (go_at_call 110; refine (hlet.out _).mono ?_; rintro e w1 ⟨rfl, rfl⟩; rw [HL.out])
      | (go_at_call 111; refine hcall.out.mono ?_; rintro e w2 ⟨rfl, hb2⟩; unfold tokOut tokV; have hX2 := Lib.hid (keepB HX0.out hb2); obtain ⟨c0, c1, c2, c3, cf, cl⟩ := cells4 hX2.out; have HB2 := Lib.hid (HBW.out.trans (hb2.mono HBW.out.size)); clear hb2))
    have hf := set4 (u0 := .int .i64 t.k) (u1 := .string (strB t.text)) (u2 := .int .i64 t.n) (u3 := .int .i64 t.pos) hX2.out
    have hg := set4_below (u0 := .int .i64 t.k) (u1 := .string (strB t.text)) (u2 := .int .i64 t.n) (u3 := .int .i64 t.pos) HB2.out hbb
    generalize (((w2.setCell ⟨b, 0, none⟩ (.int .i64 t.k)).setCell ⟨b, 1, none⟩ (.string (strB t.text))).setCell ⟨b, 2, none⟩ (.int .i64 t.n)).setCell ⟨b, 3, none⟩ (.int .i64 t.pos) = WW at hf hg ⊢
    clear c0 c1 c2 c3 cf cl
    obtain ⟨y0, y1, y2, y3, yf, yl⟩ := cells4 hf
    refine bodyPost_ret (v := tokOut t er) (by simp [results, Tryz.results46, go_sem, y0, y1, y2, y3, tokOut, tokV]) rfl ⟨rfl, hg⟩
  | false =>
    have HL := Lib.hid hl
    cases hd : digitB c with
    | true =>
      have HD := Lib.hid hd
      have hcall : Hid (Calls Tryz.prog 113 #[.string s, .int .i64 p] W fun e w' => e = .returned (tokOut t er) ∧ Below W.heap.size W w') := Lib.hid (by
        rw [ht.out, her.out, ← tokenOut_digit hl hd]; exact hnum.out (spanN_digit hd))
      clear hl hd hname hsign hnum
      go_wp2_with (first
        | (go_at_call 110; refine (hlet.out _).mono ?_; rintro e w1 ⟨rfl, rfl⟩; rw [HL.out])
        | (go_at_call 112; refine (hdig.out _).mono ?_; rintro e w1 ⟨rfl, rfl⟩; rw [HD.out])
        | (go_at_call 113; refine hcall.out.mono ?_; rintro e w2 ⟨rfl, hb2⟩; unfold tokOut tokV; have hX2 := Lib.hid (keepB HX0.out hb2); obtain ⟨c0, c1, c2, c3, cf, cl⟩ := cells4 hX2.out; have HB2 := Lib.hid (HBW.out.trans (hb2.mono HBW.out.size)); clear hb2))
      have hf := set4 (u0 := .int .i64 t.k) (u1 := .string (strB t.text)) (u2 := .int .i64 t.n) (u3 := .int .i64 t.pos) hX2.out
      have hg := set4_below (u0 := .int .i64 t.k) (u1 := .string (strB t.text)) (u2 := .int .i64 t.n) (u3 := .int .i64 t.pos) HB2.out hbb
      generalize (((w2.setCell ⟨b, 0, none⟩ (.int .i64 t.k)).setCell ⟨b, 1, none⟩ (.string (strB t.text))).setCell ⟨b, 2, none⟩ (.int .i64 t.n)).setCell ⟨b, 3, none⟩ (.int .i64 t.pos) = WW at hf hg ⊢
      clear c0 c1 c2 c3 cf cl
      obtain ⟨y0, y1, y2, y3, yf, yl⟩ := cells4 hf
      refine bodyPost_ret (v := tokOut t er) (by simp [results, Tryz.results46, go_sem, y0, y1, y2, y3, tokOut, tokV]) rfl ⟨rfl, hg⟩
    | false =>
      have HD := Lib.hid hd
      have hcall : Hid (Calls Tryz.prog 114 #[.string s, .int .i64 p] W fun e w' => e = .returned (tokOut t er) ∧ Below W.heap.size W w') := Lib.hid (by
        rw [ht.out, her.out, ← tokenOut_sign hl hd]; exact hsign.out)
      clear hl hd hname hsign hnum
      go_wp2_with (first
        | (go_at_call 110; refine (hlet.out _).mono ?_; rintro e w1 ⟨rfl, rfl⟩; rw [HL.out])
        | (go_at_call 112; refine (hdig.out _).mono ?_; rintro e w1 ⟨rfl, rfl⟩; rw [HD.out])
        | (go_at_call 114; refine hcall.out.mono ?_; rintro e w2 ⟨rfl, hb2⟩; unfold tokOut tokV; have hX2 := Lib.hid (keepB HX0.out hb2); obtain ⟨c0, c1, c2, c3, cf, cl⟩ := cells4 hX2.out; have HB2 := Lib.hid (HBW.out.trans (hb2.mono HBW.out.size)); clear hb2))
      have hf := set4 (u0 := .int .i64 t.k) (u1 := .string (strB t.text)) (u2 := .int .i64 t.n) (u3 := .int .i64 t.pos) hX2.out
      have hg := set4_below (u0 := .int .i64 t.k) (u1 := .string (strB t.text)) (u2 := .int .i64 t.n) (u3 := .int .i64 t.pos) HB2.out hbb
      generalize (((w2.setCell ⟨b, 0, none⟩ (.int .i64 t.k)).setCell ⟨b, 1, none⟩ (.string (strB t.text))).setCell ⟨b, 2, none⟩ (.int .i64 t.n)).setCell ⟨b, 3, none⟩ (.int .i64 t.pos) = WW at hf hg ⊢
      clear c0 c1 c2 c3 cf cl
      obtain ⟨y0, y1, y2, y3, yf, yl⟩ := cells4 hf
      refine bodyPost_ret (v := tokOut t er) (by simp [results, Tryz.results46, go_sem, y0, y1, y2, y3, tokOut, tokV]) rfl ⟨rfl, hg⟩
end Go.Proofs.YtggdpgaedmegbaaGreatDoor

namespace Go.Proofs.YtggdpgaedmegbaaGreatDoor
open Go.RowKit

def endTok (s : ByteArray) : Tok := ⟨0, [], 0, s.size⟩
/-- What Lex hands back. -/
def LexOut (B : Nat) (s : ByteArray) (e : Ending) (w' : World) : Prop := match lexL (bs s) with
  | .bad er q => e = .returned (.tuple #[.slice none 0 0, .int .i64 er, .int .i64 q])
  | .good ts => ∃ g cap, e = .returned (.tuple #[.slice (some ⟨g, 0, none⟩) (ts.length + 1) cap, .int .i64 0, .int .i64 0]) ∧ B ≤ g ∧ ToksAt w' g (ts ++ [endTok s])
theorem infoT : (Tryz.prog.info? 40).map (fun i => (i.zero, i.size, i.bytes)) = some (some (.agg #[.int .i64 0, .string ⟨#[]⟩, .int .i64 0, .int .i64 0]), 4, 40) := by kernel_rfl
theorem tokenOut_err {l : List UInt8} {p : Nat} {e : Int} (h : tokR l = .err e) : tokenOut l p = (noTok, e) := by simp [tokenOut, h]
theorem tokenOut_tok {l : List UInt8} {p m n : Nat} {k : Int} (h : tokR l = .tok k m n) : tokenOut l p = (⟨k, l.take m, n, p⟩, 0) := by simp [tokenOut, h]
theorem tokR_err {l : List UInt8} {e : Int} (h : tokR l = .err e) : e ≠ 0 := by
  cases l with
  | nil => cases h; decide
  | cons c r =>
    simp only [tokR] at h
    split at h
    · split at h <;> cases h; decide
    · split at h
      · split at h <;> cases h; decide
      · split at h <;> cases h; decide
theorem tok_cells (t : Tok) : ∀ u ∈ tokC t, u.oneCell' = true := by
  intro u hu
  simp only [tokC, List.mem_cons, List.not_mem_nil, or_false] at hu
  rcases hu with rfl | rfl | rfl | rfl <;> rfl
set_option maxRecDepth 100000 in
set_option maxHeartbeats 4000000 in
theorem lex_any (s : ByteArray) (w : World) (hV : Vars w) : Calls Tryz.prog 18 #[.string s] w fun e w' => LexOut w.heap.size s e w' ∧ Below w.heap.size w w' := by
  by_cases hs : s.size ≤ 65536
  · have t0 : decide ((s.size : Int) > 65536) = false := by simp; omega
    obtain ⟨k0, hk0⟩ : ∃ k0, k0 = passN false (bs s) := ⟨_, rfl⟩
    have hk0s : k0 ≤ s.size := by have := passN_le false (bs s); rw [bs_len] at this; omega
    have hpa := pass_any s (by omega) 0 (by omega)
    rw [List.drop_zero, Nat.zero_add, ← hk0] at hpa
    replace hpa := Lib.hid hpa
    have hst := Lib.hid (show (lexQ k0 ((bs s).drop k0)).pre [] = lexT 0 (bs s) by rw [Res.pre_nil, lexT, Nat.zero_add, ← hk0])
    have hL := Lib.hid (show lexL (bs s) = lexT 0 (bs s) by rw [lexL, if_pos (by rw [bs_len]; exact hs)])
    obtain ⟨i31, hi31, hz31, hs31, hb31⟩ := info_parts infoT
    have HI := Lib.hid (And.intro hi31 (And.intro hz31 (And.intro hs31 hb31)))
    have HV := Lib.hid hV
    clear hk0 hi31 hz31 hs31 hb31 hV
    go_enter Tryz.func18, Tryz.ntmps18
    go_wp2_with (go_at_call 45; refine (hpa.out _).mono ?_; rintro e w1 ⟨rfl, rfl⟩)
    go_loopw [5, 6] (fun v i wr => ∃ (j : Nat) (ts : List Tok), j ≤ s.size ∧ i = .int .i64 j ∧ wr.ownsRow w1.heap.size 40 4 v ts.length (toksC ts) ∧ Below w1.heap.size w1 wr ∧ (lexQ j ((bs s).drop j)).pre ts = lexT 0 (bs s) ∧ ts.length ≤ j) (fun _ i _ => s.size - (intOf i).toNat)
    case atStart => exact ⟨k0, [], hk0s, rfl, World.ownsRow_nil _ _ _ _, Below.refl _ _, hst.out, by simp⟩
    case round =>
      obtain ⟨j, ts, hj, rfl, hown, hb, hrel, hlen⟩ := hrel
      obtain ⟨og, g, cap, rfl, hog⟩ := row_shape hown
      have HREL := Lib.hid hrel
      have HOWN := Lib.hid hown
      have HB := Lib.hid hb
      by_cases hjl : j < s.size
      · have t1 : decide ((j : Int) < s.size) = true := by simp; omega
        have htk := Lib.hid (token_any s hs j hjl wr (HV.out.b hb))
        cases htr : tokR ((bs s).drop j) with
        | err er =>
          have hne := tokR_err htr
          rw [tokenOut_err htr] at htk
          have hq : Hid (lexL (bs s) = .bad er j) := Lib.hid (by
            rw [hL.out, ← hrel, lexQ_err (by intro h; have := congrArg List.length h; rw [List.length_drop, bs_len] at this; simp at this; omega) htr]; rfl)
          have t2 : (er != 0) = true := by simpa using hne
          clear htr hne hrel hown hb
          go_wp2_with (go_at_call 46; refine htk.out.mono ?_; rintro e w2 ⟨rfl, hb2⟩; unfold tokOut tokV noTok; have HB2 := Lib.hid (HB.out.trans (hb2.mono HB.out.size)); clear hb2)
          go_returns
          refine ⟨show LexOut _ s (.returned (.tuple #[.slice none 0 0, .int .i64 er, .int .i64 j])) _ from by rw [LexOut, hq.out], ?_⟩
          exact HB2.out.alloc HB2.out.size _
        | tok k m n =>
          rw [tokenOut_tok htr] at htk
          have hm := tokR_len htr
          rw [List.length_drop, bs_len] at hm
          have hq := lexQ_tok (p := j) htr
          rw [List.drop_drop] at hq
          obtain ⟨tx, htx⟩ : ∃ tx, tx = ((bs s).drop j).take m := ⟨_, rfl⟩
          rw [← htx] at htk hq
          have htl : tx.length = m := by rw [htx, List.length_take, List.length_drop, bs_len]; omega
          have hts : (strB tx).size = m := by rw [strB_size, htl]
          obtain ⟨k1, hk1⟩ : ∃ k1, k1 = passN false ((bs s).drop (j + m)) := ⟨_, rfl⟩
          have hk1s : j + m + k1 ≤ s.size := by have := passN_le false ((bs s).drop (j + m)); rw [List.length_drop, bs_len] at this; omega
          have hpb := pass_any s (by omega) (j + m) (by omega)
          rw [← hk1] at hpb
          replace hpb := Lib.hid hpb
          have hR2 : Hid ((lexQ (j + m + k1) ((bs s).drop (j + m + k1))).pre (ts ++ [⟨k, tx, n, j⟩]) = lexT 0 (bs s)) := Lib.hid (by
            rw [← hrel, hq, Res.pre_pre, lexT, List.drop_drop, ← hk1])
          have hm1 := hm.1
          clear htr hq htx hk1 hrel hown hb hm
          go_upto_region 9 with (go_at_call 46; refine htk.out.mono ?_; rintro e w2 ⟨rfl, hb2⟩; unfold tokOut tokV; have HB2 := Lib.hid (HB.out.trans (hb2.mono HB.out.size)); have HO2 := Lib.hid (row_below hb2 HOWN.out); clear hb2)
          have hB3 := HB2.out.alloc HB2.out.size (.cells #[.int .i64 k, .string (strB tx), .int .i64 n, .int .i64 j] 40)
          have hO3 := row_below (alloc_below w2 (.cells #[.int .i64 k, .string (strB tx), .int .i64 n, .int .i64 j] 40)) HO2.out
          have hX3 := heap_alloc_new w2 (.cells #[.int .i64 k, .string (strB tx), .int .i64 n, .int .i64 j] 40)
          have hne : ∀ q, (Value.slice og ts.length cap).ownBlock = some q → q ≠ w2.heap.size := fun q hq => Nat.ne_of_lt (HO2.out.lt q hq).2
          generalize hbx : w2.heap.size = bx at hX3 hne ⊢
          have HNE := Lib.hid hne
          generalize hW3 : w2.alloc (.cells #[.int .i64 k, .string (strB tx), .int .i64 n, .int .i64 j] 40) = W3 at hB3 hO3 hX3 ⊢
          have HX3 := Lib.hid hX3
          obtain ⟨c0, c1, c2, c3, cf, cl⟩ := cells4 hX3
          clear hbx hW3 hX3 HO2 HB2 hne
          obtain ⟨hi31, hz31, hs31, hb31⟩ := HI.out
          have hB3s := hB3.size
          go_wp2_with (at_builtin; refine wpList_append_own _ rfl (.tmp 28) (.tmp 30) 33 rfl w1.heap.size 40 i31 _ 4 40 Tryz.underlying33 hi31 hz31 hs31 hb31 rfl (by decide) (.slice og ts.length cap) ts.length _ rfl (row_below (alloc_below _ _) hO3) ⟨W3.heap.size, 0, none⟩ 1 1 (tokC ⟨k, tx, n, j⟩) rfl rfl ?c1 ?c2 ?c3 ?c4 ?c5 ?_)
          case c1 => first | exact new_cells W3 (tokC ⟨k, tx, n, j⟩) 40 _ rfl | exact fun _ _ h => h
          case c2 => exact tok_cells _
          case c3 => unfold maxLen; omega
          case c4 => omega
          case c5 => first | omega | (simp; omega)
          intro v' w4 hown4 hgrow _
          have hb4 : Below w1.heap.size w1 w4 := (hB3.alloc hB3s _).grown hgrow (by simp; omega) fun q hq => (hO3.lt q hq).1
          have hX4 : w4.heap[bx]? = some (.cells #[.int .i64 k, .string (strB tx), .int .i64 n, .int .i64 j] 40) := by
            rw [hgrow.block bx (by simp; omega) (fun h => HNE.out bx h.symm rfl), Below.heap_alloc _ _ _ cl]
            exact HX3.out
          rw [← toksC_snoc] at hown4
          have HX4 := Lib.hid hX4
          have HB4 := Lib.hid hb4
          have HO4 := Lib.hid hown4
          clear hown4 hgrow hO3 hB3 c0 c1 c2 c3 cf cl hX4 hb4 hi31 hz31 hs31 hb31
          obtain ⟨c0, c1, c2, c3, cf, cl⟩ := cells4 HX4.out
          go_wp2_with (go_at_call 45; refine (hpb.out _).mono ?_; rintro e w5 ⟨rfl, rfl⟩)
          go_roundw
          case rel =>
            refine ⟨j + m + k1, ts ++ [⟨k, tx, n, j⟩], hk1s, rfl, ?_, HB4.out, hR2.out, by simp; omega⟩
            rw [List.length_append, List.length_singleton]
            exact HO4.out
          case measure => simp [intOf]; omega
      · have t1 : decide ((j : Int) < s.size) = false := by simp; omega
        obtain rfl : j = s.size := by omega
        have hq : Hid (lexL (bs s) = .good ts) := Lib.hid (by
          rw [hL.out, ← hrel, List.drop_eq_nil_of_le (by rw [bs_len]; omega), lexQ_nil]
          simp [Res.pre])
        obtain ⟨hi31, hz31, hs31, hb31⟩ := HI.out
        have hbs := hb.size
        clear hrel
        go_wp2_with (at_builtin; refine wpList_append_own _ rfl (.tmp 39) (.tmp 43) 33 rfl w1.heap.size 40 i31 _ 4 40 Tryz.underlying33 hi31 hz31 hs31 hb31 rfl (by decide) (.slice og ts.length cap) ts.length _ rfl (row_below (alloc_below _ _) hown) ⟨wr.heap.size, 0, none⟩ 1 1 (tokC (endTok s)) rfl rfl ?d1 ?d2 ?d3 ?d4 ?d5 ?_)
        case d1 => first | exact new_cells wr (tokC (endTok s)) 40 _ rfl | exact fun _ _ h => h
        case d2 => exact tok_cells _
        case d3 => unfold maxLen; omega
        case d4 => omega
        case d5 => first | omega | (simp; omega)
        intro v' w4 hown4 hgrow _
        have hb4 : Below w1.heap.size w1 w4 := (hb.alloc hbs _).grown hgrow (by simp; omega) fun q hq => (hown.lt q hq).1
        rw [← toksC_snoc] at hown4
        obtain ⟨og2, g2, cap2, rfl, hog2⟩ := row_shape hown4
        obtain rfl := hog2 (by omega)
        have hT := ToksAt.of_own hown4
        have hg2 := (own_cells hown4).2.1
        go_wp2
        go_returns
        refine ⟨?_, hb4⟩
        show LexOut _ s (.returned (.tuple #[.slice (some ⟨g2, 0, none⟩) (ts.length + 1) cap2, .int .i64 0, .int .i64 0])) _
        rw [LexOut, hq.out]
        exact ⟨g2, cap2, rfl, hg2, hT⟩
  · have t0 : decide ((s.size : Int) > 65536) = true := by simp; omega
    have hL := Lib.hid (show lexL (bs s) = .bad 43 0 by rw [lexL, if_neg (by rw [bs_len]; exact hs)])
    go_enter Tryz.func18, Tryz.ntmps18
    go_wp2
    go_returns
    exact ⟨show LexOut _ s (.returned (.tuple #[.slice none 0 0, .int .i64 43, .int .i64 0])) _ from by rw [LexOut, hL.out]; rfl, Below.refl _ _⟩
end Go.Proofs.YtggdpgaedmegbaaGreatDoor

namespace Go.Proofs.YtggdpgaedmegbaaGreatDoor

theorem slashes_cut {c : UInt8} {r : List UInt8} {n : Nat} (h : slashes (c :: r.take n) = true) : slashes (c :: r) = true := by
  obtain ⟨r', h1⟩ := slashes_cons h
  simp only [List.cons.injEq] at h1
  obtain ⟨rfl, h2⟩ := h1
  cases r with
  | nil => simp at h2
  | cons d r =>
    cases n with
    | zero => simp at h2
    | succ n => simp at h2; rw [h2.1]; rfl
theorem passN_take : ∀ (b : Bool) (l : List UInt8) (n : Nat), passN b l ≤ n → passN b (l.take n) = passN b l
  | true, [], n, _ => by simp [passN]
  | false, [], n, _ => by simp [passN]
  | true, c :: r, n, h => by
    have e : passN true (c :: r) = (if lineB c then passN true r else passN false r) + 1 := by rw [passN]; split <;> rfl
    rw [e] at h
    obtain ⟨n, rfl⟩ : ∃ m, n = m + 1 := ⟨n - 1, by omega⟩
    rw [List.take_succ_cons, passN, passN]
    cases hl : lineB c <;> simp only [hl, if_true, Bool.false_eq_true, if_false] at h ⊢
    · rw [passN_take false r n (by omega)]
    · rw [passN_take true r n (by omega)]
  | false, c :: r, n, h => by
    cases hb : blankB c
    · cases hs : slashes (c :: r)
      · rw [passN_zero hb hs]
        cases n with
        | zero => rfl
        | succ n =>
          rw [List.take_succ_cons]
          refine passN_zero hb ?_
          cases hq : slashes (c :: r.take n) with
          | false => rfl
          | true => rw [slashes_cut hq] at hs; cases hs
      · have e : passN false (c :: r) = passN true r + 1 := by rw [passN]; simp [hb, hs]
        rw [e] at h ⊢
        obtain ⟨n, rfl⟩ : ∃ m, n = m + 1 := ⟨n - 1, by omega⟩
        have ih := passN_take true r n (by omega)
        have hq : slashes (c :: r.take n) = true := by
          obtain ⟨r', h1⟩ := slashes_cons hs
          simp only [List.cons.injEq] at h1
          obtain ⟨rfl, rfl⟩ := h1
          have h2 : passN true (47 :: r') = passN true r' + 1 := by rw [passN]; rfl
          rw [h2] at h
          obtain ⟨n, rfl⟩ : ∃ m, n = m + 1 := ⟨n - 1, by omega⟩
          rfl
        rw [List.take_succ_cons, passN]
        simp [hb, hq, ih]
    · have e : passN false (c :: r) = passN false r + 1 := by rw [passN]; simp [hb]
      rw [e] at h ⊢
      obtain ⟨n, rfl⟩ : ∃ m, n = m + 1 := ⟨n - 1, by omega⟩
      rw [List.take_succ_cons, passN]
      simp [hb, passN_take false r n (by omega)]
theorem spanN_cut (f : UInt8 → Bool) : ∀ (l : List UInt8) (q : Nat), spanN f l ≤ q → spanN f (l.take q) = spanN f l
  | [], q, _ => by simp
  | c :: r, q, h => by
    cases hc : f c
    · have e : spanN f (c :: r) = 0 := by simp [spanN, hc]
      rw [e]
      cases q with
      | zero => rfl
      | succ q => simp [spanN, hc]
    · have e : spanN f (c :: r) = spanN f r + 1 := by simp [spanN, hc]
      rw [e] at h ⊢
      obtain ⟨q, rfl⟩ : ∃ m, q = m + 1 := ⟨q - 1, by omega⟩
      rw [List.take_succ_cons]
      simp only [spanN, hc, if_true]
      rw [spanN_cut f r q (by omega)]
theorem long_two {l : List UInt8} (h : l ∈ longL) : l.length = 2 := by
  simp [longL] at h
  rcases h with h | h | h | h <;> rw [h] <;> rfl
theorem signN_take {l : List UInt8} {q : Nat} (h : signN l ≤ q) (h0 : signN l ≠ 0) : signN (l.take q) = signN l := by
  by_cases h2 : l.take 2 ∈ longL
  · have e : signN l = 2 := by unfold signN; rw [if_pos h2]
    rw [e] at h ⊢
    unfold signN
    rw [List.take_take, show min 2 q = 2 by omega, if_pos h2]
  · cases l with
    | nil => simp [signN, longL] at h0
    | cons c r =>
      have e : signN (c :: r) = if c ∈ shortL then 1 else 0 := by rw [signN, if_neg h2]
      rw [e] at h h0 ⊢
      by_cases hc : c ∈ shortL
      · rw [if_pos hc] at h ⊢
        obtain ⟨q, rfl⟩ : ∃ m, q = m + 1 := ⟨q - 1, by omega⟩
        have hn : ¬ ((c :: r).take (q + 1)).take 2 ∈ longL := by
          rw [List.take_take]
          intro hm
          have h3 := long_two hm
          by_cases hq : 2 ≤ q + 1
          · rw [show min 2 (q + 1) = 2 by omega] at hm; exact h2 hm
          · rw [List.length_take] at h3; omega
        rw [List.take_succ_cons] at hn ⊢
        rw [signN, if_neg hn]
        simp only [hc, if_true]
      · rw [if_neg hc] at h0; exact absurd rfl h0
theorem tokR_take {l : List UInt8} {k : Int} {m n q : Nat} (h : tokR l = .tok k m n) (hq : m ≤ q) : tokR (l.take q) = .tok k m n := by
  have hm := tokR_len h
  cases l with
  | nil => cases h
  | cons c r =>
    obtain ⟨q, rfl⟩ : ∃ p, q = p + 1 := ⟨q - 1, by omega⟩
    have ec : (c :: r).take (q + 1) = c :: r.take q := List.take_succ_cons
    rw [tokR] at h
    rw [ec, tokR]
    by_cases hl : letterB c = true
    · rw [if_pos hl] at h ⊢
      by_cases h24 : spanN nameB r + 1 ≤ 24
      · rw [if_pos h24] at h
        cases h
        rw [spanN_cut nameB r q (by omega), if_pos h24]
      · rw [if_neg h24] at h; cases h
    · rw [if_neg hl] at h ⊢
      by_cases hd : digitB c = true
      · rw [if_pos hd] at h ⊢
        by_cases hv : numV ((c :: r).take (spanN digitB (c :: r))) < 9223372036854775808
        · rw [if_pos hv] at h
          cases h
          have e := spanN_cut digitB (c :: r) (q + 1) hq
          rw [ec] at e
          rw [e, ← ec, List.take_take, show min (spanN digitB (c :: r)) (q + 1) = spanN digitB (c :: r) by omega, if_pos hv]
        · rw [if_neg hv] at h; cases h
      · rw [if_neg hd] at h ⊢
        by_cases hs : signN (c :: r) = 0
        · rw [if_pos hs] at h; cases h
        · rw [if_neg hs] at h
          cases h
          have e := signN_take hq hs
          rw [ec] at e
          rw [e, if_neg hs]
/-- ahead of the last token the text has all the others -/
theorem lexT_cut : ∀ (ts : List Tok) (t : Tok) (p : Nat) (l : List UInt8), lexT p l = .good (ts ++ [t]) → p ≤ t.pos ∧ t.pos < p + l.length ∧ lexT p (l.take (t.pos - p)) = .good ts
  | [], t, p, l, h => by
    rcases lexT_good h with ⟨h1, _⟩ | ⟨t0, us, h1, h2, h3, h4, _⟩
    · cases h1
    · simp only [List.nil_append, List.cons.injEq] at h1
      obtain ⟨rfl, rfl⟩ := h1
      refine ⟨by omega, by omega, ?_⟩
      rw [show t.pos - p = passN false l by omega]
      rw [lexT, passN_take false l _ (Nat.le_refl _), List.drop_eq_nil_of_le (by rw [List.length_take]; omega)]
      rfl
  | u :: ts, t, p, l, h => by
    rcases lexT_good h with ⟨h1, _⟩ | ⟨t0, us, h1, h2, h3, h4, h5, h6, h7, h8⟩
    · cases h1
    · simp only [List.cons_append, List.cons.injEq] at h1
      obtain ⟨rfl, rfl⟩ := h1
      obtain ⟨i1, i2, i3⟩ := lexT_cut ts t _ _ h8
      rw [List.length_drop] at i2
      refine ⟨by omega, by omega, ?_⟩
      have hp : passN false (l.take (t.pos - p)) = passN false l := passN_take false l _ (by omega)
      rw [lexT, hp, List.drop_take, lexQ_tok (tokR_take h7 (by omega))]
      rw [List.drop_take, List.drop_drop, show t.pos - p - passN false l - u.text.length = t.pos - (p + passN false l + u.text.length) by omega, i3]
      rw [List.take_take, show min u.text.length (t.pos - p - passN false l) = u.text.length by omega, ← h5, ← h2]
      rfl
theorem lexL_cut {ts : List Tok} {t : Tok} {l : List UInt8} (h : lexL l = .good (ts ++ [t])) : t.pos < l.length ∧ lexL (l.take t.pos) = .good ts := by
  unfold lexL at h
  by_cases hl : l.length ≤ 65536
  · rw [if_pos hl] at h
    obtain ⟨_, h2, h3⟩ := lexT_cut ts t 0 l h
    rw [Nat.sub_zero] at h3
    refine ⟨by omega, ?_⟩
    unfold lexL
    rw [if_pos (by rw [List.length_take]; omega), h3]
  · rw [if_neg hl] at h; cases h
/-- a token by itself -/
def OneT (t : Tok) : Prop := tokR t.text = .tok t.k t.text.length t.n ∧ passN false t.text = 0
theorem tok_pass {l : List UInt8} {k : Int} {m n : Nat} (h : tokR l = .tok k m n) : passN false l = 0 := by
  cases l with
  | nil => rfl
  | cons c r =>
    have hb : blankB c = false ∧ c ≠ 47 := by
      rw [tokR] at h
      cases hq : blankB c
      · refine ⟨rfl, fun e => ?_⟩
        subst e
        have : signN (47 :: r) = 0 := by
          unfold signN
          have : ¬ (47 :: r).take 2 ∈ longL := by
            cases r <;> simp [longL]
          rw [if_neg this]
          rfl
        simp [letterB, digitB, this] at h
      · exfalso
        simp only [blankB, Bool.or_eq_true, decide_eq_true_eq] at hq
        have hc : c = 32 ∨ c = 9 ∨ c = 10 := by
          rcases hq with (hq | hq) | hq
          · exact .inl (UInt8.toNat_inj.1 hq)
          · exact .inr (.inl (UInt8.toNat_inj.1 hq))
          · exact .inr (.inr (UInt8.toNat_inj.1 hq))
        have hs : ∀ c : UInt8, c = 32 ∨ c = 9 ∨ c = 10 → ∀ r, signN (c :: r) = 0 := by
          intro c hc r
          unfold signN
          have : ¬ (c :: r).take 2 ∈ longL := by
            rcases hc with rfl | rfl | rfl <;> cases r <;> simp [longL]
          rw [if_neg this]
          rcases hc with rfl | rfl | rfl <;> rfl
        rw [hs c hc r] at h
        rcases hc with rfl | rfl | rfl <;> simp [letterB, digitB] at h
    refine passN_zero hb.1 ?_
    cases hs : slashes (c :: r)
    · rfl
    · obtain ⟨r', h1⟩ := slashes_cons hs
      simp only [List.cons.injEq] at h1
      exact absurd h1.1 hb.2
theorem lexT_one : ∀ (n p : Nat) (l : List UInt8) (ts : List Tok), l.length ≤ n → lexT p l = .good ts → ∀ t ∈ ts, OneT t
  | n, p, l, ts, hn, h => by
    rcases lexT_good h with ⟨rfl, _⟩ | ⟨t0, us, rfl, h2, h3, h4, h5, h6, h7, h8⟩
    · intro t ht; cases ht
    · intro t ht
      rcases List.mem_cons.1 ht with rfl | ht
      · have h9 := tokR_take h7 (Nat.le_refl _)
        rw [← h5] at h9
        exact ⟨h9, tok_pass h9⟩
      · cases n with
        | zero => omega
        | succ n => exact lexT_one n _ _ us (by rw [List.length_drop]; omega) h8 t ht
/-- tokens with a newline ahead of each: the text, and where they stand -/
def nlT (ts : List Tok) : List UInt8 := ts.flatMap fun t => 10 :: t.text
def renum : Nat → List Tok → List Tok
  | _, [] => []
  | p, t :: ts => { t with pos := p + 1 } :: renum (p + 1 + t.text.length) ts
theorem lexT_alone {t : Tok} (h : OneT t) (q : Nat) : lexT q t.text = .good [{ t with pos := q }] := by
  rw [lexT, h.2, List.drop_zero, lexQ_tok h.1, List.take_length, List.drop_length]
  rfl
theorem lexT_nl : ∀ (ts : List Tok) (p : Nat), (∀ t ∈ ts, OneT t) → lexT p (nlT ts) = .good (renum p ts)
  | [], p, _ => rfl
  | t :: ts, p, h => by
    have ht := h t (by simp)
    rw [nlT, List.flatMap_cons, List.cons_append, lexT_blank p 10 _ rfl]
    cases ts with
    | nil =>
      rw [List.flatMap_nil, List.append_nil, lexT_alone ht]
      rfl
    | cons u us =>
      have ih := lexT_nl (u :: us) (p + 1 + t.text.length) fun x hx => h x (List.mem_cons_of_mem _ hx)
      rw [nlT, List.flatMap_cons, List.cons_append, lexT_blank _ 10 _ rfl] at ih
      rw [List.flatMap_cons, List.cons_append, lexT_glue, lexT_alone ht]
      simp only
      rw [ih]
      rfl
theorem renum_len : ∀ (p : Nat) (ts : List Tok), (renum p ts).length = ts.length
  | _, [] => rfl
  | p, t :: ts => by rw [renum, List.length_cons, List.length_cons, renum_len]
end Go.Proofs.YtggdpgaedmegbaaGreatDoor
