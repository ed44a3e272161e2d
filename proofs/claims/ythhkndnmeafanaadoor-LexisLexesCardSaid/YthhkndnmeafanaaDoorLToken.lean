/-
  token of lexis. Conditions: the place is in the text; the package variables lie as the program's text lays them.
-/
import Derived.Test.YthhkndnmeafanaaDoorLSign
import Derived.Test.YthhkndnmeafanaaDoorLNumber
namespace Go.Proofs.YthhkndnmeafanaaDoor
open Go.RowKit

/-- What token hands back. -/
def tokenOut (l : List UInt8) (p : Nat) : Tok × Int := match tokR l with
  | .err e => (noTok, e)
  | .tok k m n => (⟨k, l.take m, n, p⟩, 0)

theorem tokenOut_letter {c : UInt8} {r : List UInt8} {p : Nat} (h : letterB c = true) :
    (if spanN nameB (c :: r) ≤ 24 then tokOut ⟨1, (c :: r).take (spanN nameB (c :: r)), 0, p⟩ 0 else tokOut noTok 42) = tokOut (tokenOut (c :: r) p).1 (tokenOut (c :: r) p).2 := by
  have hn : nameB c = true := by simp [nameB, h]
  have hs : spanN nameB (c :: r) = spanN nameB r + 1 := by simp [spanN, hn]
  rw [hs, tokenOut]
  by_cases h24 : spanN nameB r + 1 ≤ 24
  · have : tokR (c :: r) = .tok 1 (spanN nameB r + 1) 0 := by simp [tokR, h, h24]
    rw [this, if_pos h24]
  · have : tokR (c :: r) = .err 42 := by simp only [tokR, h, h24, if_true, if_false]
    rw [this, if_neg h24]

theorem tokenOut_digit {c : UInt8} {r : List UInt8} {p : Nat} (h : letterB c = false) (hd : digitB c = true) :
    (if numV ((c :: r).take (spanN digitB (c :: r))) < 9223372036854775808 then tokOut ⟨2, (c :: r).take (spanN digitB (c :: r)), numV ((c :: r).take (spanN digitB (c :: r))), p⟩ 0 else tokOut noTok 41) = tokOut (tokenOut (c :: r) p).1 (tokenOut (c :: r) p).2 := by
  rw [tokenOut]
  by_cases h24 : numV ((c :: r).take (spanN digitB (c :: r))) < 9223372036854775808
  · have : tokR (c :: r) = .tok 2 (spanN digitB (c :: r)) (numV ((c :: r).take (spanN digitB (c :: r)))) := by simp only [tokR, h, hd, h24, if_true, Bool.false_eq_true, if_false]
    rw [this, if_pos h24]
  · have : tokR (c :: r) = .err 41 := by simp only [tokR, h, hd, h24, if_true, Bool.false_eq_true, if_false]
    rw [this, if_neg h24]

theorem tokenOut_sign {c : UInt8} {r : List UInt8} {p : Nat} (h : letterB c = false) (hd : digitB c = false) : signOut (c :: r) p = tokOut (tokenOut (c :: r) p).1 (tokenOut (c :: r) p).2 := by
  rw [tokenOut, signOut]
  by_cases h0 : signN (c :: r) = 0
  · have : tokR (c :: r) = .err 40 := by simp only [tokR, h, hd, h0, Bool.false_eq_true, if_false, if_true]
    rw [this, if_pos h0]
  · have : tokR (c :: r) = .tok 3 (signN (c :: r)) 0 := by simp only [tokR, h, hd, h0, Bool.false_eq_true, if_false]
    rw [this, if_neg h0]

theorem spanN_digit {c : UInt8} {r : List UInt8} (hd : digitB c = true) : 1 ≤ spanN digitB (c :: r) := by simp [spanN, hd]

set_option maxHeartbeats 4000000 in
theorem token_any (s : ByteArray) (hs : s.size ≤ 65536) (p : Nat) (hp : p < s.size) (w : World) (hV : Vars w) :
    Calls Tryd.prog 20 #[.string s, .int .i64 p] w fun e w' => e = .returned (tokOut (tokenOut ((bs s).drop p) p).1 (tokenOut ((bs s).drop p) p).2) ∧ Below w.heap.size w w' := by
  obtain ⟨c, r, h1, h2, h3⟩ := byte_at s p hp
  have hi := run_byte s p c hp h3
  have H1 := Lib.hid h1
  obtain ⟨W, hW⟩ : ∃ W, W = w.alloc (.cells #[.int .i64 0, .string ⟨#[]⟩, .int .i64 0, .int .i64 0] 31) := ⟨_, rfl⟩
  have hbW : Below w.heap.size w W := by rw [hW]; exact alloc_below _ _
  have hx0 : W.heap[w.heap.size]? = some (.cells #[.int .i64 0, .string ⟨#[]⟩, .int .i64 0, .int .i64 0] 31) := by rw [hW, heap_alloc_new]
  have hV1 := hV.b hbW
  have hname := Lib.hid (name_any s (by omega) p (by omega) W)
  have hsign := Lib.hid (sign_any s hs p hp W hV1)
  have hnum := Lib.hid (number_any s hs p (by omega) W hV1)
  rw [h1] at hname hsign hnum ⊢
  obtain ⟨t, ht⟩ : ∃ t, t = (tokenOut (c :: r) p).1 := ⟨_, rfl⟩
  obtain ⟨er, her⟩ : ∃ er, er = (tokenOut (c :: r) p).2 := ⟨_, rfl⟩
  rw [← ht, ← her]
  replace ht := Lib.hid ht
  replace her := Lib.hid her
  have hlet := Lib.hid (letter_any c)
  have hdig := Lib.hid (digit_any c)
  obtain ⟨b, hb0⟩ : ∃ b, b = w.heap.size := ⟨_, rfl⟩
  go_enter Tryd.func20, Tryd.ntmps20
  go_upto_region 1 with fail
  rw [← hW]
  clear hW hV1 hV h1 h2 h3
  rw [← hb0] at hx0
  simp only [← hb0]
  have hbb : w.heap.size ≤ b := by omega
  clear hb0
  have HX0 := Lib.hid hx0
  have HBW := Lib.hid hbW
  clear hx0 hbW
  cases hl : letterB c with
  | true =>
    have HL := Lib.hid hl
    have hcall : Hid (Calls Tryd.prog 32 #[.string s, .int .i64 p] W fun e w' => e = .returned (tokOut t er) ∧ Below W.heap.size W w') := Lib.hid (by
      rw [ht.out, her.out, ← tokenOut_letter hl]; exact hname.out)
    clear hl hname hsign hnum
    go_wp2_with (first
      | (go_at_call 25; refine (hlet.out _).mono ?_; rintro e w1 ⟨rfl, rfl⟩; rw [HL.out])
      | (go_at_call 32; refine hcall.out.mono ?_; rintro e w2 ⟨rfl, hb2⟩; unfold tokOut tokV; have hX2 := Lib.hid (keepB HX0.out hb2); obtain ⟨c0, c1, c2, c3, cf, cl⟩ := cells4 hX2.out; have HB2 := Lib.hid (HBW.out.trans (hb2.mono HBW.out.size)); clear hb2))
    have hf := set4 (u0 := .int .i64 t.k) (u1 := .string (strB t.text)) (u2 := .int .i64 t.n) (u3 := .int .i64 t.pos) hX2.out
    have hg := set4_below (u0 := .int .i64 t.k) (u1 := .string (strB t.text)) (u2 := .int .i64 t.n) (u3 := .int .i64 t.pos) HB2.out hbb
    generalize (((w2.setCell ⟨b, 0, none⟩ (.int .i64 t.k)).setCell ⟨b, 1, none⟩ (.string (strB t.text))).setCell ⟨b, 2, none⟩ (.int .i64 t.n)).setCell ⟨b, 3, none⟩ (.int .i64 t.pos) = WW at hf hg ⊢
    clear c0 c1 c2 c3 cf cl
    obtain ⟨y0, y1, y2, y3, yf, yl⟩ := cells4 hf
    refine bodyPost_ret (v := tokOut t er) (by simp [results, Tryd.results20, go_sem, y0, y1, y2, y3, tokOut, tokV]) rfl ⟨rfl, hg⟩
  | false =>
    have HL := Lib.hid hl
    cases hd : digitB c with
    | true =>
      have HD := Lib.hid hd
      have hcall : Hid (Calls Tryd.prog 34 #[.string s, .int .i64 p] W fun e w' => e = .returned (tokOut t er) ∧ Below W.heap.size W w') := Lib.hid (by
        rw [ht.out, her.out, ← tokenOut_digit hl hd]; exact hnum.out (spanN_digit hd))
      clear hl hd hname hsign hnum
      go_wp2_with (first
        | (go_at_call 25; refine (hlet.out _).mono ?_; rintro e w1 ⟨rfl, rfl⟩; rw [HL.out])
        | (go_at_call 33; refine (hdig.out _).mono ?_; rintro e w1 ⟨rfl, rfl⟩; rw [HD.out])
        | (go_at_call 34; refine hcall.out.mono ?_; rintro e w2 ⟨rfl, hb2⟩; unfold tokOut tokV; have hX2 := Lib.hid (keepB HX0.out hb2); obtain ⟨c0, c1, c2, c3, cf, cl⟩ := cells4 hX2.out; have HB2 := Lib.hid (HBW.out.trans (hb2.mono HBW.out.size)); clear hb2))
      have hf := set4 (u0 := .int .i64 t.k) (u1 := .string (strB t.text)) (u2 := .int .i64 t.n) (u3 := .int .i64 t.pos) hX2.out
      have hg := set4_below (u0 := .int .i64 t.k) (u1 := .string (strB t.text)) (u2 := .int .i64 t.n) (u3 := .int .i64 t.pos) HB2.out hbb
      generalize (((w2.setCell ⟨b, 0, none⟩ (.int .i64 t.k)).setCell ⟨b, 1, none⟩ (.string (strB t.text))).setCell ⟨b, 2, none⟩ (.int .i64 t.n)).setCell ⟨b, 3, none⟩ (.int .i64 t.pos) = WW at hf hg ⊢
      clear c0 c1 c2 c3 cf cl
      obtain ⟨y0, y1, y2, y3, yf, yl⟩ := cells4 hf
      refine bodyPost_ret (v := tokOut t er) (by simp [results, Tryd.results20, go_sem, y0, y1, y2, y3, tokOut, tokV]) rfl ⟨rfl, hg⟩
    | false =>
      have HD := Lib.hid hd
      have hcall : Hid (Calls Tryd.prog 35 #[.string s, .int .i64 p] W fun e w' => e = .returned (tokOut t er) ∧ Below W.heap.size W w') := Lib.hid (by
        rw [ht.out, her.out, ← tokenOut_sign hl hd]; exact hsign.out)
      clear hl hd hname hsign hnum
      go_wp2_with (first
        | (go_at_call 25; refine (hlet.out _).mono ?_; rintro e w1 ⟨rfl, rfl⟩; rw [HL.out])
        | (go_at_call 33; refine (hdig.out _).mono ?_; rintro e w1 ⟨rfl, rfl⟩; rw [HD.out])
        | (go_at_call 35; refine hcall.out.mono ?_; rintro e w2 ⟨rfl, hb2⟩; unfold tokOut tokV; have hX2 := Lib.hid (keepB HX0.out hb2); obtain ⟨c0, c1, c2, c3, cf, cl⟩ := cells4 hX2.out; have HB2 := Lib.hid (HBW.out.trans (hb2.mono HBW.out.size)); clear hb2))
      have hf := set4 (u0 := .int .i64 t.k) (u1 := .string (strB t.text)) (u2 := .int .i64 t.n) (u3 := .int .i64 t.pos) hX2.out
      have hg := set4_below (u0 := .int .i64 t.k) (u1 := .string (strB t.text)) (u2 := .int .i64 t.n) (u3 := .int .i64 t.pos) HB2.out hbb
      generalize (((w2.setCell ⟨b, 0, none⟩ (.int .i64 t.k)).setCell ⟨b, 1, none⟩ (.string (strB t.text))).setCell ⟨b, 2, none⟩ (.int .i64 t.n)).setCell ⟨b, 3, none⟩ (.int .i64 t.pos) = WW at hf hg ⊢
      clear c0 c1 c2 c3 cf cl
      obtain ⟨y0, y1, y2, y3, yf, yl⟩ := cells4 hf
      refine bodyPost_ret (v := tokOut t er) (by simp [results, Tryd.results20, go_sem, y0, y1, y2, y3, tokOut, tokV]) rfl ⟨rfl, hg⟩
end Go.Proofs.YthhkndnmeafanaaDoor
