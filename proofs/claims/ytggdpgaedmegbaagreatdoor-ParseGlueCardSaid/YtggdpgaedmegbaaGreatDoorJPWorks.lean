/-
  Several texts of the proof in one: PParP, PParse, PPos, PWorks. No conditions of their own: each lemma states its own.
-/
import Derived.Test.YtggdpgaedmegbaaGreatDoorJPBase
import Derived.Test.YtggdpgaedmegbaaGreatDoorJPCutL
import Derived.Test.YtggdpgaedmegbaaGreatDoorJPStm
import Derived.Test.YtggdpgaedmegbaaGreatDoorJLName
namespace Go.Proofs.YtggdpgaedmegbaaGreatDoor
open Go.RowKit

theorem lexT_len {p : Nat} {l : List UInt8} {ts : List Tok} (h : lexT p l = .good ts) : ts.length ≤ l.length := by
  rcases lexT_good h with ⟨rfl, _⟩ | ⟨t, us, rfl, _, h1, h2, _, _, _, h3⟩
  · simp
  · have := lexT_len h3
    simp only [List.length_drop] at this
    simp only [List.length_cons]
    omega
termination_by l.length
decreasing_by simp only [List.length_drop]; omega
theorem lexT_pos {p : Nat} {l : List UInt8} {ts : List Tok} (h : lexT p l = .good ts) : ∀ x ∈ ts, x.pos ≤ p + l.length := by
  rcases lexT_good h with ⟨rfl, _⟩ | ⟨t, us, rfl, h0, h1, h2, _, _, _, h3⟩
  · intro x hx; cases hx
  · intro x hx
    rcases List.mem_cons.1 hx with rfl | hx
    · omega
    · have := lexT_pos h3 x hx
      simp only [List.length_drop] at this
      omega
termination_by l.length
decreasing_by simp only [List.length_drop]; omega
theorem tokR_n {l : List UInt8} {k : Int} {m n : Nat} (h : tokR l = .tok k m n) : n < 9223372036854775808 := by
  cases l with
  | nil => cases h
  | cons c r =>
    rw [tokR] at h
    by_cases hl : letterB c = true
    · rw [if_pos hl] at h
      split at h
      · cases h; decide
      · cases h
    · rw [if_neg hl] at h
      by_cases hd : digitB c = true
      · rw [if_pos hd] at h
        split at h
        · rename_i hv; cases h; exact hv
        · cases h
      · rw [if_neg hd] at h
        split at h
        · cases h
        · cases h; decide
theorem lexT_nk {p : Nat} {l : List UInt8} {ts : List Tok} (h : lexT p l = .good ts) : ∀ x ∈ ts, x.k ≠ 0 ∧ x.n < 9223372036854775808 := by
  rcases lexT_good h with ⟨rfl, _⟩ | ⟨t, us, rfl, h0, h1, h2, _, hk, ht, h3⟩
  · intro x hx; cases hx
  · intro x hx
    rcases List.mem_cons.1 hx with rfl | hx
    · exact ⟨by rcases hk with e | e | e <;> rw [e] <;> decide, tokR_n ht⟩
    · exact lexT_nk h3 x hx
termination_by l.length
decreasing_by simp only [List.length_drop]; omega
theorem lexL_good {s : ByteArray} {ts : List Tok} (h : lexL (bs s) = .good ts) : (bs s).length ≤ 65536 ∧ lexT 0 (bs s) = .good ts := by
  unfold lexL at h
  by_cases hl : (bs s).length ≤ 65536
  · rw [if_pos hl] at h; exact ⟨hl, h⟩
  · rw [if_neg hl] at h; cases h
theorem lexL_bad {s : ByteArray} {e : Int} {q : Nat} (h : lexL (bs s) = .bad e q) : e ≠ 0 := by
  unfold lexL at h
  split at h
  · exact (lexT_bad h).2.2
  · cases h; decide
theorem bs_size (s : ByteArray) : (bs s).length = s.size := by rw [Lib.size_eq]
theorem tsOk_of {s : ByteArray} {ts : List Tok} (h : lexL (bs s) = .good ts) : TsOk (ts ++ [endTok s]) := by
  obtain ⟨h1, h2⟩ := lexL_good h
  have hn := lexT_len h2
  have hp := lexT_pos h2
  have hk := lexT_nk h2
  rw [bs_size] at h1 hn hp
  refine ⟨by simp; omega, fun t ht => ?_, fun i t ht hi => ?_, fun t ht => ?_, fun t ht => ?_⟩
  · simp at ht
    subst ht
    exact ⟨rfl, rfl⟩
  · simp only [List.length_append, List.length_cons, List.length_nil] at hi
    rw [List.getElem?_append_left (by omega)] at ht
    exact (hk t (List.mem_of_getElem? ht)).1
  · rcases List.mem_append.1 ht with ht | ht
    · exact (hk t ht).2
    · obtain rfl : t = endTok s := by simpa using ht
      show (0 : Nat) < 9223372036854775808
      decide
  · rcases List.mem_append.1 ht with ht | ht
    · have := hp t ht; omega
    · obtain rfl : t = endTok s := by simpa using ht
      show s.size ≤ _
      omega
/-- what a text is read as -/
def parseR (s : ByteArray) : Rs So5 := match lexL (bs s) with
  | .bad e q => .no e q
  | .good ts => sourceR (ts ++ [endTok s])
theorem dead_end (s : ByteArray) : dead (endTok s) := ⟨rfl, rfl⟩
/-- a text that is read whole, cut off ahead of its last token -/
theorem parse_cut {s : ByteArray} {us : List Tok} {t : Tok} (h : lexL (bs s) = .good (us ++ [t])) {x : So5} {r : List Tok} (hp : parseR s = .ok x r) :
    t.text = wRB ∧ t.pos < s.size ∧ parseR (s.extract 0 t.pos) = .no 60 t.pos := by
  obtain ⟨c1, c2⟩ := lexL_cut h
  rw [bs_size] at c1
  obtain ⟨_, h2⟩ := lexL_good h
  have hk := lexT_nk h2
  unfold parseR at hp
  rw [h] at hp
  simp only at hp
  unfold sourceR at hp
  rw [List.append_assoc] at hp
  obtain ⟨i1, i2⟩ := items_cut us.length us t (endTok s) _ x r (Nat.le_refl _) (fun y hy => (hk y hy).1) (dead_end s) hp
  have hcs : (s.extract 0 t.pos).size = t.pos := by
    rw [ByteArray.size_extract]; omega
  have hcb : bs (s.extract 0 t.pos) = (bs s).take t.pos := by rw [extract_strB, strB_bs]; simp
  refine ⟨i1, c1, ?_⟩
  unfold parseR
  rw [hcb, c2]
  simp only
  unfold sourceR
  rw [i2 (endTok (s.extract 0 t.pos)) _ (dead_end _) (by simp)]
  show Rs.no 60 (s.extract 0 t.pos).size = _
  rw [hcs]
end Go.Proofs.YtggdpgaedmegbaaGreatDoor

namespace Go.Proofs.YtggdpgaedmegbaaGreatDoor
open Go.RowKit

theorem soV_eq (x : So5) : soV x = .agg #[.slice x.hs.oa x.structs.length x.hs.cap, .slice x.he.oa x.enums.length x.he.cap, .slice x.hf.oa x.fns.length x.hf.cap] := by cases x; rfl
set_option maxRecDepth 100000 in
set_option maxHeartbeats 4000000 in
theorem parse_any (s : ByteArray) (w : World) (hV : Vars w) : Calls Tryz.prog 15 #[.string s] w fun e w' => Below w.heap.size w w' ∧ ReadOut w.heap.size w' (parseR s) e := by
  obtain ⟨W, hW⟩ : ∃ W, W = w.alloc (.cells #[.slice none 0 0, .slice none 0 0, .slice none 0 0] 27) := ⟨_, rfl⟩
  have hbW : Below w.heap.size w W := by rw [hW]; exact alloc_below _ _
  have hx0 : W.heap[w.heap.size]? = some (.cells #[.slice none 0 0, .slice none 0 0, .slice none 0 0] 27) := by rw [hW, heap_alloc_new]
  have hlex := lex_any s W (hV.b hbW)
  have HL := Lib.hid hlex
  have HV := Lib.hid (hV.b hbW)
  clear hlex hV
  obtain ⟨N, hN⟩ : ∃ N, N = w.heap.size := ⟨_, rfl⟩
  rw [← hN] at hx0
  have HB := Lib.hid hbW
  have HX := Lib.hid hx0
  clear hbW hx0
  rcases hl : lexL (bs s) with ⟨er, q⟩ | ts
  · have hne : (er != 0) = true := by simpa using lexL_bad hl
    have HR := Lib.hid hl
    clear hl
    go_enter Tryz.func15, Tryz.ntmps15
    go_upto_region 1 with fail
    rw [← hW]
    simp only [← hN]
    clear hW
    have HN := Lib.hid hN
    clear hN
    go_wp2_with
      (first
        | (go_at_call 18; refine HL.out.mono ?_; rintro e w1 ⟨h1, hb1⟩; unfold LexOut at h1; rw [HR.out] at h1; simp only at h1; subst h1; have HX1 := Lib.hid ((hb1.block N (blk_lt HX.out)).trans HX.out); have HB1 := Lib.hid (HB.out.trans (hb1.mono HB.out.size)); clear hb1 HL)
        | (refine wpList_store_box rfl 27 (.tmp 2) (.tmp 16) rfl N 0 rfl (.agg #[.slice none 0 0, .slice none 0 0, .slice none 0 0]) rfl [.slice none 0 0, .slice none 0 0, .slice none 0 0] rfl [.slice none 0 0, .slice none 0 0, .slice none 0 0] 27 HX1.out (Nat.le_refl _) (show (Tryz.prog.info? 27).map (·.size) = some 3 by kernel_rfl) ?c1 N (Nat.le_refl _) w1 (Below.refl _ _) ?_))
    case c1 => first | exact ⟨rfl, rfl, rfl⟩ | (intro v hv; simp at hv; subst hv; rfl)
    intro W2 hb hbx hoth
    have HF := Lib.hid (HB1.out.trans (hb.mono (Nat.le_of_eq HN.out.symm)))
    obtain ⟨q0, q1, q2, qf, ql⟩ := cells3p (show W2.heap[N]? = some (.cells #[.slice none 0 0, .slice none 0 0, .slice none 0 0] 27) from hbx)
    clear hb hbx hoth
    go_wp2
    refine bodyPost_ret (v := .tuple #[.agg #[.slice none 0 0, .slice none 0 0, .slice none 0 0], .int .i64 er, .int .i64 q]) (by simp [results, Tryz.results15, go_sem, q0, q1, q2]) rfl ⟨HF.out, ?_⟩
    unfold parseR
    rw [HR.out]
    rfl
  · have HR := Lib.hid hl
    have HOK := Lib.hid (tsOk_of hl)
    clear hl
    have hln : 0 < (ts ++ [endTok s]).length := by simp
    obtain ⟨L, hL⟩ : ∃ L, L = ts ++ [endTok s] := ⟨_, rfl⟩
    have hlen : ts.length + 1 = L.length := by rw [hL]; simp
    rw [← hL] at HOK hln
    have hpr : parseR s = sourceR L := by unfold parseR; rw [HR.out, hL]
    have HPR := Lib.hid hpr
    have HLN := Lib.hid (And.intro hln (And.intro hlen hL))
    clear hpr hln hlen hL
    go_enter Tryz.func15, Tryz.ntmps15
    go_upto_region 1 with fail
    rw [← hW]
    simp only [← hN]
    clear hW
    have HN := Lib.hid hN
    clear hN
    go_upto_region 4 with (go_at_call 18; refine HL.out.mono ?_; rintro e w1 ⟨h1, hb1⟩; unfold LexOut at h1; rw [HR.out] at h1; simp only at h1; obtain ⟨gg, cap, h1, hg, hta⟩ := h1; subst h1; rw [HLN.out.2.1]; have HTA := Lib.hid (show ToksAt w1 gg L by rw [HLN.out.2.2]; exact hta); have HX1 := Lib.hid ((hb1.block N (blk_lt HX.out)).trans HX.out); have HB1 := Lib.hid (HB.out.trans (hb1.mono HB.out.size)); have HV1 := Lib.hid (HV.out.b hb1); clear hb1 HL hta hg)
    have hrd := read_any (cap := cap) HTA.out HOK.out HV1.out HLN.out.1
    have HRD := Lib.hid hrd
    clear hrd
    rcases hr : sourceR L with ⟨x0, l⟩ | ⟨er, ps⟩
    · have HS := Lib.hid hr
      clear hr
      go_wp2_with
        (first
          | (go_at_call 40; refine HRD.out.mono ?_; rintro e w2 ⟨hb2, h2⟩; unfold ReadOut at h2; rw [HS.out] at h2; simp only at h2; obtain ⟨⟨y1, x1, y2, x2, y3, x3⟩, rfl, hxe, hxh⟩ := h2; simp only [soV]; have HX2 := Lib.hid ((hb2.block N (blk_lt HX1.out)).trans HX1.out); have HB2 := Lib.hid (HB1.out.trans (hb2.mono HB1.out.size)); have HE := Lib.hid (And.intro hxe hxh); clear hb2 hxe hxh HRD)
          | (refine wpList_store_box rfl 27 (.tmp 2) (.tmp 21) rfl N 0 rfl (.agg #[.slice y1.oa x1.length y1.cap, .slice y2.oa x2.length y2.cap, .slice y3.oa x3.length y3.cap]) rfl [.slice y1.oa x1.length y1.cap, .slice y2.oa x2.length y2.cap, .slice y3.oa x3.length y3.cap] rfl [.slice none 0 0, .slice none 0 0, .slice none 0 0] 27 HX2.out (Nat.le_refl _) (show (Tryz.prog.info? 27).map (·.size) = some 3 by kernel_rfl) ?c1 N (Nat.le_refl _) w2 (Below.refl _ _) ?_))
      case c1 => first | exact ⟨rfl, rfl, rfl⟩ | (intro v hv; simp at hv; rcases hv with rfl | rfl | rfl <;> rfl)
      intro W2 hb hbx hoth
      have hU := SoH.und 181 _ _ _ (und_box (B' := w.heap.size) hb hoth (blk_lt HX1.out) (by have h1 := HB1.out.size; have h2 := HB.out.size; omega)) HE.out.2
      have HF := Lib.hid (And.intro (HB2.out.trans (hb.mono (Nat.le_of_eq HN.out.symm))) hU)
      obtain ⟨q0, q1, q2, qf, ql⟩ := cells3p (show W2.heap[N]? = some (.cells #[.slice y1.oa x1.length y1.cap, .slice y2.oa x2.length y2.cap, .slice y3.oa x3.length y3.cap] 27) from hbx)
      clear hb hbx hoth hU
      go_wp2
      refine bodyPost_ret (v := .tuple #[.agg #[.slice y1.oa x1.length y1.cap, .slice y2.oa x2.length y2.cap, .slice y3.oa x3.length y3.cap], .int .i64 0, .int .i64 0]) (by simp [results, Tryz.results15, go_sem, q0, q1, q2]) rfl ⟨HF.out.1, ?_⟩
      unfold ReadOut
      rw [HPR.out, HS.out]
      exact ⟨⟨y1, x1, y2, x2, y3, x3⟩, rfl, HE.out.1, HF.out.2⟩
    · have HS := Lib.hid hr
      clear hr
      go_wp2_with
        (first
          | (go_at_call 40; refine HRD.out.mono ?_; rintro e w2 ⟨hb2, h2⟩; unfold ReadOut at h2; rw [HS.out] at h2; simp only at h2; subst h2; have HX2 := Lib.hid ((hb2.block N (blk_lt HX1.out)).trans HX1.out); have HB2 := Lib.hid (HB1.out.trans (hb2.mono HB1.out.size)); clear hb2 HRD)
          | (refine wpList_store_box rfl 27 (.tmp 2) (.tmp 21) rfl N 0 rfl (.agg #[.slice none 0 0, .slice none 0 0, .slice none 0 0]) rfl [.slice none 0 0, .slice none 0 0, .slice none 0 0] rfl [.slice none 0 0, .slice none 0 0, .slice none 0 0] 27 HX2.out (Nat.le_refl _) (show (Tryz.prog.info? 27).map (·.size) = some 3 by kernel_rfl) ?c1 N (Nat.le_refl _) w2 (Below.refl _ _) ?_))
      case c1 => first | exact ⟨rfl, rfl, rfl⟩ | (intro v hv; simp at hv; subst hv; rfl)
      intro W2 hb hbx hoth
      have HF := Lib.hid (HB2.out.trans (hb.mono (Nat.le_of_eq HN.out.symm)))
      obtain ⟨q0, q1, q2, qf, ql⟩ := cells3p (show W2.heap[N]? = some (.cells #[.slice none 0 0, .slice none 0 0, .slice none 0 0] 27) from hbx)
      clear hb hbx hoth
      go_wp2
      refine bodyPost_ret (v := .tuple #[.agg #[.slice none 0 0, .slice none 0 0, .slice none 0 0], .int .i64 er, .int .i64 ps]) (by simp [results, Tryz.results15, go_sem, q0, q1, q2]) rfl ⟨HF.out, ?_⟩
      unfold ReadOut
      rw [HPR.out, HS.out]
end Go.Proofs.YtggdpgaedmegbaaGreatDoor

namespace Go.Proofs.YtggdpgaedmegbaaGreatDoor

def begB (L : List Tok) (p : Int) (w : List UInt8) : Bool := match L.find? (fun t => decide ((t.pos : Int) = p)) with
  | some t => decide (w = []) || decide (t.text = w)
  | none => false
def posSt : St5 → Int
  | .mk _ pos _ _ _ _ _ _ _ _ _ _ _ => pos
mutual
def risSts (L : List Tok) : List St5 → Int → Bool
  | [], _ => true
  | a :: l, p => risSt L a p && risSts L l (posSt a)
def risSt (L : List Tok) : St5 → Int → Bool
  | .mk _ pos _ _ _ _ _ _ th _ el _ ar, p => begB L pos [] && risSts L th pos && risSts L el pos && decide (p < pos) && risArs L ar pos
def risArs (L : List Tok) : List Ar5 → Int → Bool
  | [], _ => true
  | a :: l, p => risAr L a p && risArs L l p
def risAr (L : List Tok) : Ar5 → Int → Bool
  | .mk _ _ _ body, p => risSts L body p
end
def Sorted (L : List Tok) : Prop := L.Pairwise fun a b => a.pos < b.pos
/-- the rest of the tokens, somewhere in reading -/
structure In (L l : List Tok) : Prop where
  good : Good l
  at_ : ∃ a, L = a ++ l
theorem In.find {L l : List Tok} (h : In L l) (hs : Sorted L) : L.find? (fun t => decide ((t.pos : Int) = (hd l).pos)) = some (hd l) := by
  obtain ⟨a, rfl⟩ := h.at_
  have hne := h.good.ne
  cases l with
  | nil => exact absurd rfl hne
  | cons t l =>
    rw [List.find?_append]
    have h1 : a.find? (fun u => decide ((u.pos : Int) = t.pos)) = none := by
      rw [List.find?_eq_none]
      intro u hu
      have := (List.pairwise_append.1 hs).2.2 u hu t (by simp)
      simp
      omega
    rw [hd_cons, h1]
    simp
theorem In.beg {L l : List Tok} (h : In L l) (hs : Sorted L) (w : List UInt8) : begB L (hd l).pos w = (decide (w = []) || decide ((hd l).text = w)) := by
  unfold begB
  rw [h.find hs]
theorem In.move {L l b m : List Tok} (h : In L l) (hg : Good m) (e : l = b ++ m) (hb : b ≠ []) (hs : Sorted L) : In L m ∧ (hd l).pos < (hd m).pos := by
  obtain ⟨a, rfl⟩ := h.at_
  subst e
  refine ⟨⟨hg, a ++ b, by simp⟩, ?_⟩
  cases b with
  | nil => exact absurd rfl hb
  | cons t b =>
    have hne := hg.ne
    cases m with
    | nil => exact absurd rfl hne
    | cons u m =>
      rw [List.cons_append, hd_cons, hd_cons]
      have h1 := (List.pairwise_append.1 hs).2.1
      rw [List.cons_append, List.pairwise_cons] at h1
      exact h1.1 u (by simp)
theorem In.step {α : Type} {c s : Bool} {R : Rd α} {L l r : List Tok} {a : α} (h : In L l) (hR : Ru1 c s R) (e : R l = .ok a r) (hs : Sorted L) : In L r ∧ (hd l).pos < (hd r).pos := by
  obtain ⟨h1, b, h2, h3⟩ := hR.rest h.good e
  exact h.move h1 h3 h2 hs
theorem In.tail {L l : List Tok} {w : List UInt8} (h : In L l) (e : (hd l).text = w) (hw : w ≠ []) (hs : Sorted L) : In L l.tail ∧ (hd l).pos < (hd l.tail).pos := by
  have h1 := (good_tail h.good fun d => hw (e ▸ d.2)).1
  have hne := h.good.ne
  cases l with
  | nil => exact absurd rfl hne
  | cons t l => exact h.move (b := [t]) h1 rfl (by simp) hs
theorem optR_ok {α : Type} {w : List UInt8} {y n : Rd α} {l r : List Tok} {a : α} (h : optR w y n l = .ok a r) : ((hd l).text = w ∧ y l.tail = .ok a r) ∨ n l = .ok a r := by
  unfold optR at h
  by_cases hw : (hd l).text = w
  · rw [if_pos hw] at h; exact .inl ⟨hw, h⟩
  · rw [if_neg hw] at h; exact .inr h
theorem pureR_ok {α : Type} {a b : α} {l r : List Tok} (h : pureR a l = .ok b r) : a = b ∧ l = r := by cases h; exact ⟨rfl, rfl⟩
theorem plain_shape {q : Int} {l r : List Tok} {a : St5} (h : plainR q l = .ok a r) : ∃ k nm ty p rv op, a = st5 k q nm ty p rv op [] [] [] := by
  unfold plainR at h
  rcases optR_ok h with ⟨_, h⟩ | h
  · obtain ⟨f, m, _, h⟩ := bindR_ok h
    obtain ⟨v, _, rfl⟩ := mapR_ok h
    exact ⟨_, _, _, _, _, _, rfl⟩
  rcases optR_ok h with ⟨_, h⟩ | h
  · obtain ⟨v, _, rfl⟩ := mapR_ok h
    exact ⟨_, _, _, _, _, _, rfl⟩
  rcases optR_ok h with ⟨_, h⟩ | h
  · obtain ⟨v, _, rfl⟩ := mapR_ok h
    exact ⟨_, _, _, _, _, _, rfl⟩
  rcases optR_ok h with ⟨_, h⟩ | h
  · obtain ⟨v, _, rfl⟩ := mapR_ok h
    exact ⟨_, _, _, _, _, _, rfl⟩
  rcases optR_ok h with ⟨_, h⟩ | h
  · obtain ⟨v, _, rfl⟩ := mapR_ok h
    exact ⟨_, _, _, _, _, _, rfl⟩
  obtain ⟨f, m, _, h⟩ := bindR_ok h
  obtain ⟨v, _, rfl⟩ := mapR_ok h
  exact ⟨_, _, _, _, _, _, rfl⟩
def BlkP (L : List Tok) (blk : Rd (List St5)) : Prop := Ru1 true true blk ∧ ∀ (l : List Tok) (a : List St5) (r : List Tok) (p : Int), In L l → blk l = .ok a r → p < (hd l).pos → risSts L a p = true
theorem ris_arm {L : List Tok} (hs : Sorted L) {blk : Rd (List St5)} (hb : BlkP L blk) {l r : List Tok} {a : Ar5} {p : Int} (hi : In L l) (h : armR blk l = .ok a r) (hp : p < (hd l).pos) : risAr L a p = true := by
  unfold armR at h
  obtain ⟨s, m, h1, h⟩ := bindR_ok h
  obtain ⟨i1, q1⟩ := hi.step ru_great h1 hs
  obtain ⟨bn, m2, h2, h⟩ := bindR_ok h
  have i2 : In L m2 ∧ (hd m).pos ≤ (hd m2).pos := by
    rcases optR_ok h2 with ⟨hw, h2⟩ | h2
    · obtain ⟨j, qj⟩ := i1.tail hw (by decide) hs
      obtain ⟨x, m3, h3, h4⟩ := bindR_ok h2
      obtain ⟨j2, qj2⟩ := j.step ru_small h3 hs
      obtain ⟨u, h5, _⟩ := mapR_ok h4
      obtain ⟨j3, qj3⟩ := j2.step (ru_need (by decide)) h5 hs
      exact ⟨j3, by omega⟩
    · obtain ⟨_, rfl⟩ := pureR_ok h2
      exact ⟨i1, Nat.le_refl _⟩
  obtain ⟨u, m4, h4, h⟩ := bindR_ok h
  obtain ⟨i4, q4⟩ := i2.1.step (ru_need (by decide)) h4 hs
  obtain ⟨b, h5, rfl⟩ := mapR_ok h
  rw [risAr]
  exact hb.2 _ _ _ _ i4 h5 (by have := i2.2; omega)
theorem ris_arms {L : List Tok} (hs : Sorted L) {blk : Rd (List St5)} (hb : BlkP L blk) : ∀ (k : Nat) (b : Bool) (l r : List Tok) (az : List Ar5) (p : Int), In L l → rowR wRB (fun _ => armR blk) k b l = .ok az r → p < (hd l).pos → risArs L az p = true
  | 0, _, _, _, _, _, _, h, _ => by cases h
  | k + 1, b, l, r, az, p, hi, h, hp => by
    rw [rowR] at h
    rcases optR_ok h with ⟨_, h⟩ | h
    · obtain ⟨rfl, _⟩ := pureR_ok h
      rw [risArs]
    · obtain ⟨a, m, h1, h⟩ := bindR_ok h
      obtain ⟨xs, h2, rfl⟩ := mapR_ok h
      have i1 := hi.step (ru_arm hb.1) h1 hs
      rw [risArs, ris_arm hs hb hi h1 hp, ris_arms hs hb k false m r xs p i1.1 h2 (by have := i1.2; omega)]
      rfl
theorem ris_stmt {L : List Tok} (hs : Sorted L) {blk : Rd (List St5)} (hb : BlkP L blk) {l r : List Tok} {a : St5} {p : Int} (hi : In L l) (h : stmtR blk l = .ok a r) (hp : p < (hd l).pos) : posSt a = (hd l).pos ∧ risSt L a p = true := by
  have hbeg : begB L (hd l).pos [] = true := by rw [hi.beg hs]; simp
  unfold stmtR atR at h
  rcases optR_ok h with ⟨hw, h⟩ | h
  · obtain ⟨i1, q1⟩ := hi.tail hw (by decide) hs
    obtain ⟨o, m, h1, h⟩ := bindR_ok h
    obtain ⟨i2, q2⟩ := i1.step ru_oper h1 hs
    obtain ⟨th, m2, h2, h⟩ := bindR_ok h
    obtain ⟨i3, q3⟩ := i2.step hb.1 h2 hs
    have r1 := hb.2 _ _ _ ((hd l).pos : Int) i2 h2 (by omega)
    rcases optR_ok h with ⟨hw2, h⟩ | h
    · obtain ⟨i4, q4⟩ := i3.tail hw2 (by decide) hs
      obtain ⟨el, h3, rfl⟩ := mapR_ok h
      have r2 := hb.2 _ _ _ ((hd l).pos : Int) i4 h3 (by omega)
      unfold st5
      exact ⟨rfl, by rw [risSt, hbeg, r1, r2, risArs]; simpa using hp⟩
    · obtain ⟨rfl, _⟩ := pureR_ok h
      unfold st5
      exact ⟨rfl, by rw [risSt, hbeg, r1, risSts, risArs]; simpa using hp⟩
  rcases optR_ok h with ⟨hw, h⟩ | h
  · obtain ⟨i1, q1⟩ := hi.tail hw (by decide) hs
    obtain ⟨o, m, h1, h⟩ := bindR_ok h
    obtain ⟨i2, q2⟩ := i1.step ru_oper h1 hs
    obtain ⟨th, h2, rfl⟩ := mapR_ok h
    have r1 := hb.2 _ _ _ ((hd l).pos : Int) i2 h2 (by omega)
    unfold st5
    exact ⟨rfl, by rw [risSt, hbeg, r1, risSts, risArs]; simpa using hp⟩
  rcases optR_ok h with ⟨hw, h⟩ | h
  · obtain ⟨i1, q1⟩ := hi.tail hw (by decide) hs
    obtain ⟨o, m, h1, h⟩ := bindR_ok h
    obtain ⟨i2, q2⟩ := i1.step ru_alone h1 hs
    obtain ⟨u, m2, h2, h⟩ := bindR_ok h
    obtain ⟨i3, q3⟩ := i2.step (ru_need (by decide)) h2 hs
    obtain ⟨az, h3, rfl⟩ := mapR_ok h
    have r1 := ris_arms hs hb _ _ _ _ _ ((hd l).pos : Int) i3 h3 (by omega)
    unfold st5
    exact ⟨rfl, by rw [risSt, hbeg, r1, risSts]; simpa using hp⟩
  obtain ⟨x, m, h1, h⟩ := bindR_ok h
  obtain ⟨u, h2, rfl⟩ := mapR_ok h
  obtain ⟨k, nm, ty, pl, rv, op, rfl⟩ := plain_shape h1
  unfold st5
  exact ⟨rfl, by rw [risSt, hbeg, risSts, risArs]; simpa using hp⟩
theorem ris_stmts {L : List Tok} (hs : Sorted L) {blk : Rd (List St5)} (hb : BlkP L blk) : ∀ (k : Nat) (b : Bool) (l r : List Tok) (az : List St5) (p : Int), In L l → rowR wRB (fun _ => stmtR blk) k b l = .ok az r → p < (hd l).pos → risSts L az p = true
  | 0, _, _, _, _, _, _, h, _ => by cases h
  | k + 1, b, l, r, az, p, hi, h, hp => by
    rw [rowR] at h
    rcases optR_ok h with ⟨_, h⟩ | h
    · obtain ⟨rfl, _⟩ := pureR_ok h
      rw [risSts]
    · obtain ⟨a, m, h1, h⟩ := bindR_ok h
      obtain ⟨xs, h2, rfl⟩ := mapR_ok h
      have i1 := hi.step (ru_stmt hb.1) h1 hs
      obtain ⟨e1, e2⟩ := ris_stmt hs hb hi h1 hp
      rw [risSts, e2, ris_stmts hs hb k false m r xs _ i1.1 h2 (by rw [e1]; have := i1.2; omega)]
      rfl
theorem blk_pos {L : List Tok} (hs : Sorted L) : ∀ n, BlkP L (blockD n)
  | 0 => ⟨ru_block 0, fun l a r p hi h hp => by
    unfold blockD isR at h
    split at h <;> cases h⟩
  | n + 1 => ⟨ru_block (n + 1), fun l a r p hi h hp => by
    rw [blockD] at h
    obtain ⟨u, m, h1, h⟩ := bindR_ok h
    obtain ⟨i1, q1⟩ := hi.step (ru_need (by decide)) h1 hs
    exact ris_stmts hs (blk_pos hs n) _ _ _ _ _ _ i1 h (by omega)⟩
/-- what holds of items that were read -/
structure PosSo (L : List Tok) (s : So5) : Prop where
  fns : ∀ f ∈ s.fns, begB L f.pos wCo = true ∧ risSts L f.body f.pos = true
  structs : ∀ x ∈ s.structs, begB L x.pos (if x.drop then wDrop else wStruct) = true
  enums : ∀ x ∈ s.enums, begB L x.pos wEnum = true
theorem struct_pos {L : List Tok} (hs : Sorted L) {l r : List Tok} {a : Su5} (hi : In L l) (h : structR l = .ok a r) : begB L a.pos (if a.drop then wDrop else wStruct) = true := by
  unfold structR atR at h
  obtain ⟨d, m, h1, h⟩ := bindR_ok h
  obtain ⟨u, m2, h2, h⟩ := bindR_ok h
  obtain ⟨s, m3, h3, h⟩ := bindR_ok h
  obtain ⟨u', m4, h4, h⟩ := bindR_ok h
  obtain ⟨fs, h5, rfl⟩ := mapR_ok h
  simp only
  rw [hi.beg hs]
  rcases optR_ok h1 with ⟨hw, h1⟩ | h1
  · obtain ⟨rfl, _⟩ := pureR_ok h1
    simp [hw]
  · obtain ⟨rfl, rfl⟩ := pureR_ok h1
    unfold needR at h2
    rcases optR_ok h2 with ⟨hw, _⟩ | h2
    · simp [hw]
    · cases h2
theorem items_pos {L : List Tok} (hs : Sorted L) : ∀ (k : Nat) (l r : List Tok) (s : So5), In L l → itemsR k l = .ok s r → PosSo L s
  | 0, _, _, _, _, h => by cases h
  | k + 1, l, r, s, hi, h => by
    have hne := hi.good.ne
    cases hl : l with
    | nil => exact absurd hl hne
    | cons t m =>
      by_cases ht : endB t = true
      · rw [hl, items_end ht] at h
        cases h
        exact ⟨fun f (hf : f ∈ []) => (by cases hf), fun f (hf : f ∈ []) => (by cases hf), fun f (hf : f ∈ []) => (by cases hf)⟩
      · rw [hl, items_on ht, ← hl] at h
        obtain ⟨x, m2, h1, h⟩ := bindR_ok h
        obtain ⟨s2, h2, rfl⟩ := mapR_ok h
        have i1 := hi.step ru_item h1 hs
        have ih := items_pos hs k _ _ _ i1.1 h2
        unfold itemR atR at h1
        rcases optR_ok h1 with ⟨hw, h1⟩ | h1
        · obtain ⟨e, h3, rfl⟩ := mapR_ok h1
          unfold enumR at h3
          obtain ⟨s, m3, h4, h3⟩ := bindR_ok h3
          obtain ⟨u', m4, h5, h3⟩ := bindR_ok h3
          obtain ⟨fs, h6, rfl⟩ := mapR_ok h3
          refine ⟨ih.fns, ih.structs, fun y hy => ?_⟩
          rcases List.mem_cons.1 hy with rfl | hy
          · simp only; rw [hi.beg hs]; simp [hw]
          · exact ih.enums y hy
        rcases optR_ok h1 with ⟨hw, h1⟩ | h1
        · obtain ⟨e, h3, rfl⟩ := mapR_ok h1
          obtain ⟨j1, q1⟩ := hi.tail hw (by decide) hs
          unfold fnR at h3
          obtain ⟨s, m3, h4, h3⟩ := bindR_ok h3
          obtain ⟨j2, q2⟩ := j1.step ru_small h4 hs
          obtain ⟨u', m4, h5, h3⟩ := bindR_ok h3
          obtain ⟨j3, q3⟩ := j2.step (ru_need (by decide)) h5 hs
          obtain ⟨ps, m5, h6, h3⟩ := bindR_ok h3
          obtain ⟨j4, q4⟩ := j3.step (ru_rowL (by decide) (ru_sep ru_field.any)) h6 hs
          obtain ⟨b, h7, rfl⟩ := mapR_ok h3
          refine ⟨fun y hy => ?_, ih.structs, ih.enums⟩
          rcases List.mem_cons.1 hy with rfl | hy
          · exact ⟨by simp only; rw [hi.beg hs]; simp [hw], (blk_pos hs 60).2 _ _ _ _ j4 h7 (by show ((hd l).pos : Int) < _; omega)⟩
          · exact ih.fns y hy
        · obtain ⟨e, h3, rfl⟩ := mapR_ok h1
          refine ⟨ih.fns, fun y hy => ?_, ih.enums⟩
          rcases List.mem_cons.1 hy with rfl | hy
          · exact struct_pos hs hi h3
          · exact ih.structs y hy
end Go.Proofs.YtggdpgaedmegbaaGreatDoor

namespace Go.Proofs.YtggdpgaedmegbaaGreatDoor
open Go.RowKit

def ex1T : ByteArray := ⟨#[99, 111, 32, 102, 40, 41, 32, 123, 32, 114, 101, 116, 117, 114, 110, 32, 49, 59, 32, 125]⟩
def ex2T : ByteArray := ⟨#[99, 111, 32, 102, 40, 41, 32, 123, 32, 120, 32, 61, 32, 59, 32, 125]⟩
theorem ex1 : parseR ex1T = .ok ⟨h0, [], h0, [], h0, [⟨strB [102], h0, [], h0, [st5 6 9 nil5 ty0 pl0 rv0 ⟨true, 1, pl0⟩ [] [] []], 0⟩]⟩ [⟨0, [], 0, 20⟩] := by kernel_rfl
theorem ex2 : parseR ex2T = .no 60 13 := by kernel_rfl
theorem ex_heap {w : World} {x : So5} (hx : erSo x = ⟨h0, [], h0, [], h0, [⟨strB [102], h0, [], h0, [st5 6 9 nil5 ty0 pl0 rv0 ⟨true, 1, pl0⟩ [] [] []], 0⟩]⟩) (hh : SoH 181 w x) :
    x.fns.length = 1 ∧ ∃ bk off bz offz capb, x.hf.oa = some ⟨bk, off, none⟩ ∧ w.cell? ⟨bk, off, none⟩ = some (.string (strB [102])) ∧ w.cell? ⟨bk, off + 2, none⟩ = some (.slice (some ⟨bz, offz, none⟩) 1 capb) ∧ w.cell? ⟨bz, offz + 1, none⟩ = some (.int .i64 9) := by
  obtain ⟨hs, ss, he, es, hf, fs⟩ := x
  have h3 := congrArg So5.fns hx
  simp only [erSo] at h3
  match fs, h3, hh with
  | [], h3, _ => cases h3
  | a :: b :: r, h3, _ => simp at h3
  | [fn], h3, hh =>
    obtain ⟨nm, hp, ps, hb, body, pos⟩ := fn
    simp only [List.map_cons, List.map_nil, List.cons.injEq, and_true, erFn, Fn5.mk.injEq, true_and] at h3
    obtain ⟨h4, _, h5, _⟩ := h3
    subst h4
    match body, h5, hh with
    | [], h5, _ => cases h5
    | a :: b :: r, h5, _ => simp at h5
    | [z], h5, hh =>
      simp only [List.map_cons, List.map_nil, List.cons.injEq, and_true] at h5
      obtain ⟨_, _, _, _, r3, r4⟩ := hh
      obtain ⟨bk, off, e1, _, e3⟩ := r3 (by simp)
      have hf := r4 ⟨strB [102], hp, ps, hb, [z], pos⟩ (by simp)
      obtain ⟨_, s0⟩ := hf
      obtain ⟨_, _, s3, s4⟩ := s0
      obtain ⟨bz, offz, e4, _, e6⟩ := s3 (by simp)
      refine ⟨rfl, bk, off, bz, offz, hb.cap, e1, ?_, ?_, ?_⟩
      · have := e3 0 _ rfl 0 _ rfl
        simpa using this
      · have := e3 0 _ rfl 2 _ rfl
        rw [e4] at this
        simpa using this
      · have := e6 0 z rfl 1 (.int .i64 9) (by
          cases z with
          | mk k p nm ty pl rv op ht th he el ha ar =>
            rw [erSt] at h5
            unfold st5 at h5
            simp only [St5.mk.injEq] at h5
            rw [h5.2.1]
            rfl)
        simpa using this
set_option maxRecDepth 100000 in
set_option maxHeartbeats 4000000 in
theorem works_any (w : World) (hV : Vars w) : Calls Tryz.prog 14 #[] w fun e w' => e = .returned (.bool true) ∧ Below w.heap.size w w' := by
  have hc := parse_any ex1T w hV
  unfold ex1T at hc
  have HC1 := Lib.hid hc
  have HE1 := Lib.hid (show parseR ⟨#[99, 111, 32, 102, 40, 41, 32, 123, 32, 114, 101, 116, 117, 114, 110, 32, 49, 59, 32, 125]⟩ = _ from ex1)
  have HE2 := Lib.hid (show parseR ⟨#[99, 111, 32, 102, 40, 41, 32, 123, 32, 120, 32, 61, 32, 59, 32, 125]⟩ = _ from ex2)
  have HV := Lib.hid hV
  clear hc hV
  go_enter Tryz.func14, Tryz.ntmps14
  go_upto_region 2 with
    (first
      | (go_at_call 15; refine HC1.out.mono ?_; rintro e W1 ⟨hb1, h1⟩; unfold ReadOut at h1; rw [HE1.out] at h1; simp only at h1; obtain ⟨⟨y1, x1, y2, x2, y3, x3⟩, rfl, hxe, hxh⟩ := h1; obtain ⟨hl3, bk, off, bz, offz, capb, ho3, k1, k2, k3⟩ := ex_heap hxe (SoH.und 181 _ _ _ (eb_full _ _ _) hxh); simp only at hl3 ho3; simp only [soV, hl3, ho3]; have HB1 := Lib.hid hb1; have HK := Lib.hid (And.intro k1 (And.intro k2 k3)); clear hb1 hxe hxh hl3 ho3 k1 k2 k3 HC1)
      | (refine wpList_store_box rfl 27 (.tmp 1) (.tmp 9) rfl W1.heap.size 0 rfl (.agg #[.slice y1.oa x1.length y1.cap, .slice y2.oa x2.length y2.cap, .slice (some ⟨bk, off, none⟩) 1 y3.cap]) rfl [.slice y1.oa x1.length y1.cap, .slice y2.oa x2.length y2.cap, .slice (some ⟨bk, off, none⟩) 1 y3.cap] rfl [.slice none 0 0, .slice none 0 0, .slice none 0 0] 27 (heap_alloc_new W1 (.cells #[.slice none 0 0, .slice none 0 0, .slice none 0 0] 27)) (Nat.le_refl _) (show (Tryz.prog.info? 27).map (·.size) = some 3 by kernel_rfl) ?c1 W1.heap.size (Nat.le_refl _) (W1.alloc (.cells #[.slice none 0 0, .slice none 0 0, .slice none 0 0] 27)) (Below.refl _ _) ?_; rotate_left; intro W2 hb hbx hoth))
  case c1 => first | exact ⟨rfl, rfl, rfl⟩ | (intro v hv; simp at hv; rcases hv with rfl | rfl | rfl <;> rfl)
  have hb2 : Below W1.heap.size W1 W2 := (alloc_below W1 (.cells #[.slice none 0 0, .slice none 0 0, .slice none 0 0] 27)).trans hb
  obtain ⟨N, hN⟩ : ∃ N, N = W1.heap.size := ⟨_, rfl⟩
  have HXP := Lib.hid (show W2.heap[N]? = some (.cells #[.slice y1.oa x1.length y1.cap, .slice y2.oa x2.length y2.cap, .slice (some ⟨bk, off, none⟩) 1 y3.cap] 27) by rw [hN]; exact hbx)
  have HB2 := Lib.hid (HB1.out.trans (hb2.mono HB1.out.size))
  have hk := HK.out
  have HK2 := Lib.hid (And.intro ((World.cell?_of_block (hb2.block _ (World.block_lt_of_cell? W1 _ hk.1))).trans hk.1) (And.intro ((World.cell?_of_block (hb2.block _ (World.block_lt_of_cell? W1 _ hk.2.1))).trans hk.2.1) ((World.cell?_of_block (hb2.block _ (World.block_lt_of_cell? W1 _ hk.2.2))).trans hk.2.2)))
  simp only [← hN]
  clear hb hbx hoth hb2 hk hN HK
  have hc := parse_any ex2T W2 (HV.out.b HB2.out)
  unfold ex2T at hc
  have HC2 := Lib.hid hc
  clear hc
  go_upto_region 3 with
    (first
      | (go_at_call 15; refine HC2.out.mono ?_; rintro e W3 ⟨hb1, h1⟩; unfold ReadOut at h1; rw [HE2.out] at h1; simp only at h1; subst h1; have HB3 := Lib.hid hb1; clear hb1 HC2)
      | (refine wpList_store_box rfl 27 (.tmp 4) (.tmp 14) rfl W3.heap.size 0 rfl (.agg #[.slice none 0 0, .slice none 0 0, .slice none 0 0]) rfl [.slice none 0 0, .slice none 0 0, .slice none 0 0] rfl [.slice none 0 0, .slice none 0 0, .slice none 0 0] 27 (heap_alloc_new W3 (.cells #[.slice none 0 0, .slice none 0 0, .slice none 0 0] 27)) (Nat.le_refl _) (show (Tryz.prog.info? 27).map (·.size) = some 3 by kernel_rfl) ?c2 W3.heap.size (Nat.le_refl _) (W3.alloc (.cells #[.slice none 0 0, .slice none 0 0, .slice none 0 0] 27)) (Below.refl _ _) ?_; rotate_left; intro W4 hb hbx hoth))
  case c2 => first | exact ⟨rfl, rfl, rfl⟩ | (intro v hv; simp at hv; subst hv; rfl)
  have hb4 : Below W2.heap.size W2 W4 := HB3.out.trans (((alloc_below W3 (.cells #[.slice none 0 0, .slice none 0 0, .slice none 0 0] 27)).trans hb).mono HB3.out.size)
  have HB4 := Lib.hid (HB2.out.trans (hb4.mono HB2.out.size))
  obtain ⟨c0, c1, c2, cf, cl⟩ := cells3p ((hb4.block N (blk_lt HXP.out)).trans HXP.out)
  have hk := HK2.out
  have k1 := (World.cell?_of_block (hb4.block _ (World.block_lt_of_cell? W2 _ hk.1))).trans hk.1
  have k2 := (World.cell?_of_block (hb4.block _ (World.block_lt_of_cell? W2 _ hk.2.1))).trans hk.2.1
  have k3 := (World.cell?_of_block (hb4.block _ (World.block_lt_of_cell? W2 _ hk.2.2))).trans hk.2.2
  have hs1 : ((strB [102]).toList == [102]) = true := by rw [strB_toList]; decide
  clear hb hbx hoth hb4 hk
  go_wp2
  go_ret
  exact ⟨by first | rfl | trivial, HB4.out⟩
end Go.Proofs.YtggdpgaedmegbaaGreatDoor
