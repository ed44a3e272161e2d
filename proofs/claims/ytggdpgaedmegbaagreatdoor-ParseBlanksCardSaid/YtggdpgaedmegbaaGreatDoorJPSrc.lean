/-
  Sources: items one behind the other. Conditions: the reader lies in the heap.
-/
import Derived.Test.YtggdpgaedmegbaaGreatDoorJPSoV
import Derived.Test.YtggdpgaedmegbaaGreatDoorJPEnum
import Derived.Test.YtggdpgaedmegbaaGreatDoorJPFn
import Derived.Test.YtggdpgaedmegbaaGreatDoorJPStruct
import Derived.Test.YtggdpgaedmegbaaGreatDoorJPStm
import Derived.Deep.AppendLies
import Derived.Deep.RegionLaw
namespace Go.Proofs.YtggdpgaedmegbaaGreatDoor
open Go.RowKit

def FnC : Prop := ∀ (w : World) (b g cap : Nat) (ts : List Tok) (i q : Nat), RdAt w b g cap ts i 0 → Calls Tryz.prog 174 #[.pointer (some ⟨b, 0, none⟩), .int .i64 q] w (RPost w b g cap ts i 0 (fnR q (ts.drop i)) (VFn 181))
theorem infoI_E : (Tryz.prog.info? 62).map (fun i => (i.zero, i.size, i.bytes)) = some (some (.agg #[.string ⟨#[]⟩, .slice none 0 0, .int .i64 0]), 3, 48) := by kernel_rfl
theorem infoI_S : (Tryz.prog.info? 47).map (fun i => (i.zero, i.size, i.bytes)) = some (some (.agg #[.string ⟨#[]⟩, .bool false, .slice none 0 0, .int .i64 0]), 4, 56) := by kernel_rfl
theorem infoI_F : (Tryz.prog.info? 68).map (fun i => (i.zero, i.size, i.bytes)) = some (some (.agg #[.string ⟨#[]⟩, .slice none 0 0, .slice none 0 0, .int .i64 0]), 4, 72) := by kernel_rfl
def joinI (ss : List Su5) (es : List En5) (fs : List Fn5) (k : Nat) (l : List Tok) : Rs So5 := joinR ss es fs (itemsR k l)
theorem joinI_end {ss : List Su5} {es : List En5} {fs : List Fn5} {k : Nat} {l : List Tok} (h : endB (hd l) = true) : joinI ss es fs (k + 1) l = .ok ⟨h0, ss, h0, es, h0, fs⟩ l := by
  unfold joinI
  rw [itemsR]
  unfold isR
  rw [if_pos h]
  simp [joinR, pureR, so0]
theorem joinI_e {ss : List Su5} {es : List En5} {fs : List Fn5} {k : Nat} {l : List Tok} (h : ¬ endB (hd l) = true) (hw : (hd l).text = wEnum) : joinI ss es fs (k + 1) l = match enumR (hd l).pos l.tail with
    | .ok x m => joinI ss (es ++ [x]) fs k m
    | .no e p => .no e p := by
  unfold joinI
  rw [itemsR]
  unfold isR
  rw [if_neg h]
  show joinR ss es fs (optR wEnum _ _ l) = _
  unfold optR
  rw [if_pos hw]
  unfold bindR mapR bindR pureR
  cases enumR (hd l).pos l.tail with
  | no e p => rfl
  | ok x m => simp only; cases itemsR k m <;> simp [joinR]
theorem joinI_f {ss : List Su5} {es : List En5} {fs : List Fn5} {k : Nat} {l : List Tok} (h : ¬ endB (hd l) = true) (hn : (hd l).text ≠ wEnum) (hw : (hd l).text = wCo) : joinI ss es fs (k + 1) l = match fnR (hd l).pos l.tail with
    | .ok x m => joinI ss es (fs ++ [x]) k m
    | .no e p => .no e p := by
  unfold joinI
  rw [itemsR]
  unfold isR
  rw [if_neg h]
  show joinR ss es fs (optR wEnum _ _ l) = _
  unfold optR
  rw [if_neg hn, if_pos hw]
  unfold bindR mapR bindR pureR
  cases fnR (hd l).pos l.tail with
  | no e p => rfl
  | ok x m => simp only; cases itemsR k m <;> simp [joinR]
theorem joinI_s {ss : List Su5} {es : List En5} {fs : List Fn5} {k : Nat} {l : List Tok} (h : ¬ endB (hd l) = true) (hn : (hd l).text ≠ wEnum) (hn2 : (hd l).text ≠ wCo) : joinI ss es fs (k + 1) l = match structR l with
    | .ok x m => joinI (ss ++ [x]) es fs k m
    | .no e p => .no e p := by
  unfold joinI
  rw [itemsR]
  unfold isR
  rw [if_neg h]
  show joinR ss es fs (optR wEnum _ _ l) = _
  unfold optR
  rw [if_neg hn, if_neg hn2]
  unfold bindR mapR bindR pureR
  cases structR l with
  | no e p => rfl
  | ok x m => simp only; cases itemsR k m <;> simp [joinR]
theorem con_item_e {q : Nat} {l : List Tok} {x : En5} {m : List Tok} (h : enumR q l = .ok x m) : m.length < l.length := (ru_enum q).con _ _ _ h
theorem con_item_f {q : Nat} {l : List Tok} {x : Fn5} {m : List Tok} (h : fnR q l = .ok x m) : m.length < l.length := (ru_fn q).con _ _ _ h
theorem con_item_s {l : List Tok} {x : Su5} {m : List Tok} (h : structR l = .ok x m) : m.length < l.length := ru_struct.con _ _ _ h
theorem items_eta : ∀ (k : Nat) (l : List Tok) (s : So5) (r : List Tok), itemsR k l = .ok s r → s.hs = h0 ∧ s.he = h0 ∧ s.hf = h0
  | 0, _, _, _, h => by cases h
  | k + 1, l, s, r, h => by
    rw [items_eq] at h
    unfold isR at h
    split at h
    · cases h; exact ⟨rfl, rfl, rfl⟩
    · obtain ⟨x, m, _, h⟩ := bindR_ok h
      obtain ⟨s', h2, rfl⟩ := mapR_ok h
      have := items_eta k _ _ _ h2
      cases x <;> exact this
theorem joinI_nil (k : Nat) (l : List Tok) : joinI [] [] [] k l = itemsR k l := by
  unfold joinI
  cases h : itemsR k l with
  | no e p => rfl
  | ok s r =>
    obtain ⟨h1, h2, h3⟩ := items_eta k l s r h
    cases s
    simp only at h1 h2 h3
    subst h1 h2 h3
    rfl
theorem SuH.le {n m : Nat} (h : n ≤ m) {w : World} {x : Su5} (hx : SuH n w x) : SuH m w x := Row.mono hx fun _ _ hf => TyH.le h hf
theorem EnH.le {n m : Nat} (h : n ≤ m) {w : World} {x : En5} (hx : EnH n w x) : EnH m w x := Row.mono hx fun _ _ hf => TyH.le h hf
theorem next_pos {w : World} {b g cap : Nat} {ts : List Tok} {i dp : Nat} (H : RdAt w b g cap ts i dp) {t : Tok} (ht : ts[i]? = some t) :
    Calls Tryz.prog 171 #[.pointer (some ⟨b, 0, none⟩)] w fun e w' => e = .returned (.agg #[.int .i64 t.k, .string (strB t.text), .int .i64 t.n, .int .i64 t.pos]) ∧ Below w.heap.size w w' := next_any H ht
set_option maxRecDepth 100000 in
set_option maxHeartbeats 40000000 in
theorem r_source {w : World} {b g cap : Nat} {ts : List Tok} {i dp : Nat} (H : RdAt w b g cap ts i dp) (hF : FnC) (hd0 : dp = 0) :
    Calls Tryz.prog 92 #[.pointer (some ⟨b, 0, none⟩)] w (RPost w b g cap ts i dp (sourceR (ts.drop i)) (VSo 181)) := by
  subst hd0
  obtain ⟨r, hQ⟩ : ∃ r, sourceR (ts.drop i) = r := ⟨_, rfl⟩
  rw [hQ]
  have HQ := Lib.hid hQ
  clear hQ
  have HGB := Lib.hid (And.intro H.toks.1 H.vars.size)
  have HBW := Lib.hid (show b < w.heap.size from (Array.getElem?_eq_some_iff.1 H.at_).1)
  have HJ0 := Lib.hid (Nat.le_refl i)
  obtain ⟨W0, hW⟩ : ∃ W0, W0 = w.alloc (.cells #[.slice none 0 0, .slice none 0 0, .slice none 0 0] 27) := ⟨_, rfl⟩
  have hbW : Below w.heap.size w W0 := by rw [hW]; exact alloc_below _ _
  have hx0 : W0.heap[w.heap.size]? = some (.cells #[.slice none 0 0, .slice none 0 0, .slice none 0 0] 27) := by rw [hW, heap_alloc_new]
  have HH0 := Lib.hid (H.under hbW)
  have HK0 := Lib.hid (Kb.of_below (b := b) hbW)
  obtain ⟨B, hB⟩ : ∃ B, B = w.heap.size := ⟨_, rfl⟩
  rw [← hB] at hx0
  have HX0 := Lib.hid hx0
  clear hbW hx0 H
  go_enter Tryz.func92, Tryz.ntmps92
  go_upto_region 1 with fail
  rw [← hW]
  simp only [← hB]
  clear hW
  have HBb := Lib.hid (show B ≠ b ∧ g ≠ B ∧ nG ≤ B ∧ w.heap.size ≤ B by have h1 := HBW.out; have h2 := HGB.out; rw [hB]; exact ⟨by omega, by omega, h2.2, Nat.le_refl _⟩)
  replace hB := Lib.hid hB
  have HFN := Lib.hid hF
  clear hF
  have HRI := Lib.hid (show itemsR (ts.drop i).length (ts.drop i) = r from HQ.out)
  obtain ⟨iiE, hi1, hi2, hi3, hi4⟩ := info_parts infoI_E
  have HIE := Lib.hid (And.intro hi1 (And.intro hi2 (And.intro hi3 hi4)))
  clear hi1 hi2 hi3 hi4
  obtain ⟨iiS, hi1, hi2, hi3, hi4⟩ := info_parts infoI_S
  have HIS := Lib.hid (And.intro hi1 (And.intro hi2 (And.intro hi3 hi4)))
  clear hi1 hi2 hi3 hi4
  obtain ⟨iiF, hi1, hi2, hi3, hi4⟩ := info_parts infoI_F
  have HIF := Lib.hid (And.intro hi1 (And.intro hi2 (And.intro hi3 hi4)))
  clear hi1 hi2 hi3 hi4
  obtain ⟨P, hP⟩ : ∃ P, P = W0.heap.size := ⟨_, rfl⟩
  obtain ⟨W1, hW⟩ : ∃ W1, W1 = W0.alloc (.cells #[.slice none 0 0, .slice none 0 0, .slice none 0 0] 27) := ⟨_, rfl⟩
  have hal : Below W0.heap.size W0 W1 := by rw [hW]; exact alloc_below _ _
  have hx1 : W1.heap[W0.heap.size]? = some (.cells #[.slice none 0 0, .slice none 0 0, .slice none 0 0] 27) := by rw [hW, heap_alloc_new]
  rw [← hP] at hx1
  have hBP : B < P := by rw [hP]; exact blk_lt HX0.out
  have hbP : b < P := by rw [hP]; exact blk_lt HH0.out.at_
  have hgP : g < P := by rw [hP]; exact HH0.out.toks.1
  have hwP : w.heap.size ≤ P := by rw [hP]; exact HK0.out.size
  have HP_1 := Lib.hid hx1
  have HX1 := Lib.hid ((hal.block B (hP ▸ hBP)).trans HX0.out)
  have HH1 := Lib.hid (HH0.out.under hal)
  have HK1 := Lib.hid (HK0.out.trans (Kb.of_below hal))
  have HNE := Lib.hid (And.intro hBP (And.intro hbP (And.intro hgP hwP)))
  clear hx1 hal hBP hbP hgP hwP
  go_wp2_with fail
  rw [← hW]
  simp only [← hP]
  replace hP := Lib.hid hP
  clear hW
  go_loopw [4] (fun _ wr => ∃ (j k : Nat) (ss : List Su5) (es : List En5) (fs : List Fn5) (os oe of : Option Addr) (cs ce cf : Nat), wr.heap[P]? = some (.cells #[.slice os ss.length cs, .slice oe es.length ce, .slice of fs.length cf] 27) ∧ wr.heap[B]? = some (.cells #[.slice none 0 0, .slice none 0 0, .slice none 0 0] 27) ∧ SoV wr (P + 1) (.slice os ss.length cs) (.slice oe es.length ce) (.slice of fs.length cf) ss es fs ∧ RdAt wr b g cap ts j 0 ∧ Kb b w wr ∧ i ≤ j ∧ (ts.drop j).length ≤ k ∧ ss.length + es.length + fs.length ≤ j ∧ joinI (ss.map erSu) (es.map erEn) (fs.map erFn) k (ts.drop j) = r) (fun _ wr => match wr.cell? ⟨b, 1, none⟩ with | some (.int _ q) => ts.length - q.toNat | _ => 0)
  case atStart => exact ⟨i, _, [], [], [], none, none, none, 0, 0, 0, HP_1.out, HX1.out, SoV.nil _ _, HH1.out, HK1.out, Nat.le_refl _, Nat.le_refl _, Nat.zero_le _, (joinI_nil _ _).trans HRI.out⟩
  case round =>
    obtain ⟨j, k, ss, es, fs, os, oe, of, cs, ce, cf, hx, hxb, hrow, hrd, hko, hj, hk, hxj, hr⟩ := hrel
    obtain ⟨t, ht, hh, -⟩ := hrd.tok
    have hlt := hrd.lt
    obtain ⟨k', rfl⟩ : ∃ k', k = k' + 1 := ⟨k - 1, by rw [List.length_drop] at hk; omega⟩
    obtain ⟨ms, hms⟩ : ∃ m, ss.length = m := ⟨_, rfl⟩
    obtain ⟨me, hme⟩ : ∃ m, es.length = m := ⟨_, rfl⟩
    obtain ⟨mf, hmf⟩ : ∃ m, fs.length = m := ⟨_, rfl⟩
    rw [hms, hme, hmf] at hx
    have HMS := Lib.hid hms
    have HMSv := Lib.hid hms
    have HMS' := Lib.hid hms
    have HME := Lib.hid hme
    have HMF := Lib.hid hmf
    have HMMS := Lib.hid hms
    have HRO := Lib.hid hrow
    have HRD := Lib.hid hrd
    have HKO := Lib.hid hko
    have HX := Lib.hid (And.intro hx hxb)
    have HR2 := Lib.hid (And.intro hr (And.intro hk (And.intro hxj (And.intro ht (And.intro hh hj)))))
    have HTT := Lib.hid ht
    have HTH := Lib.hid hh
    have HPB := Lib.hid (blk_lt hx)
    have hfk := tok_k
    have hfp := tok_pos
    clear hrow hrd hko hx hxb hr hk hxj ht hh hj hlt hms hme hmf
    by_cases hk0 : t.k = 0
    · have hkt : (t.k != 0) = false := by simp [hk0]
      have hfin : r = .ok ⟨h0, ss.map erSu, h0, es.map erEn, h0, fs.map erFn⟩ (ts.drop j) := by
        rw [← HR2.out.1, joinI_end (by rw [HTH.out]; simp [endB, hk0])]
      have HFI := Lib.hid hfin
      clear hk0 hfin
      go_wp2_with
        (first
          | (go_at_call 171; refine (next_pos HRD.out HTT.out).mono ?_; rintro e u1 ⟨rfl, hb⟩; have HB1 := Lib.hid hb; have HHu1 := Lib.hid (HRD.out.under hb); have HXP := Lib.hid ((hb.block _ (blk_lt HX.out.1)).trans HX.out.1); have HXB := Lib.hid ((hb.block _ (blk_lt HX.out.2)).trans HX.out.2); obtain ⟨e0, e1, e2, ef, el⟩ := cells3p HXP.out; clear hb)
          | (refine wpList_store_box rfl 27 (.tmp 2) (.tmp 42) rfl B 0 rfl (.agg #[.slice os ms cs, .slice oe me ce, .slice of mf cf]) rfl [.slice os ms cs, .slice oe me ce, .slice of mf cf] rfl [.slice none 0 0, .slice none 0 0, .slice none 0 0] 27 HXB.out (Nat.le_refl _) (show (Tryz.prog.info? 27).map (·.size) = some 3 by kernel_rfl) ?c1 B (Nat.le_refl _) u1 (Below.refl _ _) ?_))
      case c1 => first | exact ⟨rfl, rfl, rfl⟩ | (intro v hv; simp at hv; rcases hv with rfl | rfl | rfl <;> rfl)
      intro WF hb hbx hoth
      have HF := Lib.hid (And.intro ((HKO.out.trans (Kb.of_below HB1.out)).box HBb.out.2.2.2 hb hoth) (HHu1.out.box hb hoth HBb.out.1.symm HBb.out.2.1 HBb.out.2.2.1))
      obtain ⟨⟨y1, x1, hv1, hm1, hr1⟩, ⟨y2, x2, hv2, hm2, hr2⟩, ⟨y3, x3, hv3, hm3, hr3⟩⟩ := (HRO.out.keep (w' := u1) HB1.out.size fun x _ h2 => HB1.out.block x h2).rows
      have hu := und_box (B' := w.heap.size) hb hoth (show B < P + 1 by have := HNE.out.1; omega) (show w.heap.size ≤ P + 1 by have := HNE.out.2.2.2; omega)
      have q1 := Row.und hr1 hu (Q := SuH 181 _) fun x _ hx => SuH.le (by omega) (SuH.und 62 _ _ x hu hx)
      have q2 := Row.und hr2 hu (Q := EnH 181 _) fun x _ hx => EnH.le (by omega) (EnH.und 62 _ _ x hu hx)
      have q3 := Row.und hr3 hu (Q := FnH 181 _) fun x _ hx => FnH.und 181 _ _ x hu hx
      rw [HMS.out] at hv1
      rw [HME.out] at hv2
      rw [HMF.out] at hv3
      have HV := Lib.hid (And.intro (And.intro q1 (And.intro q2 q3)) (And.intro (And.intro hv1 (And.intro hv2 hv3)) (And.intro hm1 (And.intro hm2 hm3))))
      clear hb hu q1 q2 q3 hv1 hv2 hv3 hm1 hm2 hm3 hr1 hr2 hr3
      obtain ⟨q0, q1, q2, qf, ql⟩ := cells3p (show WF.heap[B]? = some (.cells #[.slice os ms cs, .slice oe me ce, .slice of mf cf] 27) from hbx)
      go_wp2
      exact bodyPost_ret (v := .agg #[.slice os ms cs, .slice oe me ce, .slice of mf cf]) (by simp [results, Tryz.results92, go_sem, q0, q1, q2]) rfl (RPost.done HF.out.1 HFI.out HR2.out.2.2.2.2.2 HF.out.2 ⟨⟨y1, x1, y2, x2, y3, x3⟩, by rw [HV.out.2.1.1, HV.out.2.1.2.1, HV.out.2.1.2.2]; rfl, by unfold erSo; rw [HV.out.2.2.1, HV.out.2.2.2.1, HV.out.2.2.2.2], HV.out.1⟩)
    · have hkt : (t.k != 0) = true := by simp [hk0]
      have HNE0 := Lib.hid (show ¬ endB (hd (ts.drop j)) = true by rw [HTH.out]; simpa [endB] using hk0)
      clear hk0
      by_cases hw1 : t.text = wEnum
      · have HW1 := Lib.hid hw1
        have hst := joinI_e (ss := ss.map erSu) (es := es.map erEn) (fs := fs.map erFn) (k := k') HNE0.out (by rw [HTH.out]; exact hw1)
        rw [HR2.out.1, HTH.out, drop_tail] at hst
        have HSTEP := Lib.hid hst.symm
        clear hw1 hst
        have S0 := Lib.hid True.intro
        go_upto_region 6 with (first | (clear S0; go_at_call 171; refine (next_pos HRD.out HTT.out).mono ?_; rintro e u1 ⟨rfl, hb⟩; have HB1 := Lib.hid hb; have HHu1 := Lib.hid (HRD.out.under hb); have S1 := Lib.hid True.intro; clear hb) | (clear S1; go_at_call 171; refine (next_pos HHu1.out HTT.out).mono ?_; rintro e u2 ⟨rfl, hb⟩; have HB2 := Lib.hid (HB1.out.trans (hb.mono HB1.out.size)); have HHu2 := Lib.hid (HHu1.out.under hb); have S2 := Lib.hid True.intro; clear hb) | (clear S2; go_at_call 172; refine (takes_any HHu2.out HTT.out wEnum (by decide)).mono ?_; rintro e w1 ⟨h1, -⟩; obtain ⟨rfl, hk, hrd⟩ := h1 HW1.out; have HK1' := Lib.hid ((Kb.of_below (b := b) HB2.out).trans hk); have HH1' := Lib.hid hrd; clear h1 hk hrd))
        clear hfk hfp hkt
        have HMS2 := Lib.hid HMS.out
        have HMEX := Lib.hid HME.out
        have HX1 := Lib.hid (show w1.drew.heap[P]? = some (.cells #[.slice os ms cs, .slice oe me ce, .slice of mf cf] 27) from HK1'.out.kept HX.out.1 (by have := HNE.out.2.1; omega))
        have HXB1 := Lib.hid (show w1.drew.heap[B]? = some (.cells #[.slice none 0 0, .slice none 0 0, .slice none 0 0] 27) from HK1'.out.kept HX.out.2 HBb.out.1)
        have HH1d := Lib.hid HH1'.out.dr
        have HKd := Lib.hid (show Kb b w w1.drew from (HKO.out.trans HK1'.out).drew)
        have HRd := Lib.hid (HRO.out.keep (w' := w1.drew) HK1'.out.size fun x h1 h2 => HK1'.out.block x h2 (by have := HNE.out.2.1; omega))
        have HSZ := Lib.hid (show wr.heap.size ≤ w1.drew.heap.size from HK1'.out.size)
        have hc := r_enum HH1d.out t.pos
        have HC := Lib.hid hc
        clear hc
        obtain ⟨e0, e1, e2, ef, el⟩ := cells3p HX1.out
        obtain ⟨hi1, hi2, hi3, hi4⟩ := HIE.out
        go_region_law (first
          | (refine step_append_lies _ rfl (.tmp 24) (.tmp 28) 24 rfl (P + 1) 62 iiE _ 3 48 Tryz.underlying24 hi1 hi2 hi3 hi4 rfl (by decide) (.slice oe me ce) me (es.flatMap enC) (by simp [Act.eval]) (by exact HRW.out) ⟨W3.heap.size, 0, none⟩ 1 1 [.string xn, .slice xh.oa xl.length xh.cap, .int .i64 xq] (by simp [Act.eval]) rfl (by exact new_cells W3 [.string xn, .slice xh.oa xl.length xh.cap, .int .i64 xq] 62 _ rfl) (by first | exact ⟨rfl, rfl, rfl⟩ | (intro u hu; simp at hu; rcases hu with rfl | rfl | rfl <;> rfl) | (intro u hu; simp at hu; rcases hu with rfl | rfl | rfl <;> rfl) | (intro u hu; simp at hu; rcases hu with rfl | rfl <;> rfl)) (by decide) (by exact HMX.out.1) (by exact HMX.out.2.1) (by exact HMX.out.2.2) _ rfl ?_; intro g4 c4 w4 hown hg hgo hlt4; have HOW := Lib.hid hown; have HG4 := Lib.hid (And.intro hg hgo); obtain ⟨f0, f1, f2, ff, fl⟩ := cells3p (HP4.out _ hg); clear hown hg hgo hlt4)
          | (go_simp; go_at_call 173; refine HC.out.mono ?_; rintro e W3 hp
             rcases hr : enumR t.pos (ts.drop (j + 1)) with ⟨a2, l2⟩ | ⟨er, p⟩
             rotate_left
             · obtain ⟨he, hk⟩ := hp.no hr
               unfold faultE at he
               subst he
               exact ⟨rfl, RPost.fault (HKd.out.trans hk) (HSTEP.out.symm.trans (by rw [hr]))⟩
             obtain ⟨hk, j2, v2, rfl, hl, hj2, hrd, hv⟩ := hp.ok hr; subst hl; have HJ2 := Lib.hid (And.intro (con_item_e hr) hj2)
             obtain ⟨⟨xn, xh, xl, xq⟩, rfl, rfl, hpx⟩ := hv
             simp only [enV, enC]
             have HPX := Lib.hid hpx
             have HSR := Lib.hid (show joinI _ _ _ _ _ = r from (by have h := HSTEP.out; rw [hr] at h; exact h))
             clear hr; have HK3 := Lib.hid hk; have HH3 := Lib.hid hrd; have HP3 := Lib.hid (hk.kept HX1.out (by have := HNE.out.2.1; omega)); obtain ⟨d0, d1, d2, df, dl⟩ := cells3p HP3.out
             have hal := alloc_below W3 (.cells #[.string xn, .slice xh.oa xl.length xh.cap, .int .i64 xq] 62)
             have hrw3 := (HRd.out.keep hk.size fun x h1 h2 => hk.block x h2 (by have := HNE.out.2.1; omega)).keep (w' := W3.alloc (.cells #[.string xn, .slice xh.oa xl.length xh.cap, .int .i64 xq] 62)) hal.size fun x _ h2 => hal.block x h2
             have HRV := Lib.hid hrw3
             have HRW := Lib.hid (show (W3.alloc (.cells #[.string xn, .slice xh.oa xl.length xh.cap, .int .i64 xq] 62)).ownsRow (P + 1) 62 3 (.slice oe me ce) me (es.flatMap enC) by have h := hrw3.o2; rw [HME.out] at h; exact h)
             have HMX := Lib.hid (show me + 1 ≤ maxLen ∧ (me + 1) * 48 ≤ 140737488355328 ∧ P + 1 ≤ (W3.alloc (.cells #[.string xn, .slice xh.oa xl.length xh.cap, .int .i64 xq] 62)).heap.size by
               have h1 := HR2.out.2.2.1; have h2 := HME.out; have h3 := HH1d.out.ok.small; have h4 := HH1d.out.lt; have h5 := blk_lt HP3.out; have h6 := hal.size
               exact ⟨by unfold maxLen; omega, by omega, by omega⟩)
             have HP4 := Lib.hid (show ∀ w4, (W3.alloc (.cells #[.string xn, .slice xh.oa xl.length xh.cap, .int .i64 xq] 62)).grownBy w4 (Value.slice oe me ce).ownBlock → w4.heap[P]? = some (.cells #[.slice os ms cs, .slice oe me ce, .slice of mf cf] 27) from fun w4 hg => (hg.block P (by have h5 := blk_lt HP3.out; have h6 := hal.size; omega) fun e => by have := (own_lt HRW.out e.symm).1; omega).trans ((hal.block P (blk_lt HP3.out)).trans HP3.out))
             clear hk hp hrd hj2 HC hal hrw3 hpx))
        all_goals
          have hg := HG4.out.1
          have hal := alloc_below W3 (.cells #[.string xn, .slice xh.oa xl.length xh.cap, .int .i64 xq] 62)
          have hbb := HNE.out
          have hge : ∀ x, (Value.slice oe me ce).ownBlock = some x → P + 1 ≤ x := fun x hx => (own_lt HRW.out hx).1
          have hP4 := HP4.out _ hg
          have hown := HOW.out
          have hsz0 := HSZ.out
          have hrd1 := HRd.out
          have hlt1 : ∀ x, ((Value.slice os ss.length cs).ownBlock = some x ∨ (Value.slice oe es.length ce).ownBlock = some x ∨ (Value.slice of fs.length cf).ownBlock = some x) → x < w1.drew.heap.size := fun x hx => by
            rcases hx with hx | hx | hx
            · exact (own_lt hrd1.o1 hx).2
            · exact (own_lt hrd1.o2 hx).2
            · exact (own_lt hrd1.o3 hx).2
          have hm := HME.out
          have hgx := hg
          rw [← hm] at hown hgx
          have hpx := HPX.out
          have hux : Und (eb W3 w1.drew.heap.size none) (eb (W3.alloc (.cells #[.string xn, .slice xh.oa xl.length xh.cap, .int .i64 xq] 62)) w1.drew.heap.size none) := eb_und hal.size fun x hx h1 h2 => ⟨h1, h2, hal.block x hx⟩
          have hBs : P + 1 ≤ w1.drew.heap.size := by have := blk_lt HX1.out; omega
          have hpush := HRV.out.pushE (x := (⟨xn, xh, xl, xq⟩ : En5)) hBs hlt1 (EnH.und 62 _ _ _ hux hpx) hown hgx (fun x hx => by
            have h1 := HG4.out.2
            rw [hm] at hx ⊢
            have h2 : g4 = x := by simpa [Value.ownBlock] using hx
            rw [← h2]
            rcases h1 with h1 | h1
            · exact .inl h1
            · exact .inr (by omega))
          obtain ⟨v5, hv5⟩ : ∃ v5, v5 = Value.slice (some ⟨g4, 0, none⟩) (me + 1) c4 := ⟨_, rfl⟩
          have hn5 : ∀ x, x ≠ P → (w4.setCell ⟨P, 1, none⟩ v5).heap[x]? = w4.heap[x]? := fun x hx => Below.heap_setCell _ _ _ _ hx
          have hs5 : w4.heap.size ≤ (w4.setCell ⟨P, 1, none⟩ v5).heap.size := by simp [World.setCell]
          have hb5 : Below P w4 (w4.setCell ⟨P, 1, none⟩ v5) := ⟨rfl, rfl, rfl, hs5, fun x hx => hn5 x (by omega)⟩
          have hX5 : (w4.setCell ⟨P, 1, none⟩ v5).heap[P]? = some (.cells #[.slice os ms cs, v5, .slice of mf cf] 27) := by
            have := heap_setCell_same w4 P 1 _ _ v5 hP4
            simpa using this
          have hB3 : W3.heap[B]? = some (.cells #[.slice none 0 0, .slice none 0 0, .slice none 0 0] 27) := HK3.out.kept HXB1.out HBb.out.1
          have hB5 : (w4.setCell ⟨P, 1, none⟩ v5).heap[B]? = some (.cells #[.slice none 0 0, .slice none 0 0, .slice none 0 0] 27) :=
            (hn5 B (by omega)).trans ((hg.block B (by have := blk_lt hB3; have := hal.size; omega) fun e => by have := hge B e.symm; omega).trans ((hal.block B (blk_lt hB3)).trans hB3))
          have hrow5 := hpush.keep (w' := w4.setCell ⟨P, 1, none⟩ v5) hs5 fun x h1 _ => hn5 x (by omega)
          have hrd5 := ((HH3.out.under hal).grown hg hge (by omega) (by omega) (by have := HBb.out.2.2.1; omega) HMX.out.2.2).setNew (k := P) (by omega) 1 v5 hP4 (by omega) (by have := HBb.out.2.2.1; omega)
          have hk5 := ((((Ko.of (HKd.out.trans HK3.out)).trans (Ko.of (Kb.of_below hal))).grown (o := none) hg fun x hx => by have := hge x hx; omega).kb).box (by omega) hb5 hn5
          have hjj := HJ2.out
          have hsr := HSR.out
          have hst := And.intro hX5 (And.intro hB5 (And.intro hrow5 (And.intro hrd5 (And.intro hk5 (And.intro hsr hjj)))))
          rw [← hv5]
          have HST := Lib.hid hst
          have HV5 := Lib.hid hv5
          clear hg hal hbb hge hP4 hown hgx hpush hn5 hs5 hb5 hX5 hB3 hB5 hrow5 hrd5 hk5 hjj hst hv5 hsr hi1 hi2 hi3 hi4 hux hBs hpx hm hsz0 hlt1 hrd1
          go_roundw
          case rel =>
            obtain ⟨g1, g2, g3, g4', g5, g6, g7⟩ := HST.out
            have hm := HME.out
            have hms := HMS.out
            have hme := HME.out
            have hmf := HMF.out
            have hv := HV5.out
            subst hv
            refine ⟨_, _, _, _, _, _, _, _, _, _, _, _, _, _, _, _, _, _, _, _, _, _, _, _, _, _, _, _, _, _, _, _, _, _, _, _, _, _, ?_, rfl⟩
            refine ⟨j2, k', ss, es ++ [(⟨xn, xh, xl, xq⟩ : En5)], fs, os, some ⟨g4, 0, none⟩, of, cs, c4, cf, ?_, g2, ?_, g4', g5, ?_, ?_, ?_, ?_⟩
            · rw [hms, hme, hmf] at *
              simpa [hm] using g1
            · rw [hms, hme, hmf] at *
              simpa [hm] using g3
            · have := HR2.out.2.2.2.2.2; have := g7.2; omega
            · have h1 := HR2.out.2.1; have h2 := g7.1; rw [List.length_drop] at h1 h2 ⊢; rw [List.length_drop] at h2; omega
            · have h1 := HR2.out.2.2.1; have := g7.2; have := g7.2; simp; omega
            · rw [← g6]; simp [List.map_append]
          case measure =>
            obtain ⟨g1, g2, g3, g4', g5, g6, g7⟩ := HST.out
            have e1 := (cells3p g4'.at_).2.1
            have e2 := (cells3p HRD.out.at_).2.1
            simp only [e1, e2]
            have h9 := g4'.lt
            have h8 := g7.1
            have h7 := HRD.out.lt
            rw [List.length_drop, List.length_drop] at h8
            simp only [Int.toNat_natCast]
            omega
      · have HW1 := Lib.hid hw1
        clear hw1
        by_cases hw2 : t.text = wCo
        · have HW2 := Lib.hid hw2
          have hst := joinI_f (ss := ss.map erSu) (es := es.map erEn) (fs := fs.map erFn) (k := k') HNE0.out (by rw [HTH.out]; exact HW1.out) (by rw [HTH.out]; exact hw2)
          rw [HR2.out.1, HTH.out, drop_tail] at hst
          have HSTEP := Lib.hid hst.symm
          clear hw2 hst
          have S0 := Lib.hid True.intro
          go_upto_region 8 with (first | (clear S0; go_at_call 171; refine (next_pos HRD.out HTT.out).mono ?_; rintro e u1 ⟨rfl, hb⟩; have HB1 := Lib.hid hb; have HHu1 := Lib.hid (HRD.out.under hb); have S1 := Lib.hid True.intro; clear hb) | (clear S1; go_at_call 171; refine (next_pos HHu1.out HTT.out).mono ?_; rintro e u2 ⟨rfl, hb⟩; have HB2 := Lib.hid (HB1.out.trans (hb.mono HB1.out.size)); have HHu2 := Lib.hid (HHu1.out.under hb); have S2 := Lib.hid True.intro; clear hb) | (clear S2; go_at_call 172; refine (takes_any HHu2.out HTT.out wEnum (by decide)).mono ?_; rintro e u3 ⟨-, h1⟩; obtain ⟨rfl, hb⟩ := h1 HW1.out; have HB3 := Lib.hid (HB2.out.trans (hb.mono HB2.out.size)); have HHu3 := Lib.hid (HHu2.out.under hb); have S3 := Lib.hid True.intro; clear h1 hb) | (clear S3; go_at_call 172; refine (takes_any HHu3.out HTT.out wCo (by decide)).mono ?_; rintro e w1 ⟨h1, -⟩; obtain ⟨rfl, hk, hrd⟩ := h1 HW2.out; have HK1' := Lib.hid ((Kb.of_below (b := b) HB3.out).trans hk); have HH1' := Lib.hid hrd; clear h1 hk hrd))
          clear hfk hfp hkt
          have HX1 := Lib.hid (show w1.drew.heap[P]? = some (.cells #[.slice os ms cs, .slice oe me ce, .slice of mf cf] 27) from HK1'.out.kept HX.out.1 (by have := HNE.out.2.1; omega))
          have HXB1 := Lib.hid (show w1.drew.heap[B]? = some (.cells #[.slice none 0 0, .slice none 0 0, .slice none 0 0] 27) from HK1'.out.kept HX.out.2 HBb.out.1)
          have HH1d := Lib.hid HH1'.out.dr
          have HKd := Lib.hid (show Kb b w w1.drew from (HKO.out.trans HK1'.out).drew)
          have HRd := Lib.hid (HRO.out.keep (w' := w1.drew) HK1'.out.size fun x h1 h2 => HK1'.out.block x h2 (by have := HNE.out.2.1; omega))
          have HSZ := Lib.hid (show wr.heap.size ≤ w1.drew.heap.size from HK1'.out.size)
          have hc := HFN.out _ _ _ _ _ _ t.pos HH1d.out
          have HC := Lib.hid hc
          clear hc
          obtain ⟨e0, e1, e2, ef, el⟩ := cells3p HX1.out
          obtain ⟨hi1, hi2, hi3, hi4⟩ := HIF.out
          go_region_law (first
            | (refine step_append_lies _ rfl (.tmp 35) (.tmp 39) 25 rfl (P + 1) 68 iiF _ 4 72 Tryz.underlying25 hi1 hi2 hi3 hi4 rfl (by decide) (.slice of mf cf) mf (fs.flatMap fnC) (by simp [Act.eval]) (by exact HRW.out) ⟨W3.heap.size, 0, none⟩ 1 1 [.string xn, .slice xh.oa xl.length xh.cap, .slice xg.oa xb.length xg.cap, .int .i64 xq] (by simp [Act.eval]) rfl (by exact new_cells W3 [.string xn, .slice xh.oa xl.length xh.cap, .slice xg.oa xb.length xg.cap, .int .i64 xq] 68 _ rfl) (by first | exact ⟨rfl, rfl, rfl, rfl⟩ | (intro u hu; simp at hu; rcases hu with rfl | rfl | rfl | rfl <;> rfl) | (intro u hu; simp at hu; rcases hu with rfl | rfl | rfl <;> rfl) | (intro u hu; simp at hu; rcases hu with rfl | rfl <;> rfl)) (by decide) (by exact HMX.out.1) (by exact HMX.out.2.1) (by exact HMX.out.2.2) _ rfl ?_; intro g4 c4 w4 hown hg hgo hlt4; have HOW := Lib.hid hown; have HG4 := Lib.hid (And.intro hg hgo); obtain ⟨f0, f1, f2, ff, fl⟩ := cells3p (HP4.out _ hg); clear hown hg hgo hlt4)
            | (go_simp; go_at_call 174; refine HC.out.mono ?_; rintro e W3 hp
               rcases hr : fnR t.pos (ts.drop (j + 1)) with ⟨a2, l2⟩ | ⟨er, p⟩
               rotate_left
               · obtain ⟨he, hk⟩ := hp.no hr
                 unfold faultE at he
                 subst he
                 exact ⟨rfl, RPost.fault (HKd.out.trans hk) (HSTEP.out.symm.trans (by rw [hr]))⟩
               obtain ⟨hk, j2, v2, rfl, hl, hj2, hrd, hv⟩ := hp.ok hr; subst hl; have HJ2 := Lib.hid (And.intro (con_item_f hr) hj2)
               obtain ⟨⟨xn, xh, xl, xg, xb, xq⟩, rfl, rfl, hpx⟩ := hv
               simp only [fnV, fnC]
               have HPX := Lib.hid hpx
               have HSR := Lib.hid (show joinI _ _ _ _ _ = r from (by have h := HSTEP.out; rw [hr] at h; exact h))
               clear hr; have HK3 := Lib.hid hk; have HH3 := Lib.hid hrd; have HP3 := Lib.hid (hk.kept HX1.out (by have := HNE.out.2.1; omega)); obtain ⟨d0, d1, d2, df, dl⟩ := cells3p HP3.out
               have hal := alloc_below W3 (.cells #[.string xn, .slice xh.oa xl.length xh.cap, .slice xg.oa xb.length xg.cap, .int .i64 xq] 68)
               have hrw3 := (HRd.out.keep hk.size fun x h1 h2 => hk.block x h2 (by have := HNE.out.2.1; omega)).keep (w' := W3.alloc (.cells #[.string xn, .slice xh.oa xl.length xh.cap, .slice xg.oa xb.length xg.cap, .int .i64 xq] 68)) hal.size fun x _ h2 => hal.block x h2
               have HRV := Lib.hid hrw3
               have HRW := Lib.hid (show (W3.alloc (.cells #[.string xn, .slice xh.oa xl.length xh.cap, .slice xg.oa xb.length xg.cap, .int .i64 xq] 68)).ownsRow (P + 1) 68 4 (.slice of mf cf) mf (fs.flatMap fnC) by have h := hrw3.o3; rw [HMF.out] at h; exact h)
               have HMX := Lib.hid (show mf + 1 ≤ maxLen ∧ (mf + 1) * 72 ≤ 140737488355328 ∧ P + 1 ≤ (W3.alloc (.cells #[.string xn, .slice xh.oa xl.length xh.cap, .slice xg.oa xb.length xg.cap, .int .i64 xq] 68)).heap.size by
                 have h1 := HR2.out.2.2.1; have h2 := HMF.out; have h3 := HH1d.out.ok.small; have h4 := HH1d.out.lt; have h5 := blk_lt HP3.out; have h6 := hal.size
                 exact ⟨by unfold maxLen; omega, by omega, by omega⟩)
               have HP4 := Lib.hid (show ∀ w4, (W3.alloc (.cells #[.string xn, .slice xh.oa xl.length xh.cap, .slice xg.oa xb.length xg.cap, .int .i64 xq] 68)).grownBy w4 (Value.slice of mf cf).ownBlock → w4.heap[P]? = some (.cells #[.slice os ms cs, .slice oe me ce, .slice of mf cf] 27) from fun w4 hg => (hg.block P (by have h5 := blk_lt HP3.out; have h6 := hal.size; omega) fun e => by have := (own_lt HRW.out e.symm).1; omega).trans ((hal.block P (blk_lt HP3.out)).trans HP3.out))
               clear hk hp hrd hj2 HC hal hrw3 hpx))
          all_goals
            have hg := HG4.out.1
            have hal := alloc_below W3 (.cells #[.string xn, .slice xh.oa xl.length xh.cap, .slice xg.oa xb.length xg.cap, .int .i64 xq] 68)
            have hbb := HNE.out
            have hge : ∀ x, (Value.slice of mf cf).ownBlock = some x → P + 1 ≤ x := fun x hx => (own_lt HRW.out hx).1
            have hP4 := HP4.out _ hg
            have hown := HOW.out
            have hsz0 := HSZ.out
            have hrd1 := HRd.out
            have hlt1 : ∀ x, ((Value.slice os ss.length cs).ownBlock = some x ∨ (Value.slice oe es.length ce).ownBlock = some x ∨ (Value.slice of fs.length cf).ownBlock = some x) → x < w1.drew.heap.size := fun x hx => by
              rcases hx with hx | hx | hx
              · exact (own_lt hrd1.o1 hx).2
              · exact (own_lt hrd1.o2 hx).2
              · exact (own_lt hrd1.o3 hx).2
            have hm := HMF.out
            have hgx := hg
            rw [← hm] at hown hgx
            have hpx := HPX.out
            have hux : Und (eb W3 w1.drew.heap.size none) (eb (W3.alloc (.cells #[.string xn, .slice xh.oa xl.length xh.cap, .slice xg.oa xb.length xg.cap, .int .i64 xq] 68)) w1.drew.heap.size none) := eb_und hal.size fun x hx h1 h2 => ⟨h1, h2, hal.block x hx⟩
            have hBs : P + 1 ≤ w1.drew.heap.size := by have := blk_lt HX1.out; omega
            have hpush := HRV.out.pushF (x := (⟨xn, xh, xl, xg, xb, xq⟩ : Fn5)) hBs hlt1 (FnH.und 181 _ _ _ hux hpx) hown hgx (fun x hx => by
              have h1 := HG4.out.2
              rw [hm] at hx ⊢
              have h2 : g4 = x := by simpa [Value.ownBlock] using hx
              rw [← h2]
              rcases h1 with h1 | h1
              · exact .inl h1
              · exact .inr (by omega))
            obtain ⟨v5, hv5⟩ : ∃ v5, v5 = Value.slice (some ⟨g4, 0, none⟩) (mf + 1) c4 := ⟨_, rfl⟩
            have hn5 : ∀ x, x ≠ P → (w4.setCell ⟨P, 2, none⟩ v5).heap[x]? = w4.heap[x]? := fun x hx => Below.heap_setCell _ _ _ _ hx
            have hs5 : w4.heap.size ≤ (w4.setCell ⟨P, 2, none⟩ v5).heap.size := by simp [World.setCell]
            have hb5 : Below P w4 (w4.setCell ⟨P, 2, none⟩ v5) := ⟨rfl, rfl, rfl, hs5, fun x hx => hn5 x (by omega)⟩
            have hX5 : (w4.setCell ⟨P, 2, none⟩ v5).heap[P]? = some (.cells #[.slice os ms cs, .slice oe me ce, v5] 27) := by
              have := heap_setCell_same w4 P 2 _ _ v5 hP4
              simpa using this
            have hB3 : W3.heap[B]? = some (.cells #[.slice none 0 0, .slice none 0 0, .slice none 0 0] 27) := HK3.out.kept HXB1.out HBb.out.1
            have hB5 : (w4.setCell ⟨P, 2, none⟩ v5).heap[B]? = some (.cells #[.slice none 0 0, .slice none 0 0, .slice none 0 0] 27) :=
              (hn5 B (by omega)).trans ((hg.block B (by have := blk_lt hB3; have := hal.size; omega) fun e => by have := hge B e.symm; omega).trans ((hal.block B (blk_lt hB3)).trans hB3))
            have hrow5 := hpush.keep (w' := w4.setCell ⟨P, 2, none⟩ v5) hs5 fun x h1 _ => hn5 x (by omega)
            have hrd5 := ((HH3.out.under hal).grown hg hge (by omega) (by omega) (by have := HBb.out.2.2.1; omega) HMX.out.2.2).setNew (k := P) (by omega) 2 v5 hP4 (by omega) (by have := HBb.out.2.2.1; omega)
            have hk5 := ((((Ko.of (HKd.out.trans HK3.out)).trans (Ko.of (Kb.of_below hal))).grown (o := none) hg fun x hx => by have := hge x hx; omega).kb).box (by omega) hb5 hn5
            have hjj := HJ2.out
            have hsr := HSR.out
            have hst := And.intro hX5 (And.intro hB5 (And.intro hrow5 (And.intro hrd5 (And.intro hk5 (And.intro hsr hjj)))))
            rw [← hv5]
            have HST := Lib.hid hst
            have HV5 := Lib.hid hv5
            clear hg hal hbb hge hP4 hown hgx hpush hn5 hs5 hb5 hX5 hB3 hB5 hrow5 hrd5 hk5 hjj hst hv5 hsr hi1 hi2 hi3 hi4 hux hBs hpx hm hsz0 hlt1 hrd1
            go_roundw
            case rel =>
              obtain ⟨g1, g2, g3, g4', g5, g6, g7⟩ := HST.out
              have hm := HMF.out
              have hms := HMS.out
              have hme := HME.out
              have hmf := HMF.out
              have hv := HV5.out
              subst hv
              refine ⟨_, _, _, _, _, _, _, _, _, _, _, _, _, _, _, _, _, _, _, _, _, _, _, _, _, _, _, _, _, _, _, _, _, _, _, _, _, _, ?_, rfl⟩
              refine ⟨j2, k', ss, es, fs ++ [(⟨xn, xh, xl, xg, xb, xq⟩ : Fn5)], os, oe, some ⟨g4, 0, none⟩, cs, ce, c4, ?_, g2, ?_, g4', g5, ?_, ?_, ?_, ?_⟩
              · rw [hms, hme, hmf] at *
                simpa [hm] using g1
              · rw [hms, hme, hmf] at *
                simpa [hm] using g3
              · have := HR2.out.2.2.2.2.2; have := g7.2; omega
              · have h1 := HR2.out.2.1; have h2 := g7.1; rw [List.length_drop] at h1 h2 ⊢; rw [List.length_drop] at h2; omega
              · have h1 := HR2.out.2.2.1; have := g7.2; have := g7.2; simp; omega
              · rw [← g6]; simp [List.map_append]
            case measure =>
              obtain ⟨g1, g2, g3, g4', g5, g6, g7⟩ := HST.out
              have e1 := (cells3p g4'.at_).2.1
              have e2 := (cells3p HRD.out.at_).2.1
              simp only [e1, e2]
              have h9 := g4'.lt
              have h8 := g7.1
              have h7 := HRD.out.lt
              rw [List.length_drop, List.length_drop] at h8
              simp only [Int.toNat_natCast]
              omega
        · have HW2 := Lib.hid hw2
          have hst := joinI_s (ss := ss.map erSu) (es := es.map erEn) (fs := fs.map erFn) (k := k') HNE0.out (by rw [HTH.out]; exact HW1.out) (by rw [HTH.out]; exact hw2)
          rw [HR2.out.1] at hst
          have HSTEP := Lib.hid hst.symm
          clear hw2 hst
          have S0 := Lib.hid True.intro
          go_upto_region 4 with (first | (clear S0; go_at_call 171; refine (next_pos HRD.out HTT.out).mono ?_; rintro e u1 ⟨rfl, hb⟩; have HB1 := Lib.hid hb; have HHu1 := Lib.hid (HRD.out.under hb); have S1 := Lib.hid True.intro; clear hb) | (clear S1; go_at_call 171; refine (next_pos HHu1.out HTT.out).mono ?_; rintro e u2 ⟨rfl, hb⟩; have HB2 := Lib.hid (HB1.out.trans (hb.mono HB1.out.size)); have HHu2 := Lib.hid (HHu1.out.under hb); have S2 := Lib.hid True.intro; clear hb) | (clear S2; go_at_call 172; refine (takes_any HHu2.out HTT.out wEnum (by decide)).mono ?_; rintro e u3 ⟨-, h1⟩; obtain ⟨rfl, hb⟩ := h1 HW1.out; have HB3 := Lib.hid (HB2.out.trans (hb.mono HB2.out.size)); have HHu3 := Lib.hid (HHu2.out.under hb); have S3 := Lib.hid True.intro; clear h1 hb) | (clear S3; go_at_call 172; refine (takes_any HHu3.out HTT.out wCo (by decide)).mono ?_; rintro e w1 ⟨-, h1⟩; obtain ⟨rfl, hb⟩ := h1 HW2.out; have HK1' := Lib.hid (Kb.of_below (b := b) (HB3.out.trans (hb.mono HB3.out.size))); have HH1' := Lib.hid (HHu3.out.under hb); clear h1 hb))
          clear hfk hfp hkt
          have HX1 := Lib.hid (show w1.drew.heap[P]? = some (.cells #[.slice os ms cs, .slice oe me ce, .slice of mf cf] 27) from HK1'.out.kept HX.out.1 (by have := HNE.out.2.1; omega))
          have HXB1 := Lib.hid (show w1.drew.heap[B]? = some (.cells #[.slice none 0 0, .slice none 0 0, .slice none 0 0] 27) from HK1'.out.kept HX.out.2 HBb.out.1)
          have HH1d := Lib.hid HH1'.out.dr
          have HKd := Lib.hid (show Kb b w w1.drew from (HKO.out.trans HK1'.out).drew)
          have HRd := Lib.hid (HRO.out.keep (w' := w1.drew) HK1'.out.size fun x h1 h2 => HK1'.out.block x h2 (by have := HNE.out.2.1; omega))
          have HSZ := Lib.hid (show wr.heap.size ≤ w1.drew.heap.size from HK1'.out.size)
          have hc := r_struct HH1d.out (by rw [HTH.out])
          have HC := Lib.hid hc
          clear hc
          obtain ⟨e0, e1, e2, ef, el⟩ := cells3p HX1.out
          obtain ⟨hi1, hi2, hi3, hi4⟩ := HIS.out
          go_region_law (first
            | (refine step_append_lies _ rfl (.tmp 13) (.tmp 17) 23 rfl (P + 1) 47 iiS _ 4 56 Tryz.underlying23 hi1 hi2 hi3 hi4 rfl (by decide) (.slice os ms cs) ms (ss.flatMap suC) (by simp [Act.eval]) (by exact HRW.out) ⟨W3.heap.size, 0, none⟩ 1 1 [.string xn, .bool xd, .slice xh.oa xl.length xh.cap, .int .i64 xq] (by simp [Act.eval]) rfl (by exact new_cells W3 [.string xn, .bool xd, .slice xh.oa xl.length xh.cap, .int .i64 xq] 47 _ rfl) (by first | exact ⟨rfl, rfl, rfl, rfl⟩ | (intro u hu; simp at hu; rcases hu with rfl | rfl | rfl | rfl <;> rfl) | (intro u hu; simp at hu; rcases hu with rfl | rfl | rfl <;> rfl) | (intro u hu; simp at hu; rcases hu with rfl | rfl <;> rfl)) (by decide) (by exact HMX.out.1) (by exact HMX.out.2.1) (by exact HMX.out.2.2) _ rfl ?_; intro g4 c4 w4 hown hg hgo hlt4; have HOW := Lib.hid hown; have HG4 := Lib.hid (And.intro hg hgo); obtain ⟨f0, f1, f2, ff, fl⟩ := cells3p (HP4.out _ hg); clear hown hg hgo hlt4)
            | (go_simp; go_at_call 175; refine HC.out.mono ?_; rintro e W3 hp
               rcases hr : structR (ts.drop j) with ⟨a2, l2⟩ | ⟨er, p⟩
               rotate_left
               · obtain ⟨he, hk⟩ := hp.no hr
                 unfold faultE at he
                 subst he
                 exact ⟨rfl, RPost.fault (HKd.out.trans hk) (HSTEP.out.symm.trans (by rw [hr]))⟩
               obtain ⟨hk, j2, v2, rfl, hl, hj2, hrd, hv⟩ := hp.ok hr; subst hl; have HJ2 := Lib.hid (And.intro (con_item_s hr) hj2)
               obtain ⟨⟨xn, xd, xh, xl, xq⟩, rfl, rfl, hpx⟩ := hv
               simp only [suV, suC]
               have HPX := Lib.hid hpx
               have HSR := Lib.hid (show joinI _ _ _ _ _ = r from (by have h := HSTEP.out; rw [hr] at h; exact h))
               clear hr; have HK3 := Lib.hid hk; have HH3 := Lib.hid hrd; have HP3 := Lib.hid (hk.kept HX1.out (by have := HNE.out.2.1; omega)); obtain ⟨d0, d1, d2, df, dl⟩ := cells3p HP3.out
               have hal := alloc_below W3 (.cells #[.string xn, .bool xd, .slice xh.oa xl.length xh.cap, .int .i64 xq] 47)
               have hrw3 := (HRd.out.keep hk.size fun x h1 h2 => hk.block x h2 (by have := HNE.out.2.1; omega)).keep (w' := W3.alloc (.cells #[.string xn, .bool xd, .slice xh.oa xl.length xh.cap, .int .i64 xq] 47)) hal.size fun x _ h2 => hal.block x h2
               have HRV := Lib.hid hrw3
               have HRW := Lib.hid (show (W3.alloc (.cells #[.string xn, .bool xd, .slice xh.oa xl.length xh.cap, .int .i64 xq] 47)).ownsRow (P + 1) 47 4 (.slice os ms cs) ms (ss.flatMap suC) by have h := hrw3.o1; rw [HMS.out] at h; exact h)
               have HMX := Lib.hid (show ms + 1 ≤ maxLen ∧ (ms + 1) * 56 ≤ 140737488355328 ∧ P + 1 ≤ (W3.alloc (.cells #[.string xn, .bool xd, .slice xh.oa xl.length xh.cap, .int .i64 xq] 47)).heap.size by
                 have h1 := HR2.out.2.2.1; have h2 := HMS.out; have h3 := HH1d.out.ok.small; have h4 := HH1d.out.lt; have h5 := blk_lt HP3.out; have h6 := hal.size
                 exact ⟨by unfold maxLen; omega, by omega, by omega⟩)
               have HP4 := Lib.hid (show ∀ w4, (W3.alloc (.cells #[.string xn, .bool xd, .slice xh.oa xl.length xh.cap, .int .i64 xq] 47)).grownBy w4 (Value.slice os ms cs).ownBlock → w4.heap[P]? = some (.cells #[.slice os ms cs, .slice oe me ce, .slice of mf cf] 27) from fun w4 hg => (hg.block P (by have h5 := blk_lt HP3.out; have h6 := hal.size; omega) fun e => by have := (own_lt HRW.out e.symm).1; omega).trans ((hal.block P (blk_lt HP3.out)).trans HP3.out))
               clear hk hp hrd hj2 HC hal hrw3 hpx))
          all_goals
            have hg := HG4.out.1
            have hal := alloc_below W3 (.cells #[.string xn, .bool xd, .slice xh.oa xl.length xh.cap, .int .i64 xq] 47)
            have hbb := HNE.out
            have hge : ∀ x, (Value.slice os ms cs).ownBlock = some x → P + 1 ≤ x := fun x hx => (own_lt HRW.out hx).1
            have hP4 := HP4.out _ hg
            have hown := HOW.out
            have hsz0 := HSZ.out
            have hrd1 := HRd.out
            have hlt1 : ∀ x, ((Value.slice os ss.length cs).ownBlock = some x ∨ (Value.slice oe es.length ce).ownBlock = some x ∨ (Value.slice of fs.length cf).ownBlock = some x) → x < w1.drew.heap.size := fun x hx => by
              rcases hx with hx | hx | hx
              · exact (own_lt hrd1.o1 hx).2
              · exact (own_lt hrd1.o2 hx).2
              · exact (own_lt hrd1.o3 hx).2
            have hm := HMS.out
            have hgx := hg
            rw [← hm] at hown hgx
            have hpx := HPX.out
            have hux : Und (eb W3 w1.drew.heap.size none) (eb (W3.alloc (.cells #[.string xn, .bool xd, .slice xh.oa xl.length xh.cap, .int .i64 xq] 47)) w1.drew.heap.size none) := eb_und hal.size fun x hx h1 h2 => ⟨h1, h2, hal.block x hx⟩
            have hBs : P + 1 ≤ w1.drew.heap.size := by have := blk_lt HX1.out; omega
            have hpush := HRV.out.pushS (x := (⟨xn, xd, xh, xl, xq⟩ : Su5)) hBs hlt1 (SuH.und 62 _ _ _ hux hpx) hown hgx (fun x hx => by
              have h1 := HG4.out.2
              rw [hm] at hx ⊢
              have h2 : g4 = x := by simpa [Value.ownBlock] using hx
              rw [← h2]
              rcases h1 with h1 | h1
              · exact .inl h1
              · exact .inr (by omega))
            obtain ⟨v5, hv5⟩ : ∃ v5, v5 = Value.slice (some ⟨g4, 0, none⟩) (ms + 1) c4 := ⟨_, rfl⟩
            have hn5 : ∀ x, x ≠ P → (w4.setCell ⟨P, 0, none⟩ v5).heap[x]? = w4.heap[x]? := fun x hx => Below.heap_setCell _ _ _ _ hx
            have hs5 : w4.heap.size ≤ (w4.setCell ⟨P, 0, none⟩ v5).heap.size := by simp [World.setCell]
            have hb5 : Below P w4 (w4.setCell ⟨P, 0, none⟩ v5) := ⟨rfl, rfl, rfl, hs5, fun x hx => hn5 x (by omega)⟩
            have hX5 : (w4.setCell ⟨P, 0, none⟩ v5).heap[P]? = some (.cells #[v5, .slice oe me ce, .slice of mf cf] 27) := by
              have := heap_setCell_same w4 P 0 _ _ v5 hP4
              simpa using this
            have hB3 : W3.heap[B]? = some (.cells #[.slice none 0 0, .slice none 0 0, .slice none 0 0] 27) := HK3.out.kept HXB1.out HBb.out.1
            have hB5 : (w4.setCell ⟨P, 0, none⟩ v5).heap[B]? = some (.cells #[.slice none 0 0, .slice none 0 0, .slice none 0 0] 27) :=
              (hn5 B (by omega)).trans ((hg.block B (by have := blk_lt hB3; have := hal.size; omega) fun e => by have := hge B e.symm; omega).trans ((hal.block B (blk_lt hB3)).trans hB3))
            have hrow5 := hpush.keep (w' := w4.setCell ⟨P, 0, none⟩ v5) hs5 fun x h1 _ => hn5 x (by omega)
            have hrd5 := ((HH3.out.under hal).grown hg hge (by omega) (by omega) (by have := HBb.out.2.2.1; omega) HMX.out.2.2).setNew (k := P) (by omega) 0 v5 hP4 (by omega) (by have := HBb.out.2.2.1; omega)
            have hk5 := ((((Ko.of (HKd.out.trans HK3.out)).trans (Ko.of (Kb.of_below hal))).grown (o := none) hg fun x hx => by have := hge x hx; omega).kb).box (by omega) hb5 hn5
            have hjj := HJ2.out
            have hsr := HSR.out
            have hst := And.intro hX5 (And.intro hB5 (And.intro hrow5 (And.intro hrd5 (And.intro hk5 (And.intro hsr hjj)))))
            rw [← hv5]
            have HST := Lib.hid hst
            have HV5 := Lib.hid hv5
            clear hg hal hbb hge hP4 hown hgx hpush hn5 hs5 hb5 hX5 hB3 hB5 hrow5 hrd5 hk5 hjj hst hv5 hsr hi1 hi2 hi3 hi4 hux hBs hpx hm hsz0 hlt1 hrd1
            go_roundw
            case rel =>
              obtain ⟨g1, g2, g3, g4', g5, g6, g7⟩ := HST.out
              have hm := HMS.out
              have hms := HMS.out
              have hme := HME.out
              have hmf := HMF.out
              have hv := HV5.out
              subst hv
              refine ⟨_, _, _, _, _, _, _, _, _, _, _, _, _, _, _, _, _, _, _, _, _, _, _, _, _, _, _, _, _, _, _, _, _, _, _, _, _, _, ?_, rfl⟩
              refine ⟨j2, k', ss ++ [(⟨xn, xd, xh, xl, xq⟩ : Su5)], es, fs, some ⟨g4, 0, none⟩, oe, of, c4, ce, cf, ?_, g2, ?_, g4', g5, ?_, ?_, ?_, ?_⟩
              · rw [hms, hme, hmf] at *
                simpa [hm] using g1
              · rw [hms, hme, hmf] at *
                simpa [hm] using g3
              · have := HR2.out.2.2.2.2.2; have := g7.2; omega
              · have h1 := HR2.out.2.1; have h2 := g7.1; rw [List.length_drop] at h1 h2 ⊢; rw [List.length_drop] at h2; omega
              · have h1 := HR2.out.2.2.1; have := g7.2; have := (show j < j2 by have h9 := g7.1; have h8 := g4'.lt; rw [List.length_drop, List.length_drop] at h9; omega); simp; omega
              · rw [← g6]; simp [List.map_append]
            case measure =>
              obtain ⟨g1, g2, g3, g4', g5, g6, g7⟩ := HST.out
              have e1 := (cells3p g4'.at_).2.1
              have e2 := (cells3p HRD.out.at_).2.1
              simp only [e1, e2]
              have h9 := g4'.lt
              have h8 := g7.1
              have h7 := HRD.out.lt
              rw [List.length_drop, List.length_drop] at h8
              simp only [Int.toNat_natCast]
              omega
end Go.Proofs.YtggdpgaedmegbaaGreatDoor
