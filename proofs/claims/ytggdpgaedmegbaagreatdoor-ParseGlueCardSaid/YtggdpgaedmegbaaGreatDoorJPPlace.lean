/-
  Places: a name, and steps behind it. Conditions: the reader lies in the heap.
-/
import Derived.Test.YtggdpgaedmegbaaGreatDoorJPSoV
import Derived.Deep.AppendLies
import Derived.Deep.RegionLaw
namespace Go.Proofs.YtggdpgaedmegbaaGreatDoor
open Go.RowKit

/-- a place's value is this and nothing else -/
def VPl0 (_ : World) (_ : Nat) (v : Value) (a : Pl5) : Prop := v = plV a
set_option maxRecDepth 100000 in
set_option maxHeartbeats 4000000 in
theorem r_alone0 {w : World} {b g cap : Nat} {ts : List Tok} {i dp : Nat} (H : RdAt w b g cap ts i dp) :
    Calls Tryz.prog 328 #[.pointer (some ⟨b, 0, none⟩)] w (RPost w b g cap ts i dp (aloneR (ts.drop i)) VPl0) := by
  obtain ⟨r, hQ⟩ : ∃ r, aloneR (ts.drop i) = r := ⟨_, rfl⟩
  rw [hQ]
  have HQ := Lib.hid hQ
  clear hQ
  have HGB := Lib.hid (And.intro H.toks.1 H.vars.size)
  have HBW := Lib.hid (show b < w.heap.size from (Array.getElem?_eq_some_iff.1 H.at_).1)
  have HJ0 := Lib.hid (Nat.le_refl i)
  obtain ⟨W0, hW⟩ : ∃ W0, W0 = w.alloc (.cells #[.string ⟨#[]⟩, .slice none 0 0] 100) := ⟨_, rfl⟩
  have hbW : Below w.heap.size w W0 := by rw [hW]; exact alloc_below _ _
  have hx0 : W0.heap[w.heap.size]? = some (.cells #[.string ⟨#[]⟩, .slice none 0 0] 100) := by rw [hW, heap_alloc_new]
  have HH0 := Lib.hid (H.under hbW)
  have HK0 := Lib.hid (Kb.of_below (b := b) hbW)
  obtain ⟨B, hB⟩ : ∃ B, B = w.heap.size := ⟨_, rfl⟩
  rw [← hB] at hx0
  have HX0 := Lib.hid hx0
  clear hbW hx0 H
  go_enter Tryz.func328, Tryz.ntmps328
  go_upto_region 1 with fail
  rw [← hW]
  simp only [← hB]
  clear hW
  have HBb := Lib.hid (show B ≠ b ∧ g ≠ B ∧ nG ≤ B ∧ w.heap.size ≤ B by have h1 := HBW.out; have h2 := HGB.out; rw [hB]; exact ⟨by omega, by omega, h2.2, Nat.le_refl _⟩)
  replace hB := Lib.hid hB
  have hc := r_small HH0.out
  have HC := Lib.hid hc
  clear hc
  rcases hr : smallR (ts.drop i) with ⟨a1, l1⟩ | ⟨er, p⟩
  rotate_left
  · have HR := Lib.hid hr
    clear hr
    go_wp2_with (go_at_call 240; refine HC.out.mono ?_; rintro e W1 hp; obtain ⟨he, hk⟩ := hp.no HR.out; unfold faultE at he; subst he; have HK1 := Lib.hid (HK0.out.trans hk); clear hk hp HC)
    exact ⟨rfl, RPost.fault HK1.out (HQ.out.symm.trans (bind_no HR.out))⟩
  have HR := Lib.hid hr
  clear hr
  go_wp2_with
    (first
      | (go_at_call 240; refine HC.out.mono ?_; rintro e W1 hp; obtain ⟨hk, j1, v1, rfl, hl, hj, hrd, hv⟩ := hp.ok HR.out; subst hl; unfold VStr at hv; subst hv; have HK1 := Lib.hid (HK0.out.trans hk); have HKK1 := Lib.hid hk; have HH1 := Lib.hid hrd; have HJ1 := Lib.hid (Nat.le_trans HJ0.out hj); have HX1 := Lib.hid (hk.kept HX0.out HBb.out.1); clear hk hp hrd hj HC)
      | (refine wpList_store_box rfl 100 (.tmp 2) (.tmp 5) rfl B 0 rfl (.agg #[.string a1, .slice none 0 0]) rfl [.string a1, .slice none 0 0] rfl [.string ⟨#[]⟩, .slice none 0 0] 100 HX1.out (Nat.le_refl _) (show (Tryz.prog.info? 100).map (·.size) = some 2 by kernel_rfl) ?c1 B (Nat.le_refl _) W1 (Below.refl _ _) ?_))
  case c1 => first | exact rfl | exact ⟨rfl, rfl⟩ | exact ⟨rfl, rfl, rfl⟩ | exact ⟨rfl, rfl, rfl, rfl⟩ | exact ⟨rfl, rfl, rfl, rfl, rfl⟩ | exact ⟨rfl, rfl, rfl, rfl, rfl, rfl⟩ | (intro v hv; simp at hv; first | (rcases hv with rfl | rfl | rfl | rfl | rfl | rfl <;> rfl) | (rcases hv with rfl | rfl | rfl | rfl | rfl <;> rfl) | (rcases hv with rfl | rfl | rfl | rfl <;> rfl) | (rcases hv with rfl | rfl | rfl <;> rfl) | (rcases hv with rfl | rfl <;> rfl) | (subst hv; rfl))
  intro WF hb hbx hoth
  have HF := Lib.hid (And.intro (HK1.out.box HBb.out.2.2.2 hb hoth) (HH1.out.box hb hoth HBb.out.1.symm HBb.out.2.1 HBb.out.2.2.1))
  clear hb
  obtain ⟨q0, q1, qf, ql⟩ := cells2p (show WF.heap[B]? = some (.cells #[.string a1, .slice none 0 0] 100) from hbx)
  go_wp2
  exact bodyPost_ret (v := .agg #[.string a1, .slice none 0 0]) (by simp [results, Tryz.results328, go_sem, q0, q1]) rfl (RPost.done HF.out.1 (HQ.out.symm.trans (map_ok HR.out)) HJ1.out HF.out.2 rfl)
def finP (s : ByteArray) : Rs (List ByteArray) → Rs Pl5
  | .ok p l => .ok ⟨s, h0, p⟩ l
  | .no e p => .no e p
theorem info_step : (Tryz.prog.info? 332).map (fun i => (i.zero, i.size, i.bytes)) = some (some (.agg #[.string ⟨#[]⟩]), 1, 16) := by kernel_rfl
theorem len_step {l : List Tok} {a : ByteArray} {r : List Tok} (h : stepR l = .ok a r) : r.length < l.length := by
  have h1 : Con stepR := con_opt (by decide) (len_pure _) ru_small.con
  exact h1 l a r h
set_option maxRecDepth 100000 in
set_option maxHeartbeats 4000000 in
theorem r_place {w : World} {b g cap : Nat} {ts : List Tok} {i dp : Nat} (H : RdAt w b g cap ts i dp) :
    Calls Tryz.prog 332 #[.pointer (some ⟨b, 0, none⟩)] w (RPost w b g cap ts i dp (placeR (ts.drop i)) VPl) := by
  obtain ⟨r, hQ⟩ : ∃ r, placeR (ts.drop i) = r := ⟨_, rfl⟩
  rw [hQ]
  have HQ := Lib.hid hQ
  clear hQ
  have HGB := Lib.hid (And.intro H.toks.1 H.vars.size)
  have HBW := Lib.hid (show b < w.heap.size from (Array.getElem?_eq_some_iff.1 H.at_).1)
  obtain ⟨ii, hi1, hi2, hi3, hi4⟩ := info_parts info_step
  have HI := Lib.hid (And.intro hi1 (And.intro hi2 (And.intro hi3 hi4)))
  clear hi1 hi2 hi3 hi4
  obtain ⟨W0, hW⟩ : ∃ W0, W0 = w.alloc (.cells #[.string ⟨#[]⟩, .slice none 0 0] 100) := ⟨_, rfl⟩
  have hbW : Below w.heap.size w W0 := by rw [hW]; exact alloc_below _ _
  have hx0 : W0.heap[w.heap.size]? = some (.cells #[.string ⟨#[]⟩, .slice none 0 0] 100) := by rw [hW, heap_alloc_new]
  have HH0 := Lib.hid (H.under hbW)
  have HK0 := Lib.hid (Kb.of_below (b := b) hbW)
  obtain ⟨B, hB⟩ : ∃ B, B = w.heap.size := ⟨_, rfl⟩
  rw [← hB] at hx0
  have HX0 := Lib.hid hx0
  clear hbW hx0 H
  go_enter Tryz.func332, Tryz.ntmps332
  go_upto_region 1 with fail
  rw [← hW]
  simp only [← hB]
  clear hW
  have HBb := Lib.hid (show B ≠ b ∧ g ≠ B ∧ nG ≤ B ∧ w.heap.size ≤ B by have h1 := HBW.out; have h2 := HGB.out; rw [hB]; exact ⟨by omega, by omega, h2.2, Nat.le_refl _⟩)
  replace hB := Lib.hid hB
  have hc := r_alone0 HH0.out
  have HC := Lib.hid hc
  clear hc
  rcases hr : aloneR (ts.drop i) with ⟨a1, l1⟩ | ⟨er, p⟩
  rotate_left
  · have HR := Lib.hid hr
    clear hr
    have hrr : r = .no er p := by
      rw [← HQ.out]
      have h1 := HR.out
      unfold aloneR at h1
      unfold placeR
      rcases hs : smallR (ts.drop i) with ⟨s, l⟩ | ⟨e2, p2⟩
      · rw [map_ok hs] at h1
        cases h1
      · rw [map_no hs] at h1
        cases h1
        exact bind_no hs
    have HRR := Lib.hid hrr
    clear hrr
    go_wp2_with (go_at_call 328; refine HC.out.mono ?_; rintro e W1 hp; obtain ⟨he, hk⟩ := hp.no HR.out; unfold faultE at he; subst he; have HK1 := Lib.hid (HK0.out.trans hk); clear hk hp HC)
    exact ⟨rfl, RPost.fault HK1.out HRR.out⟩
  obtain ⟨s, hs1, hs2⟩ : ∃ s, a1 = ⟨s, h0, []⟩ ∧ smallR (ts.drop i) = .ok s l1 := by
    unfold aloneR at hr
    rcases hs : smallR (ts.drop i) with ⟨s, l⟩ | ⟨e2, p2⟩
    · rw [map_ok hs] at hr
      cases hr
      exact ⟨s, rfl, rfl⟩
    · rw [map_no hs] at hr
      cases hr
  subst hs1
  have HR := Lib.hid hr
  have hq := HQ.out
  unfold placeR at hq
  rw [bind_ok hs2] at hq
  have HQ1 := Lib.hid hq
  clear hr hs2 HQ hq
  go_wp2_with (first
    | (go_at_call 328; refine HC.out.mono ?_; rintro e W1 hp; obtain ⟨hk, j1, v1, rfl, hl, hj, hrd, hv⟩ := hp.ok HR.out; subst hl; have hv' : v1 = .agg #[.string s, .slice none 0 0] := hv; subst hv'; have HK1 := Lib.hid (HK0.out.trans hk); have HH1 := Lib.hid hrd; have HJ1 := Lib.hid hj; have HX1 := Lib.hid (hk.kept HX0.out HBb.out.1); clear hk hp hrd hj hv HC)
    | (refine wpList_store_box rfl 100 (.tmp 3) (.tmp 5) rfl W1.heap.size 0 rfl (.agg #[.string s, .slice none 0 0]) rfl [.string s, .slice none 0 0] rfl [.string ⟨#[]⟩, .slice none 0 0] 100 (heap_alloc_new W1 (.cells #[.string ⟨#[]⟩, .slice none 0 0] 100)) (Nat.le_refl _) (show (Tryz.prog.info? 100).map (·.size) = some 2 by kernel_rfl) ?c1 W1.heap.size (Nat.le_refl _) (W1.alloc (.cells #[.string ⟨#[]⟩, .slice none 0 0] 100)) (Below.refl _ _) ?_))
  case c1 => first | exact ⟨rfl, rfl⟩ | (intro v hv; simp at hv; rcases hv with rfl | rfl <;> rfl)
  intro W2 hb hbx hoth
  obtain ⟨O, hO⟩ : ∃ O, O = Obj.cells #[.string ⟨#[]⟩, .slice none 0 0] 100 := ⟨_, rfl⟩
  rw [← hO] at hb hoth
  clear hO
  obtain ⟨P, hP⟩ : ∃ P, P = W1.heap.size := ⟨_, rfl⟩
  rw [← hP] at hb hbx hoth
  simp only [← hP]
  have hal := alloc_below W1 O
  rw [← hP] at hal
  have hBP : B < P := by rw [hP]; exact blk_lt HX1.out
  have hbP : b < P := by rw [hP]; exact blk_lt HH1.out.at_
  have hgP : g < P := by rw [hP]; exact HH1.out.toks.1
  have hwP : w.heap.size ≤ P := by rw [hP]; exact HK1.out.size
  have HB2 := Lib.hid (hal.trans hb)
  have HXP := Lib.hid (show W2.heap[P]? = some (.cells #[.string s, .slice none 0 0] 100) from hbx)
  have HX2 := Lib.hid ((HB2.out.block B hBP).trans HX1.out)
  have HH2 := Lib.hid (show RdAt W2 b g cap ts j1 dp by have h1 := HH1.out; exact h1.keep (Kb.of_below (hP ▸ HB2.out)) ((HB2.out.block b hbP).trans h1.at_) h1.lt)
  have HK2 := Lib.hid (show Kb b w W2 from HK1.out.trans (Kb.of_below (hP ▸ HB2.out)))
  have HNE := Lib.hid (And.intro hBP (And.intro hbP (And.intro hgP hwP)))
  clear hal hb hbx hoth hBP hbP hgP hwP
  have HPW := Lib.hid hP
  clear hP
  go_wp2_with fail
  go_loopw [6] (fun _ wr => ∃ (j k : Nat) (xs : List ByteArray) (oo : Option Addr) (cc : Nat), wr.heap[P]? = some (.cells #[.string s, .slice oo xs.length cc] 100) ∧ wr.heap[B]? = some (.cells #[.string ⟨#[]⟩, .slice none 0 0] 100) ∧ RowV wr (P + 1) 332 1 (.slice oo xs.length cc) stepC (fun _ _ => True) xs ∧ RdAt wr b g cap ts j dp ∧ Kb b w wr ∧ i ≤ j ∧ (ts.drop j).length ≤ k ∧ xs.length ≤ j ∧ finP s (preR xs (pathR k (ts.drop j))) = r) (fun _ wr => match wr.cell? ⟨b, 1, none⟩ with | some (.int _ q) => ts.length - q.toNat | _ => 0)
  case atStart => exact ⟨j1, _, [], none, 0, HXP.out, HX2.out, RowV.nil, HH2.out, HK2.out, HJ1.out, Nat.le_refl _, Nat.zero_le _, by
    rw [preR_nil, ← HQ1.out]
    rcases hp : pathR (ts.drop j1).length (ts.drop j1) with ⟨p, l⟩ | ⟨e, q⟩
    · exact (map_ok (R := fun l => pathR l.length l) hp).symm
    · exact (map_no (R := fun l => pathR l.length l) hp).symm⟩
  case round =>
    obtain ⟨j, k, xs, oo, cc, hx, hxb, hrow, hrd, hko, hj, hk, hxj, hr⟩ := hrel
    obtain ⟨t, ht, hh, -⟩ := hrd.tok
    have hlt := hrd.lt
    obtain ⟨k', rfl⟩ : ∃ k', k = k' + 1 := ⟨k - 1, by rw [List.length_drop] at hk; omega⟩
    obtain ⟨m, hm⟩ : ∃ m, xs.length = m := ⟨_, rfl⟩
    rw [hm] at hx
    have HRO := Lib.hid hrow
    have HRD := Lib.hid hrd
    have HKO := Lib.hid hko
    have HX := Lib.hid (And.intro hx hxb)
    have HR2 := Lib.hid (And.intro hr (And.intro hk (And.intro hxj (And.intro ht (And.intro hh (And.intro hm hj))))))
    have HTK := Lib.hid (takes_any hrd ht wDot (by decide))
    have hrc : pathR (k' + 1) (ts.drop j) = if t.text = wDot then bindR stepR (fun a => mapR (pathR k') fun r => a :: r) (ts.drop (j + 1)) else .ok [] (ts.drop j) := by
      rw [pathR]
      unfold optR
      rw [hh, drop_tail]
      rfl
    have HRC := Lib.hid hrc
    have HPB := Lib.hid (blk_lt hx)
    clear hrow hrd hko hx hxb hr hk hxj ht hh hm hj hlt hrc
    by_cases hts : t.text = wDot
    rotate_left
    · have HTS := Lib.hid hts
      clear hts
      go_upto_region 4 with (go_at_call 172; refine HTK.out.mono ?_; rintro e1 w1 ⟨-, h1⟩; obtain ⟨rfl, hb1⟩ := h1 HTS.out; have HB1 := Lib.hid hb1; clear h1 hb1 HTK)
      have HX1 := Lib.hid ((HB1.out.block _ (blk_lt HX.out.1)).trans HX.out.1)
      have HXB1 := Lib.hid ((HB1.out.block _ (blk_lt HX.out.2)).trans HX.out.2)
      obtain ⟨e0, e1, ef, el⟩ := cells2p HX1.out
      go_wp2_with (refine wpList_store_box rfl 100 (.tmp 2) (.tmp 15) rfl B 0 rfl (.agg #[.string s, .slice oo m cc]) rfl [.string s, .slice oo m cc] rfl [.string ⟨#[]⟩, .slice none 0 0] 100 HXB1.out (Nat.le_refl _) (show (Tryz.prog.info? 100).map (·.size) = some 2 by kernel_rfl) ?c1 B (Nat.le_refl _) w1 (Below.refl _ _) ?_)
      case c1 => first | exact ⟨rfl, rfl⟩ | (intro v hv; simp at hv; rcases hv with rfl | rfl <;> rfl)
      intro WF hb hbx hoth
      have hrv := HRO.out.keepG (w' := w1) stepMono HB1.out.size fun x _ h2 => HB1.out.block x h2
      have HF := Lib.hid (And.intro ((HKO.out.trans (Kb.of_below HB1.out)).box HBb.out.2.2.2 hb hoth) ((HRD.out.under HB1.out).box hb hoth HBb.out.1.symm HBb.out.2.1 HBb.out.2.2.1))
      obtain ⟨hh3, xs3, hv3, hm3, hr3⟩ := hrv.row stepC_len stepMono id
      rw [List.map_id, List.map_id] at hm3
      subst hm3
      have hRow := Row.und hr3 (und_box (B' := w.heap.size) hb hoth (show B < P + 1 by have := HNE.out.1; omega) (show w.heap.size ≤ P + 1 by have := HNE.out.2.2.2; omega)) (Q := fun _ => True) fun _ _ _ => trivial
      have hv4 : Value.slice oo m cc = .slice hh3.oa xs3.length hh3.cap := by rw [← HR2.out.2.2.2.2.2.1]; exact hv3
      have HV := Lib.hid (And.intro hRow hv4)
      clear hb hRow hv4 hv3 hr3 hrv
      obtain ⟨q0, q1, qf, ql⟩ := cells2p (show WF.heap[B]? = some (.cells #[.string s, .slice oo m cc] 100) from hbx)
      go_wp2
      have hfin : r = .ok ⟨s, h0, xs3⟩ (ts.drop j) := by
        have h1 := HR2.out.1
        rw [HRC.out, if_neg HTS.out] at h1
        rw [← h1]
        show Rs.ok (⟨s, h0, xs3 ++ []⟩ : Pl5) _ = _
        rw [List.append_nil]
      exact bodyPost_ret (v := .agg #[.string s, .slice oo m cc]) (by simp [results, Tryz.results332, go_sem, q0, q1]) rfl (RPost.done HF.out.1 hfin HR2.out.2.2.2.2.2.2 HF.out.2 ⟨⟨s, hh3, xs3⟩, by rw [HV.out.2]; rfl, rfl, HV.out.1⟩)
    · have HTS := Lib.hid hts
      clear hts
      go_upto_region 3 with (go_at_call 172; refine HTK.out.mono ?_; rintro e1 w1 ⟨h1, -⟩; obtain ⟨rfl, hk1, hrd1⟩ := h1 HTS.out; have HK1' := Lib.hid hk1; have HH1' := Lib.hid hrd1; clear h1 hk1 hrd1 HTK)
      have HX1 := Lib.hid (show w1.drew.heap[P]? = some (.cells #[.string s, .slice oo m cc] 100) from HK1'.out.kept HX.out.1 (by have := HNE.out.2.1; omega))
      have HXB1 := Lib.hid (show w1.drew.heap[B]? = some (.cells #[.string ⟨#[]⟩, .slice none 0 0] 100) from HK1'.out.kept HX.out.2 HBb.out.1)
      have HH1d := Lib.hid (show RdAt w1.drew b g cap ts (j + 1) dp from HH1'.out.under ⟨rfl, rfl, rfl, Nat.le_refl _, fun _ _ => rfl⟩)
      have HKd := Lib.hid (show Kb b w w1.drew from (HKO.out.trans HK1'.out).drew)
      have HRd := Lib.hid (show RowV w1.drew (P + 1) 332 1 (.slice oo xs.length cc) stepC (fun _ _ => True) xs from HRO.out.keepG (w' := w1.drew) stepMono HK1'.out.size fun x h1 h2 => HK1'.out.block x h2 (by have := HNE.out.2.1; omega))
      have HSZ := Lib.hid (show wr.heap.size ≤ w1.drew.heap.size from HK1'.out.size)
      have HC := Lib.hid (r_step HH1d.out)
      obtain ⟨e0, e1, ef, el⟩ := cells2p HX1.out
      have hno : ∀ er p, stepR (ts.drop (j + 1)) = .no er p → r = .no er p := fun er p hr => by
        have h1 := HR2.out.1
        rw [HRC.out, if_pos HTS.out, bind_no hr] at h1
        exact h1.symm
      have HNO := Lib.hid hno
      clear hno
      · obtain ⟨hi1, hi2, hi3, hi4⟩ := HI.out
        go_region_law (first
          | (refine step_append_lies _ rfl (.tmp 9) (.tmp 12) 98 rfl (P + 1) 332 ii _ 1 16 Tryz.underlying98 hi1 hi2 hi3 hi4 rfl (by decide) (.slice oo m cc) m (xs.flatMap stepC) (by simp [Act.eval]) (by exact HRW.out) ⟨W3.heap.size, 0, none⟩ 1 1 [.string a2] (by simp [Act.eval]) rfl (by exact new_cells W3 [.string a2] 332 _ rfl) (by intro u hu; simp at hu; subst hu; rfl) (by decide) (by exact HMX.out.1) (by exact HMX.out.2.1) (by exact HMX.out.2.2) _ rfl ?_; intro g4 c4 w4 hown hg hgo hlt4; have HOW := Lib.hid hown; have HG4 := Lib.hid (And.intro hg hgo); obtain ⟨f0, f1, ff, fl⟩ := cells2p (HP4.out _ hg); clear hown hg hgo hlt4)
          | (go_simp; go_at_call 340; refine HC.out.mono ?_; rintro e W3 hp
             rcases hr : stepR (ts.drop (j + 1)) with ⟨a2, l2⟩ | ⟨er, p⟩
             rotate_left
             · obtain ⟨he, hk⟩ := hp.no hr
               unfold faultE at he
               subst he
               exact ⟨rfl, RPost.fault (HKd.out.trans hk) (HNO.out _ _ hr)⟩
             obtain ⟨hk, j2, v2, rfl, hl, hj2, hrd, hv⟩ := hp.ok hr; subst hl; have HR := Lib.hid hr; have HJ2 := Lib.hid (And.intro (len_step hr) hj2); clear hr; unfold VSp at hv; subst hv; have HK3 := Lib.hid hk; have HH3 := Lib.hid hrd; have HP3 := Lib.hid (hk.kept HX1.out (by have := HNE.out.2.1; omega)); obtain ⟨d0, d1, df, dl⟩ := cells2p HP3.out
             have hal := alloc_below W3 (.cells #[.string a2] 332)
             have hrw3 := (HRd.out.keepG stepMono hk.size fun x h1 h2 => hk.block x h2 (by have := HNE.out.2.1; omega)).keepG (w' := W3.alloc (.cells #[.string a2] 332)) stepMono hal.size fun x _ h2 => hal.block x h2
             have HRV := Lib.hid hrw3
             have hrw4 := hrw3.own
             rw [HR2.out.2.2.2.2.2.1] at hrw4
             have HRW := Lib.hid hrw4
             have HMX := Lib.hid (show m + 1 ≤ maxLen ∧ (m + 1) * 16 ≤ 140737488355328 ∧ P + 1 ≤ (W3.alloc (.cells #[.string a2] 332)).heap.size by
               have h1 := HR2.out.2.2.1; have h2 := HR2.out.2.2.2.2.2.1; have h3 := HH1d.out.ok.small; have h4 := HH1d.out.lt; have h5 := blk_lt HP3.out; have h6 := hal.size
               exact ⟨by unfold maxLen; omega, by omega, by omega⟩)
             have HP4 := Lib.hid (show ∀ w4, (W3.alloc (.cells #[.string a2] 332)).grownBy w4 (Value.slice oo m cc).ownBlock → w4.heap[P]? = some (.cells #[.string s, .slice oo m cc] 100) from fun w4 hg => (hg.block P (by have h5 := blk_lt HP3.out; have h6 := hal.size; omega) fun e => by have := (own_lt hrw4 e.symm).1; omega).trans ((hal.block P (blk_lt HP3.out)).trans HP3.out))
             clear hk hp hrd hj2 HC hal hrw3 hrw4))
        all_goals
          have hg := HG4.out.1
          have hal := alloc_below W3 (.cells #[.string a2] 332)
          have hmm := HR2.out.2.2.2.2.2.1
          have hbb := HNE.out
          have hge : ∀ x, (Value.slice oo m cc).ownBlock = some x → P + 1 ≤ x := fun x hx => (own_lt HRW.out hx).1
          have hlt3 : ∀ x, (Value.slice oo xs.length cc).ownBlock = some x → x < (W3.alloc (.cells #[.string a2] 332)).heap.size := fun x hx => (own_lt HRV.out.own hx).2
          have hP4 := HP4.out _ hg
          have hown := HOW.out
          have hgx := hg
          rw [← hmm] at hown hgx
          have hpush := HRV.out.push (x := a2) (B1 := (W3.alloc (.cells #[.string a2] 332)).heap.size) stepMono HMX.out.2.2 trivial hlt3 hown hgx (fun x hx => by
            have h1 := HG4.out.2
            rw [hmm] at hx ⊢
            have h2 : g4 = x := by simpa [Value.ownBlock] using hx
            rw [← h2]
            rcases h1 with h1 | h1
            · exact .inl h1
            · exact .inr (by omega))
          obtain ⟨v5, hv5⟩ : ∃ v5, v5 = Value.slice (some ⟨g4, 0, none⟩) (m + 1) c4 := ⟨_, rfl⟩
          have hn5 : ∀ x, x ≠ P → (w4.setCell ⟨P, 1, none⟩ v5).heap[x]? = w4.heap[x]? := fun x hx => Below.heap_setCell _ _ _ _ hx
          have hs5 : w4.heap.size ≤ (w4.setCell ⟨P, 1, none⟩ v5).heap.size := by simp [World.setCell]
          have hb5 : Below P w4 (w4.setCell ⟨P, 1, none⟩ v5) := ⟨rfl, rfl, rfl, hs5, fun x hx => hn5 x (by omega)⟩
          have hX5 : (w4.setCell ⟨P, 1, none⟩ v5).heap[P]? = some (.cells #[.string s, v5] 100) := by
            have := heap_setCell_same w4 P 1 _ _ v5 hP4
            simpa using this
          have hB3 : W3.heap[B]? = some (.cells #[.string ⟨#[]⟩, .slice none 0 0] 100) := HK3.out.kept HXB1.out HBb.out.1
          have hB5 : (w4.setCell ⟨P, 1, none⟩ v5).heap[B]? = some (.cells #[.string ⟨#[]⟩, .slice none 0 0] 100) :=
            (hn5 B (by omega)).trans ((hg.block B (by have := blk_lt hB3; have := hal.size; omega) fun e => by have := hge B e.symm; omega).trans ((hal.block B (blk_lt hB3)).trans hB3))
          have hrow5 := hpush.keepG (w' := w4.setCell ⟨P, 1, none⟩ v5) stepMono hs5 fun x h1 _ => hn5 x (by omega)
          have hrd5 := ((HH3.out.under hal).grown hg hge (by omega) (by omega) (by have := HBb.out.2.2.1; omega) HMX.out.2.2).setNew (k := P) (by omega) 1 v5 hP4 (by omega) (by have := HBb.out.2.2.1; omega)
          have hk5 := ((((Ko.of (HKd.out.trans HK3.out)).trans (Ko.of (Kb.of_below hal))).grown (o := none) hg fun x hx => by have := hge x hx; omega).kb).box (by omega) hb5 hn5
          have hfin : finP s (preR (xs ++ [a2]) (pathR k' (ts.drop j2))) = r := by
            have h1 := HR2.out.1
            rw [HRC.out, if_pos HTS.out, bind_ok HR.out] at h1
            rw [← h1]
            unfold mapR bindR
            cases pathR k' (ts.drop j2) <;> simp [preR, pureR, finP]
          have hjj := HJ2.out
          have hst := And.intro hX5 (And.intro hB5 (And.intro hrow5 (And.intro hrd5 (And.intro hk5 (And.intro hfin hjj)))))
          rw [← hv5]
          have HST := Lib.hid hst
          have HV5 := Lib.hid hv5
          clear hg hal hmm hbb hge hlt3 hP4 hown hgx hpush hn5 hs5 hb5 hX5 hB3 hB5 hrow5 hrd5 hk5 hfin hjj hst hv5 hi1 hi2 hi3 hi4
          go_roundw
          case rel =>
            obtain ⟨g1, g2, g3, g4', g5, g6, g7⟩ := HST.out
            have hm := HR2.out.2.2.2.2.2.1
            have hv := HV5.out
            refine ⟨_, _, _, _, _, _, _, _, _, ?_, rfl⟩
            refine ⟨j2, k', xs ++ [a2], some ⟨g4, 0, none⟩, c4, ?_, g2, ?_, g4', g5, ?_, ?_, ?_, g6⟩
            · rw [hv] at g1 ⊢
              simpa [hm] using g1
            · rw [hv] at g3 ⊢
              simpa [hm] using g3
            · have := HR2.out.2.2.2.2.2.2; have := g7.2; omega
            · have h1 := HR2.out.2.1; have h2 := g7.1; rw [List.length_drop] at h1 h2 ⊢; rw [List.length_drop] at h2; omega
            · have h1 := HR2.out.2.2.1; have := g7.2; simp; omega
          case measure =>
            obtain ⟨g1, g2, g3, g4', g5, g6, g7⟩ := HST.out
            have e1 := (cells3p g4'.at_).2.1
            have e2 := (cells3p HRD.out.at_).2.1
            simp only [e1, e2]
            have := g4'.lt
            have := g7.2
            simp only [Int.toNat_natCast]
            omega
end Go.Proofs.YtggdpgaedmegbaaGreatDoor
