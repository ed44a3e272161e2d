/-
  Rows of one kind of thing. Conditions: as row_Oper.
-/
import Derived.Test.YtggdpgaedmegbaaGreatDoorJPSoV
namespace Go.Proofs.YtggdpgaedmegbaaGreatDoor
open Go.RowKit
theorem info_Stmt : (Tryz.prog.info? 108).map (fun i => (i.zero, i.size, i.bytes)) = some (some (.agg #[.int .i64 0, .int .i64 0, .string ⟨#[]⟩, .int .i64 0, .string ⟨#[]⟩, .slice none 0 0, .string ⟨#[]⟩, .slice none 0 0, .int .i64 0, .slice none 0 0, .string ⟨#[]⟩, .slice none 0 0, .string ⟨#[]⟩, .string ⟨#[]⟩, .bool false, .int .i64 0, .string ⟨#[]⟩, .slice none 0 0, .slice none 0 0, .slice none 0 0, .slice none 0 0]), 21, 352) := by kernel_rfl
set_option maxRecDepth 100000 in
set_option maxHeartbeats 4000000 in
theorem row_Stmt {n : Nat} {w : World} {b g cap : Nat} {ts : List Tok} {i dp : Nat} (H : RdAt w b g cap ts i dp) (e : List UInt8) (he : e ≠ []) {o : Option Nat} {S : Bool → World → Prop} (f : Bool → Rd _)
    (hTh : ThC 292 #[.pointer (some ⟨b, 0, none⟩)] b g cap ts dp o S f stV erSt (StH n)) (hS : S true w) (ho : ∀ x, o = some x → x < w.heap.size)
    (hSk : ∀ fl w1 w2, S fl w1 → w1.heap.size ≤ w2.heap.size → (∀ x, x < w.heap.size → x ≠ b → w2.heap[x]? = w1.heap[x]?) → S fl w2) (hcon : ∀ fl, Con (f fl)) :
    Calls Tryz.prog 291 #[.pointer (some ⟨b, 0, none⟩), .string (strB e), (.func (.func 292) #[.pointer (some ⟨b, 0, none⟩)] #[])] w (RowPost w b g cap ts dp o S 21 stC erSt (StH n) (rowL e f (ts.drop i))) := by
  obtain ⟨r, hQ⟩ : ∃ r, rowL e f (ts.drop i) = r := ⟨_, rfl⟩
  rw [hQ]
  have HQ := Lib.hid (show preR ([].map erSt) (rowR e f (ts.drop i).length true (ts.drop i)) = r by rw [List.map_nil, preR_nil]; exact hQ)
  have HH := Lib.hid H
  have HE := Lib.hid he
  have HT := Lib.hid hTh
  have HS := Lib.hid hS
  have HO := Lib.hid ho
  have HSK := Lib.hid hSk
  have HC := Lib.hid hcon
  have HGB := Lib.hid (And.intro H.toks.1 (And.intro H.vars.size (show b < w.heap.size from (Array.getElem?_eq_some_iff.1 H.at_).1)))
  obtain ⟨ii, hi1, hi2, hi3, hi4⟩ := info_parts info_Stmt
  have HI := Lib.hid (And.intro hi1 (And.intro hi2 (And.intro hi3 hi4)))
  clear hQ hTh hS ho hSk hcon he hi1 hi2 hi3 hi4 H
  obtain ⟨z, hz⟩ : ∃ z, strB e = z := ⟨_, rfl⟩
  rw [hz]
  have HZ := Lib.hid hz
  clear hz
  go_enter Tryz.func291, Tryz.ntmps291
  go_wp2_with fail
  go_loopw [7] (fun u7 wr => ∃ (j k : Nat) (fl : Bool) (xs : List _) (oo : Option Addr) (cc : Nat), u7 = .slice oo xs.length cc ∧ RowV wr w.heap.size 108 21 (.slice oo xs.length cc) stC (StH n) xs ∧ RdAt wr b g cap ts j dp ∧ Ko b o w wr ∧ S fl wr ∧ (ts.drop j).length ≤ k ∧ xs.length ≤ j ∧ preR (xs.map erSt) (rowR e f k fl (ts.drop j)) = r) (fun _ wr => match wr.cell? ⟨b, 1, none⟩ with | some (.int _ q) => ts.length - q.toNat | _ => 0)
  case atStart => exact ⟨i, _, true, [], none, 0, rfl, RowV.nil, HH.out, Ko.refl _ _ _, HS.out, Nat.le_refl _, Nat.zero_le _, HQ.out⟩
  case round =>
    obtain ⟨j, k, fl, xs, oo, cc, rfl, hrow, hrd, hko, hs, hk, hxj, hr⟩ := hrel
    obtain ⟨t, ht, hh, -⟩ := hrd.tok
    have hlt := hrd.lt
    obtain ⟨k', rfl⟩ : ∃ k', k = k' + 1 := ⟨k - 1, by rw [List.length_drop] at hk; omega⟩
    obtain ⟨m, hm⟩ : ∃ m, xs.length = m := ⟨_, rfl⟩
    have HRO := Lib.hid hrow
    have HRD := Lib.hid hrd
    have HKO := Lib.hid hko
    have HSS := Lib.hid hs
    have HR := Lib.hid (And.intro hr (And.intro hk (And.intro hxj (And.intro ht (And.intro hh hm)))))
    have htk := takes_any hrd ht e HE.out
    rw [HZ.out] at htk
    have HTK := Lib.hid htk
    rw [hm]
    have hrc : rowR e f (k' + 1) fl (ts.drop j) = if t.text = e then .ok [] (ts.drop (j + 1)) else bindR (f fl) (fun a => mapR (rowR e f k' false) fun r => a :: r) (ts.drop j) := by
      rw [rowR]
      unfold optR
      rw [hh, drop_tail]
      rfl
    have HRC := Lib.hid hrc
    by_cases hts : t.text = e
    · have HTS := Lib.hid hts
      clear hrow hrd hko hs hk hxj hr ht hh hlt htk hm hrc hts
      go_wp2_with (go_at_call 172; refine HTK.out.mono ?_; rintro e1 w1 ⟨h1, -⟩; obtain ⟨rfl, hk1, hrd1⟩ := h1 HTS.out; have HK1 := Lib.hid hk1; have HH1 := Lib.hid hrd1; clear h1 hk1 hrd1 HTK)
      go_ret
      have hr := HR.out.1
      rw [HRC.out, if_pos HTS.out] at hr
      rw [← hr, ← HR.out.2.2.2.2.2]
      refine ⟨HKO.out.trans (Ko.of HK1.out), j + 1, _, fl, rfl, rfl, HH1.out, HSK.out fl _ _ HSS.out HK1.out.size fun x hx hn => HK1.out.block x (Nat.lt_of_lt_of_le hx HKO.out.size) hn, ?_⟩
      have hrv := HRO.out.keepG (StH.und n) HK1.out.size fun x h1 h2 => HK1.out.block x h2 (by have := HGB.out.2.2; omega)
      simpa using hrv.row stC_len (StH.und n) erSt
    · have HTS := Lib.hid hts
      clear hrow hrd hko hs hk hxj hr ht hh hlt htk hm hrc hts
      go_upto_region 3 with (go_at_call 172; refine HTK.out.mono ?_; rintro e1 w1 ⟨-, h1⟩; obtain ⟨rfl, hb1⟩ := h1 HTS.out; have HB1 := Lib.hid hb1; clear h1 hb1 HTK)
      have hs1 := HSK.out fl _ _ HSS.out HB1.out.size fun x hx _ => HB1.out.block x (Nat.lt_of_lt_of_le hx HKO.out.size)
      have hth := HT.out fl w1 j (HRD.out.under HB1.out) hs1
      have HTH := Lib.hid hth
      clear hs1 hth
      rcases hf : f fl (ts.drop j) with ⟨a, l⟩ | ⟨er, p⟩
      rotate_left
      · have HF := Lib.hid hf
        clear hf
        go_wp2_with (go_at_call 292; refine HTH.out.mono ?_; rintro e1 w2 ⟨hk2, h2⟩; rw [HF.out] at h2; simp only at h2; unfold faultE at h2; subst h2; have HK2 := Lib.hid hk2; clear hk2 HTH)
        refine ⟨rfl, ?_⟩
        have hr := HR.out.1
        rw [HRC.out, if_neg HTS.out, bind_no HF.out] at hr
        rw [← hr]
        exact ⟨(HKO.out.trans (Ko.of (Kb.of_below HB1.out))).trans HK2.out, rfl⟩
      · have HF := Lib.hid hf
        clear hf
        obtain ⟨hi1, hi2, hi3, hi4⟩ := HI.out
        go_wp2_with
          (first
            | (go_at_call 292; refine HTH.out.mono ?_; rintro e1 w2 ⟨hk2, h2⟩; rw [HF.out] at h2; simp only at h2; obtain ⟨j2, v2, rfl, hl, hrd2, hs2, ⟨xk, xq, xnm, ⟨tk, tn, th, tl⟩, ⟨pn, ph, pp⟩, ⟨rk, rh, ro, ⟨rpn, rph, rpp⟩, rn, rv⟩, ⟨on, oi, ⟨opn, oph, opp⟩⟩, xht, xth, xhe, xel, xha, xar⟩, rfl, rfl, hp⟩ := h2; subst hl; simp only [stV, stC, tyC, plC, rvC, opC, List.cons_append, List.nil_append]; have HK2 := Lib.hid hk2; have HH2 := Lib.hid hrd2; have HS2 := Lib.hid hs2; have HP2 := Lib.hid hp; clear hk2 hrd2 hs2 hp HTH)
            | (at_builtin; refine wpList_append_block rfl (.tmp 12) (.tmp 15) 66 rfl w.heap.size 108 ii _ 21 352 Tryz.underlying66 hi1 hi2 hi3 hi4 rfl (by decide) (.slice oo m cc) m (xs.flatMap stC) rfl ?c0 ⟨w2.heap.size, 0, none⟩ 1 1 [.int .i64 xk, .int .i64 xq, .string xnm, .int .i64 tk, .string tn, .slice th.oa tl.length th.cap, .string pn, .slice ph.oa pp.length ph.cap, .int .i64 rk, .slice rh.oa ro.length rh.cap, .string rpn, .slice rph.oa rpp.length rph.cap, .string rn, .string rv, .bool on, .int .i64 oi, .string opn, .slice oph.oa opp.length oph.cap, .slice xht.oa xth.length xht.cap, .slice xhe.oa xel.length xhe.cap, .slice xha.oa xar.length xha.cap] rfl rfl ?c1 ?c2 ?c3 ?c4 ?c5 ?_))
        case c0 =>
          have hm := HR.out.2.2.2.2.2
          have h1 := (HRO.out.keepG (StH.und n) HB1.out.size fun x _ h2 => HB1.out.block x h2).keepG (StH.und n) HK2.out.size fun x h1 h2 => HK2.out.block x h2 (by have := HGB.out.2.2; omega) fun e => by have := HO.out x e; omega
          have h2 := own_keep (w' := w2.alloc (.cells #[.int .i64 xk, .int .i64 xq, .string xnm, .int .i64 tk, .string tn, .slice th.oa tl.length th.cap, .string pn, .slice ph.oa pp.length ph.cap, .int .i64 rk, .slice rh.oa ro.length rh.cap, .string rpn, .slice rph.oa rpp.length rph.cap, .string rn, .string rv, .bool on, .int .i64 oi, .string opn, .slice oph.oa opp.length oph.cap, .slice xht.oa xth.length xht.cap, .slice xhe.oa xel.length xhe.cap, .slice xha.oa xar.length xha.cap] 108)) h1.own fun x hx => (alloc_below w2 (.cells #[.int .i64 xk, .int .i64 xq, .string xnm, .int .i64 tk, .string tn, .slice th.oa tl.length th.cap, .string pn, .slice ph.oa pp.length ph.cap, .int .i64 rk, .slice rh.oa ro.length rh.cap, .string rpn, .slice rph.oa rpp.length rph.cap, .string rn, .string rv, .bool on, .int .i64 oi, .string opn, .slice oph.oa opp.length oph.cap, .slice xht.oa xth.length xht.cap, .slice xhe.oa xel.length xhe.cap, .slice xha.oa xar.length xha.cap] 108)).block x (own_lt h1.own hx).2
          rw [hm] at h2
          exact h2
        case c1 => exact new_cells w2 [.int .i64 xk, .int .i64 xq, .string xnm, .int .i64 tk, .string tn, .slice th.oa tl.length th.cap, .string pn, .slice ph.oa pp.length ph.cap, .int .i64 rk, .slice rh.oa ro.length rh.cap, .string rpn, .slice rph.oa rpp.length rph.cap, .string rn, .string rv, .bool on, .int .i64 oi, .string opn, .slice oph.oa opp.length oph.cap, .slice xht.oa xth.length xht.cap, .slice xhe.oa xel.length xhe.cap, .slice xha.oa xar.length xha.cap] 108 _ rfl
        case c2 => first | exact ⟨rfl, rfl, rfl⟩ | exact ⟨rfl, rfl, rfl, rfl⟩ | (intro u hu; simp at hu; first | (rcases hu with rfl | rfl | rfl | rfl | rfl | rfl | rfl | rfl | rfl | rfl | rfl | rfl | rfl | rfl | rfl | rfl | rfl | rfl | rfl | rfl | rfl <;> rfl) | (rcases hu with rfl | rfl | rfl | rfl <;> rfl) | (rcases hu with rfl | rfl | rfl <;> rfl))
        case c3 => have := HR.out.2.2.1; have := HR.out.2.2.2.2.2; have := HH.out.ok.small; have := HRD.out.lt; unfold maxLen; omega
        case c4 => have := HR.out.2.2.1; have := HR.out.2.2.2.2.2; have := HH.out.ok.small; have := HRD.out.lt; omega
        case c5 => have := HKO.out.size; have := HB1.out.size; have := HK2.out.size; simp; omega
        intro v4 w4 hown hg _ hnew
        have hm := HR.out.2.2.2.2.2
        have hal := alloc_below w2 (.cells #[.int .i64 xk, .int .i64 xq, .string xnm, .int .i64 tk, .string tn, .slice th.oa tl.length th.cap, .string pn, .slice ph.oa pp.length ph.cap, .int .i64 rk, .slice rh.oa ro.length rh.cap, .string rpn, .slice rph.oa rpp.length rph.cap, .string rn, .string rv, .bool on, .int .i64 oi, .string opn, .slice oph.oa opp.length oph.cap, .slice xht.oa xth.length xht.cap, .slice xhe.oa xel.length xhe.cap, .slice xha.oa xar.length xha.cap] 108)
        have h1 := ((HRO.out.keepG (StH.und n) HB1.out.size fun x _ h2 => HB1.out.block x h2).keepG (StH.und n) HK2.out.size fun x h1 h2 => HK2.out.block x h2 (by have := HGB.out.2.2; omega) fun e => by have := HO.out x e; omega).keepG (w' := w2.alloc (.cells #[.int .i64 xk, .int .i64 xq, .string xnm, .int .i64 tk, .string tn, .slice th.oa tl.length th.cap, .string pn, .slice ph.oa pp.length ph.cap, .int .i64 rk, .slice rh.oa ro.length rh.cap, .string rpn, .slice rph.oa rpp.length rph.cap, .string rn, .string rv, .bool on, .int .i64 oi, .string opn, .slice oph.oa opp.length oph.cap, .slice xht.oa xth.length xht.cap, .slice xhe.oa xel.length xhe.cap, .slice xha.oa xar.length xha.cap] 108)) (StH.und n) hal.size fun x _ h2 => hal.block x h2
        have hge : ∀ x, (Value.slice oo m cc).ownBlock = some x → w.heap.size ≤ x := fun x hx => by rw [← hm] at hx; exact (own_lt h1.own hx).1
        have hlt1 : ∀ x, (Value.slice oo xs.length cc).ownBlock = some x → x < w1.heap.size := fun x hx => Nat.lt_of_lt_of_le (own_lt HRO.out.own hx).2 HB1.out.size
        have hp3 := (StH.und n) _ _ _ (eb_und (B := w1.heap.size) (B' := w1.heap.size) (og := none) (og' := none) hal.size fun x hx h1 h2 => ⟨h1, h2, hal.block x hx⟩) HP2.out
        rw [← hm] at hown hg hnew
        have hpush := h1.push (x := (.mk xk xq xnm (.mk tk tn th tl) ⟨pn, ph, pp⟩ ⟨rk, rh, ro, ⟨rpn, rph, rpp⟩, rn, rv⟩ ⟨on, oi, ⟨opn, oph, opp⟩⟩ xht xth xhe xel xha xar : St5)) (StH.und n) (Nat.le_trans HKO.out.size HB1.out.size) hp3 hlt1 hown hg (fun x hx => by simpa using hnew x hx)
        rw [hm] at hg
        have hrd4 := (HH2.out.under hal).grown hg hge HGB.out.2.2 HGB.out.1 HGB.out.2.1 (Nat.le_trans (Nat.le_trans (Nat.le_trans HKO.out.size HB1.out.size) HK2.out.size) hal.size)
        have hko4 := (((HKO.out.trans (Ko.of (Kb.of_below HB1.out))).trans HK2.out).trans (Ko.of (Kb.of_below hal))).grown hg hge
        have hs4 := HSK.out false _ _ HS2.out (Nat.le_trans hal.size hg.size) fun x hx hn => (hg.block x (Nat.lt_of_lt_of_le hx (Nat.le_trans (Nat.le_trans (Nat.le_trans HKO.out.size HB1.out.size) HK2.out.size) hal.size)) fun e => by have := hge x e.symm; omega).trans (hal.block x (Nat.lt_of_lt_of_le hx (Nat.le_trans (Nat.le_trans HKO.out.size HB1.out.size) HK2.out.size)))
        obtain ⟨o4, c4, rfl⟩ := row_open hown
        have hjj : j < j2 := by
          have := HC.out fl _ _ _ HF.out
          rw [List.length_drop, List.length_drop] at this
          have := hrd4.lt
          omega
        have hfin : preR ((xs ++ [(.mk xk xq xnm (.mk tk tn th tl) ⟨pn, ph, pp⟩ ⟨rk, rh, ro, ⟨rpn, rph, rpp⟩, rn, rv⟩ ⟨on, oi, ⟨opn, oph, opp⟩⟩ xht xth xhe xel xha xar : St5)]).map erSt) (rowR e f k' false (ts.drop j2)) = r := by
          have hr := HR.out.1
          rw [HRC.out, if_neg HTS.out, bind_ok HF.out] at hr
          rw [← hr, List.map_append]
          unfold mapR bindR
          cases rowR e f k' false (ts.drop j2) <;> simp [preR, pureR]
        have hst := And.intro hpush (And.intro hrd4 (And.intro hko4 (And.intro hs4 (And.intro hjj hfin))))
        have HST := Lib.hid hst
        clear hm hal h1 hge hlt1 hp3 hown hg hnew hpush hrd4 hko4 hs4 hjj hfin hst hi1 hi2 hi3 hi4
        go_wp2_with fail
        go_roundw
        case rel =>
          obtain ⟨g1, g2, g3, g4, g5, g6⟩ := HST.out
          have hm := HR.out.2.2.2.2.2
          refine ⟨j2, k', false, xs ++ [(.mk xk xq xnm (.mk tk tn th tl) ⟨pn, ph, pp⟩ ⟨rk, rh, ro, ⟨rpn, rph, rpp⟩, rn, rv⟩ ⟨on, oi, ⟨opn, oph, opp⟩⟩ xht xth xhe xel xha xar : St5)], o4, c4, by simp [hm], ?_, g2, g3, g4, ?_, ?_, g6⟩
          · simpa using g1
          · have := HR.out.2.1; rw [List.length_drop] at this ⊢; omega
          · have := HR.out.2.2.1; simp; omega
        case measure =>
          obtain ⟨g1, g2, g3, g4, g5, g6⟩ := HST.out
          have e1 := (cells3p g2.at_).2.1
          have e2 := (cells3p HRD.out.at_).2.1
          simp only [e1, e2]
          have := g2.lt
          simp only [Int.toNat_natCast]
          omega
end Go.Proofs.YtggdpgaedmegbaaGreatDoor
