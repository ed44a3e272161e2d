/-
  Graph: a look of spread, for each of its two ways to go. Conditions: the flow lies in the heap; what tells where to go does so.
-/
import Derived.Test.YtfpdecjlfnambaaGSpreadP
namespace Go.Proofs.Ytfpdecjlfnambaa
open Go Go.RowKit Go.Shelf

attribute [local go_sem] Oper.semAt_some

set_option maxRecDepth 100000 in
set_option maxHeartbeats 4000000 in
theorem look_flow (E : SE) (hE : E.Ok) (pc : Value) (hNX : NextOk E 30 49 pc) (j bN bP bJ bS : Nat) (hj : j < E.n) (F0 : Nat → List Bool) (hbx : ∀ b, (b = bN ∨ b = bP ∨ b = bJ ∨ b = bS ∨ b = E.f ∨ b = E.bf ∨ b = E.bn ∨ b = E.ba ∨ (∃ i ∈ ones E.c, b = E.Rf i ∨ b = E.Rn i ∨ b = E.Ra i)) → b < E.n1) (hw0 : E.w0.heap.size ≤ E.n1)
    (hbR : ∀ b, (b = bN ∨ b = bP ∨ b = bJ ∨ b = bS) → ∀ i ∈ ones E.c, b ≠ E.Rf i)
    (qb μ x : Nat) (Q : List Nat) (W : World) (v : Value) (hq : QAt E.n1 W qb v Q) (hsj : SJ E j bN bP bJ bS (.func (.func 30) #[] #[pc]) F0 μ (x :: Q) W) :
    Calls Try.prog 48 #[.int .i64 (x : Int), .func (.func 57) #[.pointer (some ⟨qb, 0, none⟩)] #[], .pointer (some ⟨bN, 0, none⟩), .pointer (some ⟨bP, 0, none⟩), .pointer (some ⟨bJ, 0, none⟩), .pointer (some ⟨bS, 0, none⟩)] W fun e W' =>
      (∃ u, e = .returned u) ∧ Looked (SJ E j bN bP bJ bS (.func (.func 30) #[] #[pc]) F0) E.n1 qb μ W' := by
  obtain ⟨hnW, hkW, hN, hP, hJ, hS, F, hAt, hcol, hF, hμ, hμ2⟩ := hsj
  have hxc : x ∈ ones E.c := (hF.queue x (by simp)).1
  have c1 := hN.cell 0
  simp at c1
  have d1 := cellA (.cells #[.func (.func 57) #[.pointer (some ⟨qb, 0, none⟩)] #[]] 93) c1
  have hqbW := hq.box.lt
  have hp0 : ∀ b, E.P0 b → (W.alloc (.cells #[.func (.func 57) #[.pointer (some ⟨qb, 0, none⟩)] #[]] 93)).heap[b]? = E.w0.heap[b]? := fun b hb => by
    obtain ⟨h1, h2⟩ := hE.p0 b hb
    have h3 := hkW.size
    exact (Below.heap_alloc _ _ _ (by omega)).trans (hkW.same b h1 (fun ⟨i, hi, e⟩ => h2 i hi e))
  have HG := Lib.hid (hNX x hxc (W.alloc (.cells #[.func (.func 57) #[.pointer (some ⟨qb, 0, none⟩)] #[]] 93)) (by have := hkW.size; simp; omega) hp0)
  have HA := Lib.hid (And.intro hnW (And.intro hkW (And.intro hN (And.intro hP (And.intro hJ (And.intro hS (And.intro hAt (And.intro hcol (And.intro hF (And.intro hμ (And.intro hμ2 (And.intro hq (And.intro hE (And.intro hbx (And.intro hw0 hbR)))))))))))))))
  clear hnW hkW hN hP hJ hS hAt hcol hF hμ hμ2 hq hE hp0 hNX c1 hbx hw0 hbR
  refine calls_of_wp_marks Try.func48 rfl ?_
  simp only [Try.ntmps48, List.size_toArray, List.length_cons, List.length_nil, Nat.reduceAdd, Nat.reduceSub, Array.replicate_succ, Array.replicate_zero, List.push_toArray, List.append_toArray, List.nil_append, List.cons_append]
  go_wp2_with (go_at_call 30; refine HG.out.mono ?_; rintro e w1 ⟨lb, D, rfl, hb1, hgv, hD1, hDs⟩; have H1 := Lib.hid (And.intro hb1 (And.intro hgv (And.intro hD1 hDs))); clear hb1 hgv hD1 hDs)
  obtain ⟨s, hs⟩ : ∃ s, s = W.heap.size := ⟨_, rfl⟩
  obtain ⟨hb1, hgv, hD1, hDs⟩ := H1.out
  obtain ⟨hnW, hkW, hN, hP, hJ, hS, hAt, hcol, hF, hμ, hμ2, hq, hE, hbx, hw0, hbR⟩ := HA.out
  have hbel : Below W.heap.size W w1 := ((Below.refl _ W).alloc (Nat.le_refl _) _).trans (hb1.mono (by simp))
  have v1 : Bx w1 s 93 [.func (.func 57) #[.pointer (some ⟨qb, 0, none⟩)] #[]] := by
    rw [hs]
    exact (Bx.new W _ [.func (.func 57) #[.pointer (some ⟨qb, 0, none⟩)] #[]]).below hb1 (by simp)
  have hsz : s + 1 ≤ w1.heap.size := by have := hb1.size; simp at this; omega
  have hq1 := hq.below hbel
  have xP := hP.below hbel hP.lt
  have xJ := hJ.below hbel hJ.lt
  have xS := hS.below hbel hS.lt
  have xN := hN.below hbel hN.lt
  have hA1 := hAt.below hbel
  have hown0 : ∀ b, v.ownBlock = some b → b < s := fun b hb => by
    obtain ⟨cs, hc⟩ := hq.row.own hb
    rw [hs]
    exact hc.lt
  have hqb : qb < s := by rw [hs]; exact hq.box.lt
  have hs0 : E.n1 ≤ s := by omega
  have hW := Lib.hid (And.intro v1 (And.intro hsz (And.intro hbel (And.intro hq1 (And.intro xP (And.intro xJ (And.intro xS (And.intro hA1 (And.intro hs xN)))))))))
  have HO := Lib.hid (And.intro hown0 (And.intro hq.qn hq.vn))
  have hRf : ∀ i ∈ ones E.c, E.Rf i < E.n1 := fun i hi => hbx _ (.inr (.inr (.inr (.inr (.inr (.inr (.inr (.inr ⟨i, hi, .inl rfl⟩))))))))
  have hnm : ∀ b, b < w1.heap.size + 2 → (∀ i ∈ ones E.c, b ≠ E.Rf i) → b ≠ qb → (v.ownBlock ≠ some b) → ¬ ((∃ i ∈ ones E.c, b = E.Rf i) ∨ b = qb ∨ v.ownBlock = some b ∨ w1.heap.size + 2 ≤ b) := fun b h1 h2 h3 h4 h => by
    rcases h with ⟨i, hi, h⟩ | h | h | h
    · exact h2 i hi h
    · exact h3 h
    · exact h4 h
    · omega
  have hlow : ∀ b, b < E.n1 → (∀ i ∈ ones E.c, b ≠ E.Rf i) → ¬ ((∃ i ∈ ones E.c, b = E.Rf i) ∨ b = qb ∨ v.ownBlock = some b ∨ w1.heap.size + 2 ≤ b) := fun b h1 h2 => hnm b (by omega) h2 (by have := hq.qn; omega) (fun h => by have := hq.vn _ h; omega)
  have HM := Lib.hid (And.intro hRf (And.intro hnm hlow))
  rw [← hs]
  clear hb1 hgv hD1 hDs hnW hkW hN hP hJ hS hAt hcol hF hμ hμ2 hq hE hbx hw0 hbR v1 hsz hbel hq1 xP xJ xS xN hA1 hs hown0 d1 hqbW HG hRf hnm hlow
  refine wp_range H1.out.2.1 rfl (enters_of Try.func49 (by kernel_rfl) rfl) (fun _ => rfl) (fun b => (∃ i ∈ ones E.c, b = E.Rf i) ∨ b = qb ∨ v.ownBlock = some b ∨ w1.heap.size + 2 ≤ b)
    ⟨HM.out.2.1 _ (by omega) (fun i hi => by have := HM.out.1 i hi; have := hW.out.2.1; omega) (by have := hW.out.2.1; omega) (fun h => by have := HO.out.1 _ h; have := hW.out.2.1; omega), HM.out.2.1 _ (by omega) (fun i hi => by have := HM.out.1 i hi; have := hW.out.2.1; omega) (by have := hW.out.2.1; omega) (fun h => by have := HO.out.1 _ h; have := hW.out.2.1; omega)⟩
    (fun k W => SpreadI E j F0 w1 qb v x μ k W)
    ?hI ?hID ?h0 ?hround ?hdone
  case hI =>
    rintro k W r o o' hr ho hoc ⟨h1, F', Q', v', h2, h3, h4, h5⟩
    exact ⟨h1.put (.inl hr) _, F', Q', v', h2.put _ ho hoc, h3, h4.put _ ho hoc, h5⟩
  case hID =>
    rintro k W' ⟨h1, -⟩
    obtain ⟨hb1, hgv, hD1, hDs⟩ := H1.out
    obtain ⟨v1, hsz, hbel, hq1, xP, xJ, xS, hA1, hs, xN⟩ := hW.out
    obtain ⟨hnW, hkW, hN, hP, hJ, hS, hAt, hcol, hF, hμ, hμ2, hq, hE, hbx, hw0, hbR⟩ := HA.out
    refine hDs w1 W' hD1 (fun b hb => ?_) ⟨h1.os, h1.tape, h1.output, h1.size⟩
    rcases hb with hb | ⟨hb2, hb3⟩
    · obtain ⟨h3, h4⟩ := hE.p0 b hb
      exact h1.same b (by omega) (HM.out.2.2 b (by omega) h4)
    · simp at hb2
      exact h1.same b hb3 (HM.out.2.1 b (by omega) (fun i hi => by have := HM.out.1 i hi; omega) (by omega) (fun h => by have := HO.out.1 _ h; omega))
  case h0 =>
    intro r
    obtain ⟨v1, hsz, hbel, hq1, xP, xJ, xS, hA1, hs, xN⟩ := hW.out
    obtain ⟨hnW, hkW, hN, hP, hJ, hS, hAt, hcol, hF, hμ, hμ2, hq, hE, hbx, hw0, hbR⟩ := HA.out
    have hal : Below w1.heap.size w1 ((w1.alloc (.deferred (some []))).alloc (.loop r)) := ((Below.refl _ w1).alloc (Nat.le_refl _) _).alloc (by simp) _
    refine ⟨((Kep.refl _ _).alloc _).alloc _, F, Q, v, hA1.below hal, hcol, hq1.below hal, fun b hb => .inl hb, hF.open, ?_⟩
    rw [hμ, List.length_cons]
    omega
  case hround =>
    rintro k hk W2 ⟨h1, F', Q', v', h2, h3, h4, h5, h6, h7⟩ ⟨r0, hrec⟩ hD
    obtain ⟨t, ht⟩ : ∃ t, t = (E.next x)[k] := ⟨_, rfl⟩
    rw [← ht]
    have htc : t ∈ ones E.c := HA.out.2.2.2.2.2.2.2.2.2.2.2.2.1.nok x hxc t (ht ▸ List.getElem_mem hk)
    have HI := Lib.hid (And.intro h1 (And.intro h2 (And.intro h3 (And.intro h4 (And.intro h5 (And.intro h6 (And.intro h7 (And.intro hrec (And.intro hD ht)))))))))
    clear h1 h2 h3 h4 h5 h6 h7 hrec hD ht
    gi_wp2
    refine ⟨Kep.refl _ _, fun rr => ?_⟩
    obtain ⟨W3, hW3⟩ : ∃ W3, W3 = W2.putObj (w1.heap.size + 1) (.loop rr) := ⟨_, rfl⟩
    rw [← hW3]
    obtain ⟨h1, h2, h3, h4, h5, h6, h7, hrec, hD, ht⟩ := HI.out
    obtain ⟨v1, hsz, hbel, hq1, xP, xJ, xS, hA1, hs, xN⟩ := hW.out
    obtain ⟨hnW, hkW, hN, hP, hJ, hS, hAt, hcol, hF, hμ, hμ2, hq, hE, hbx, hw0, hbR⟩ := HA.out
    obtain ⟨hRf, hnm, hlow⟩ := HM.out
    have hrl := (Array.getElem?_eq_some_iff.1 hrec).1
    have h1' : Kep (fun b => (∃ i ∈ ones E.c, b = E.Rf i) ∨ b = qb ∨ v.ownBlock = some b ∨ w1.heap.size + 2 ≤ b) w1 W3 := by
      rw [hW3]
      exact h1.put (.inl (by omega)) _
    have h2' : E.At F' W3 := by
      rw [hW3]
      exact h2.put _ hrec rfl
    have h4' : QAt E.n1 W3 qb v' Q' := by
      rw [hW3]
      exact h4.put _ hrec rfl
    have hrec' : (w1.heap.size + 1) < W3.heap.size := by
      rw [hW3]
      simp
      omega
    have y1 := (v1.kep h1' (hnm _ (by omega) (fun i hi => by have := hRf i hi; omega) (by omega) (fun h => by have := HO.out.1 _ h; omega))).cell 0
    have zP := xP.kep h1' (hlow _ (hbx _ (.inr (.inl rfl))) (hbR _ (.inr (.inl rfl))))
    have zJ := xJ.kep h1' (hlow _ (hbx _ (.inr (.inr (.inl rfl)))) (hbR _ (.inr (.inr (.inl rfl)))))
    have zS := xS.kep h1' (hlow _ (hbx _ (.inr (.inr (.inr (.inl rfl))))) (hbR _ (.inr (.inr (.inr rfl)))))
    have yP := zP.cell 0
    have yJ := zJ.cell 0
    have yS := zS.cell 0
    simp at y1 yP yJ yS
    have htl := (ones_lt htc).1
    have hrow := (h2'.mf.row t htc).2
    have y8 := h2'.flow.cell 8
    simp [SE.flow, flC] at y8
    have yR := h2'.mf.cellR htc
    have yB := h2'.mf.cellB htc hj
    obtain ⟨L, hL⟩ : ∃ L, L = E.c.length := ⟨_, rfl⟩
    rw [← hL] at y8 htl
    have hL1 : L ≤ 1000 := by rw [hL]; exact hE.c1k
    have hn1k := hE.n1k
    have HL1 := Lib.hid (h2'.leaves hE htc hj)
    have hAd : E.At F' W3.drew := h2'.of (fun _ _ _ => rfl)
    obtain ⟨W5, hW5⟩ : ∃ W5, W5 = (W3.setCell ⟨E.Rf t, j, none⟩ (.bool E.so)).drew := ⟨_, rfl⟩
    have hA5 : E.At (setF F' t j E.so) W5 := by
      rw [hW5]
      exact hAd.set hE j htc
    have HL2 := Lib.hid (hA5.leaves hE htc hj)
    have hk5 : Kep (fun b => (∃ i ∈ ones E.c, b = E.Rf i) ∨ b = qb ∨ v.ownBlock = some b ∨ w1.heap.size + 2 ≤ b) W3 W5 := by
      rw [hW5]
      exact Kep.setCell (p := ⟨E.Rf t, j, none⟩) ((Kep.refl _ W3).drew) (.inr (.inl ⟨t, htc, rfl⟩)) _
    have hq5 : QAt E.n1 W5 qb v' Q' := by
      rw [hW5]
      exact h4'.of (Below.heap_setCell _ _ _ _ (bx_ne h4'.box hrow (by decide))) (fun b hb => by
        obtain ⟨cs, hc⟩ := h4'.row.own hb
        exact Below.heap_setCell _ _ _ _ (bx_ne hc hrow (by decide)))
    have hs5 : W5.heap.size = W3.heap.size := by
      rw [hW5]
      show (W3.drew.heap.modify _ _).size = _
      rw [Array.size_modify]
      rfl
    have hnW3 : E.n1 ≤ W5.heap.size := by have := h1'.size; omega
    have hQ100 : Q'.length ≤ 100000 := by omega
    have HN := Lib.hid (show E.Rf t ≠ bP ∧ E.Rf t ≠ E.f ∧ E.Rf t ≠ E.bf ∧ E.Rf t ≠ bJ ∧ E.Rf t ≠ bS from ⟨fun e => hbR _ (.inr (.inl rfl)) t htc e.symm, bx_ne hrow h2'.flow (by decide), bx_ne hrow h2'.mf.rows (by decide), fun e => hbR _ (.inr (.inr (.inl rfl))) t htc e.symm, fun e => hbR _ (.inr (.inr (.inr rfl))) t htc e.symm⟩)
    have y1' : W5.cell? ⟨s, 0, none⟩ = some (.func (.func 57) #[.pointer (some ⟨qb, 0, none⟩)] #[]) := by
      rw [hW5]
      exact (World.cell?_setCell_far _ _ _ _ (show E.Rf t ≠ s by have := hRf t htc; omega)).trans y1
    have yP' : W5.cell? ⟨bP, 0, none⟩ = some (.pointer (some ⟨E.f, 0, none⟩)) := by
      rw [hW5]
      exact (World.cell?_setCell_far _ _ _ _ HN.out.1).trans yP
    have yJ' : W5.cell? ⟨bJ, 0, none⟩ = some (.int .i64 (j : Int)) := by
      rw [hW5]
      exact (World.cell?_setCell_far _ _ _ _ HN.out.2.2.2.1).trans yJ
    have HC := Lib.hid (And.intro yP (And.intro y8 (And.intro yR (And.intro yJ yS))))
    have HX := Lib.hid (And.intro yB (hrow.frozen j))
    have hcol' : ∀ i ∈ ones E.c, ∀ j', j' ≠ j → (setF F' t j E.so i)[j']?.getD false = (F0 i)[j']?.getD false := fun i hi j' hj' => by rw [setF_other _ _ _ _ _ _ hj']; exact h3 i hi j' hj'
    have hlen : j < (F' t).length := by rw [(h2'.mf.row t htc).1]; exact hj
    have hmono := hE.mono j
    have hl1 : lvS E.N E.A E.so j t (colF F' E.so j t) = (lvB F' E.A E.N t j == E.so) := (lvB_col _ _ _ _ _ _).symm
    have hl2 : lvS E.N E.A E.so j t true = (lvB (setF F' t j E.so) E.A E.N t j == E.so) := by
      rw [lvB_col, colF_set _ _ _ _ hlen]
      unfold upB
      rw [if_pos rfl]
    obtain ⟨c1, hc1⟩ : ∃ c1, c1 = lvB F' E.A E.N t j := ⟨_, rfl⟩
    obtain ⟨c2, hc2⟩ : ∃ c2, c2 = lvB (setF F' t j E.so) E.A E.N t j := ⟨_, rfl⟩
    rw [← hc1] at hl1
    rw [← hc2] at hl2
    have HL1' : Go.RowKit.Hid (Calls Try.prog 47 #[.pointer (some ⟨E.f, 0, none⟩), .int .i64 (t : Int), .int .i64 (j : Int)] W3 fun e w' => e = .returned (.bool c1) ∧ w' = W3) := Lib.hid (by rw [hc1]; exact HL1.out)
    have HL2' : Go.RowKit.Hid (Calls Try.prog 47 #[.pointer (some ⟨E.f, 0, none⟩), .int .i64 (t : Int), .int .i64 (j : Int)] W5 fun e w' => e = .returned (.bool c2) ∧ w' = W5) := Lib.hid (by rw [hc2]; exact HL2.out)
    have HW5 := Lib.hid hW5
    have HP := Lib.hid (put_any E.n1 qb t v' Q' hQ100 W5 hnW3 hq5)
    have HJ := Lib.hid (And.intro h1' (And.intro hA5 (And.intro hk5 (And.intro hq5 (And.intro hcol' (And.intro hmono (And.intro hl1 (And.intro hl2 (And.intro hlen (And.intro hrec' hs5))))))))))
    have hfn : ∀ f, (WR (w1.heap.size + 1)).fn f = True := fun _ => rfl
    have hdp : (WR (w1.heap.size + 1)).depth = none := rfl
    have hfw : ∀ f, Fence.wide.fn f = True := fun _ => rfl
    have hdw : Fence.wide.depth = none := rfl
    clear h1 h2 h3 h4 h5 h6 h7 hrec hD ht v1 hsz hbel hq1 xP xJ xS xN hA1 hs hnW hkW hN hP hJ hS hAt hcol hF hμ hμ2 hq hE hbx hw0 hbR hRf hnm hlow hrl h1' h2' h4' hrec' zP zJ zS hrow hL hAd hW5 hA5 HL1 HL2 hk5 hq5 hs5 hnW3 hQ100 hcol' hlen hmono hl1 hl2 hc1 hc2 hW3 y8 yR yB yS
    gi_wp2_with (gi_at_call 47; refine (CallsIn.inRound _ (callsIn_wide.2 HL1'.out)).mono ?_; clear HL1'; rintro e _ ⟨rfl, rfl⟩)
    refine wpIn_region_held_in (S := (fun w' => w'.cell? ⟨bP, 0, none⟩ = some (.pointer (some ⟨E.f, 0, none⟩)) ∧ w'.cell? ⟨E.f, 8, none⟩ = some (.slice (some ⟨E.bf, 0, none⟩) L L) ∧ w'.cell? ⟨E.bf, t, none⟩ = some (.slice (some ⟨E.Rf t, 0, none⟩) E.n E.n) ∧ w'.cell? ⟨bJ, 0, none⟩ = some (.int .i64 (j : Int)) ∧ w'.cell? ⟨bS, 0, none⟩ = some (.bool E.so))) (by kernel_rfl) (by kernel_rfl) (fun ⟨_, _, h⟩ => h) ?_ (fun hHeld => ?_)
    · exact HC.out
    refine wpAnyH_take (i := 0) (oi := { dst := some 18, op := Op.load 73 (Operand.tmp 3), type := 73, pos := "flow.go:138", after := #[], guard := none }) (v := ?vq0_1) rfl (by kernel_rfl) (by kernel_rfl) (by kernel_rfl) (fun _ _ _ h => h) (Or.inl ⟨by rfl, ?hq0_1⟩) (by assumption) ?_
    case hq0_1 => intro w hSw; (try dsimp only at hSw); go_simp; try (with_reducible rfl)
    (try simp only [Act.put, List.setIfInBounds_toArray, List.set_cons_zero, List.set_cons_succ])
    refine wpAnyH_take (i := 1) (oi := { dst := some 19, op := Op.nilCheck (Operand.tmp 18), type := 0, pos := "flow.go:138", after := #[{ on := 0, ground := Ground.data }], guard := none }) (v := ?vq1_2) rfl (by kernel_rfl) (by kernel_rfl) (by kernel_rfl) (fun _ _ _ h => h) (Or.inl ⟨by rfl, ?hq1_2⟩) (by assumption) ?_
    case hq1_2 => intro w hSw; (try dsimp only at hSw); go_simp; try (with_reducible rfl)
    (try simp only [Act.put, List.setIfInBounds_toArray, List.set_cons_zero, List.set_cons_succ])
    refine wpAnyH_take (i := 2) (oi := { dst := some 20, op := Op.fieldAddr 79 (Operand.tmp 19) 5, type := 0, pos := "flow.go:138", after := #[{ on := 1, ground := Ground.data }], guard := none }) (v := ?vq2_3) rfl (by kernel_rfl) (by kernel_rfl) (by kernel_rfl) (fun _ _ _ h => h) (Or.inl ⟨by rfl, ?hq2_3⟩) (by assumption) ?_
    case hq2_3 => intro w hSw; (try dsimp only at hSw); go_simp; try (with_reducible rfl)
    (try simp only [Act.put, List.setIfInBounds_toArray, List.set_cons_zero, List.set_cons_succ])
    refine wpAnyH_take (i := 3) (oi := { dst := some 21, op := Op.load 44 (Operand.tmp 20), type := 44, pos := "flow.go:138", after := #[{ on := 2, ground := Ground.data }], guard := none }) (v := ?vq3_4) rfl (by kernel_rfl) (by kernel_rfl) (by kernel_rfl) (fun _ _ _ h => h) (Or.inl ⟨by rfl, ?hq3_4⟩) (by assumption) ?_
    case hq3_4 => intro w hSw; (try dsimp only at hSw); go_simp; try (with_reducible rfl)
    (try simp only [Act.put, List.setIfInBounds_toArray, List.set_cons_zero, List.set_cons_succ])
    refine wpAnyH_take (i := 4) (oi := { dst := some 22, op := Op.move (Operand.tmp 8), type := 3, pos := "flow.go:138", after := #[], guard := none }) (v := ?vq4_5) rfl (by kernel_rfl) (by kernel_rfl) (by kernel_rfl) (fun _ _ _ h => h) (Or.inl ⟨by rfl, ?hq4_5⟩) (by assumption) ?_
    case hq4_5 => intro w hSw; (try dsimp only at hSw); go_simp; try (with_reducible rfl)
    (try simp only [Act.put, List.setIfInBounds_toArray, List.set_cons_zero, List.set_cons_succ])
    refine wpAnyH_take (i := 5) (oi := { dst := some 23, op := Op.indexAddr 44 (Operand.tmp 21) (Operand.tmp 22), type := 0, pos := "flow.go:138", after := #[{ on := 3, ground := Ground.data }, { on := 4, ground := Ground.data }], guard := none }) (v := ?vq5_6) rfl (by kernel_rfl) (by kernel_rfl) (by kernel_rfl) (fun _ _ _ h => h) (Or.inl ⟨by rfl, ?hq5_6⟩) (by assumption) ?_
    case hq5_6 => intro w hSw; (try dsimp only at hSw); go_simp; try (with_reducible rfl)
    (try simp only [Act.put, List.setIfInBounds_toArray, List.set_cons_zero, List.set_cons_succ])
    refine wpAnyH_take (i := 6) (oi := { dst := some 24, op := Op.load 26 (Operand.tmp 23), type := 26, pos := "flow.go:138", after := #[{ on := 5, ground := Ground.data }], guard := none }) (v := ?vq6_7) rfl (by kernel_rfl) (by kernel_rfl) (by kernel_rfl) (fun _ _ _ h => h) (Or.inl ⟨by rfl, ?hq6_7⟩) (by assumption) ?_
    case hq6_7 => intro w hSw; (try dsimp only at hSw); go_simp; try (with_reducible rfl)
    (try simp only [Act.put, List.setIfInBounds_toArray, List.set_cons_zero, List.set_cons_succ])
    refine wpAnyH_take (i := 7) (oi := { dst := some 25, op := Op.load 3 (Operand.tmp 4), type := 3, pos := "flow.go:138", after := #[], guard := none }) (v := ?vq7_8) rfl (by kernel_rfl) (by kernel_rfl) (by kernel_rfl) (fun _ _ _ h => h) (Or.inl ⟨by rfl, ?hq7_8⟩) (by assumption) ?_
    case hq7_8 => intro w hSw; (try dsimp only at hSw); go_simp; try (with_reducible rfl)
    (try simp only [Act.put, List.setIfInBounds_toArray, List.set_cons_zero, List.set_cons_succ])
    refine wpAnyH_take (i := 8) (oi := { dst := some 26, op := Op.load 4 (Operand.tmp 5), type := 4, pos := "flow.go:138", after := #[], guard := none }) (v := ?vq8_9) rfl (by kernel_rfl) (by kernel_rfl) (by kernel_rfl) (fun _ _ _ h => h) (Or.inl ⟨by rfl, ?hq8_9⟩) (by assumption) ?_
    case hq8_9 => intro w hSw; (try dsimp only at hSw); go_simp; try (with_reducible rfl)
    (try simp only [Act.put, List.setIfInBounds_toArray, List.set_cons_zero, List.set_cons_succ])
    refine wpAnyH_take (i := 9) (oi := { dst := some 27, op := Op.indexAddr 26 (Operand.tmp 24) (Operand.tmp 25), type := 0, pos := "flow.go:138", after := #[{ on := 6, ground := Ground.data }, { on := 7, ground := Ground.data }, { on := 0, ground := Ground.phase }, { on := 1, ground := Ground.phase }, { on := 2, ground := Ground.phase }, { on := 3, ground := Ground.phase }, { on := 4, ground := Ground.phase }, { on := 5, ground := Ground.phase }, { on := 6, ground := Ground.phase }, { on := 7, ground := Ground.phase }, { on := 8, ground := Ground.phase }], guard := none }) (v := ?vq9_10) rfl (by kernel_rfl) (by kernel_rfl) (by kernel_rfl) (fun _ _ _ h => h) (Or.inl ⟨by rfl, ?hq9_10⟩) (by assumption) ?_
    case hq9_10 => intro w hSw; (try dsimp only at hSw); go_simp; try (with_reducible rfl)
    (try simp only [Act.put, List.setIfInBounds_toArray, List.set_cons_zero, List.set_cons_succ])
    have hcx := HX.out.1
    have hfx := HX.out.2
    refine wpAnyH_ready (rs := [10]) (by kernel_rfl) (by simp) ?_
    refine AllReadyH.cons (o := { dst := none, op := Op.store 4 (Operand.tmp 27) (Operand.tmp 26), type := 0, pos := "flow.go:138", after := #[{ on := 9, ground := Ground.data }, { on := 8, ground := Ground.data }, { on := 0, ground := Ground.phase }, { on := 1, ground := Ground.phase }, { on := 2, ground := Ground.phase }, { on := 3, ground := Ground.phase }, { on := 4, ground := Ground.phase }, { on := 5, ground := Ground.phase }, { on := 6, ground := Ground.phase }, { on := 7, ground := Ground.phase }, { on := 8, ground := Ground.phase }], guard := none }) rfl (fun K hK => ?_) AllReadyH.nil
    go_simp
    refine hK.out _ _ ?_ (fun hHeld => ?_)
    · obtain ⟨q1, q2, q3, q4, q5⟩ := HC.out
      obtain ⟨n1', n2', n3', n4', n5'⟩ := HN.out
      exact ⟨(World.cell?_setCell_far _ _ _ _ n1').trans q1, (World.cell?_setCell_far _ _ _ _ n2').trans q2, (World.cell?_setCell_far _ _ _ _ n3').trans q3, (World.cell?_setCell_far _ _ _ _ n4').trans q4, (World.cell?_setCell_far _ _ _ _ n5').trans q5⟩
    clear hK K
    (try simp only [Act.put, List.setIfInBounds_toArray, List.set_cons_zero, List.set_cons_succ])
    refine wpAnyH_done (by kernel_rfl) ?_ _
    rw [← HW5.out]
    clear yP yJ y1 hcx hfx
    cases c1
    · cases c2
      · gi_wp2_with (gi_at_call 47; refine (CallsIn.inRound _ (callsIn_wide.2 HL2'.out)).mono ?_; clear HL2'; rintro e _ ⟨rfl, rfl⟩)
        simp +zetaDelta only [Exit.inBlock, RoundQ]
        obtain ⟨h1, h2, h3, h4, h5, h6, h7, hrec, hD, ht⟩ := HI.out
        obtain ⟨h1', hA5, hk5, hq5, hcol', hmono, hl1, hl2, hlen, hrec', hs5⟩ := HJ.out
        have hst := h6.step hk ht hmono htc Q' (by rw [if_pos (hl2.trans hl1.symm)])
        have hcn := cnt_up (L := E.c.length) hmono (colF F' E.so j) t
        rw [← colF_set _ _ _ _ hlen] at hst hcn
        exact ⟨hk5, h1'.trans hk5, _, Q', v', hA5, hcol', hq5, h5, hst, by omega⟩
      · gi_wp2_with (first | (gi_at_call 47; refine (CallsIn.inRound _ (callsIn_wide.2 HL2'.out)).mono ?_; clear HL2'; rintro e _ ⟨rfl, rfl⟩) | (gi_at_call 57; refine (CallsIn.inRound _ (callsIn_wide.2 HP.out)).mono ?_; rintro e w6 ⟨⟨u, rfl⟩, hb6, hk6, v6, hq6, ho6⟩; have H6 := Lib.hid (And.intro hb6 (And.intro hk6 (And.intro hq6 ho6))); clear hb6 hk6 hq6 ho6))
        simp +zetaDelta only [Exit.inBlock, RoundQ]
        obtain ⟨h1, h2, h3, h4, h5, h6, h7, hrec, hD, ht⟩ := HI.out
        obtain ⟨h1', hA5, hk5, hq5, hcol', hmono, hl1, hl2, hlen, hrec', hs5⟩ := HJ.out
        obtain ⟨hb6, hk6, hq6, ho6⟩ := H6.out
        have hne : lvS E.N E.A E.so j t true ≠ lvS E.N E.A E.so j t (colF F' E.so j t) := by
          rw [hl1, hl2]
          cases E.so <;> decide
        have hst := h6.step hk ht hmono htc (Q' ++ [t]) (by rw [if_neg hne])
        have hcn := cnt_new (L := E.c.length) hmono (colF F' E.so j) t (ones_lt htc).1 hne
        rw [← colF_set _ _ _ _ hlen] at hst hcn
        have hA6 : E.At (setF F' t j E.so) w6 := hA5.of (fun b hb hx => by
          obtain ⟨cs, tt, hc, hor⟩ := hx
          refine hk6.same b hb (fun h => ?_)
          obtain ⟨hnW, hkW, hN, hP, hJ, hS, hAt, hcol, hF, hμ, hμ2, hq, hE, hbx, hw0, hbR⟩ := HA.out
          have hlt : b < E.n1 := hbx b (by
            rcases hor with h | h | h | h | h
            · exact .inr (.inr (.inr (.inr (.inl h))))
            · exact .inr (.inr (.inr (.inr (.inr (.inl h)))))
            · exact .inr (.inr (.inr (.inr (.inr (.inr (.inl h))))))
            · exact .inr (.inr (.inr (.inr (.inr (.inr (.inr (.inl h)))))))
            · exact .inr (.inr (.inr (.inr (.inr (.inr (.inr (.inr h))))))))
          rcases h with h | h
          · have := hq5.qn
            omega
          · have := hq5.vn _ h
            omega)
        have hkA := Kep.sub hk5 hk6 (fun i hi => by
          rcases hi with h | h
          · exact .inr (.inr (.inl h))
          · exact .inr (.inr (.inr (h5 i h))))
        refine ⟨hkA, h1'.trans hkA, _, Q' ++ [t], v6, hA6, hcol', hq6, fun b hb => ?_, hst, ?_⟩
        · rcases ho6 b hb with h | h
          · exact h5 b h
          · exact .inr (by omega)
        · rw [List.length_append, List.length_singleton]
          omega
    · cases c2
      · gi_wp2_with (first | (gi_at_call 47; refine (CallsIn.inRound _ (callsIn_wide.2 HL2'.out)).mono ?_; clear HL2'; rintro e _ ⟨rfl, rfl⟩) | (gi_at_call 57; refine (CallsIn.inRound _ (callsIn_wide.2 HP.out)).mono ?_; rintro e w6 ⟨⟨u, rfl⟩, hb6, hk6, v6, hq6, ho6⟩; have H6 := Lib.hid (And.intro hb6 (And.intro hk6 (And.intro hq6 ho6))); clear hb6 hk6 hq6 ho6))
        simp +zetaDelta only [Exit.inBlock, RoundQ]
        obtain ⟨h1, h2, h3, h4, h5, h6, h7, hrec, hD, ht⟩ := HI.out
        obtain ⟨h1', hA5, hk5, hq5, hcol', hmono, hl1, hl2, hlen, hrec', hs5⟩ := HJ.out
        obtain ⟨hb6, hk6, hq6, ho6⟩ := H6.out
        have hne : lvS E.N E.A E.so j t true ≠ lvS E.N E.A E.so j t (colF F' E.so j t) := by
          rw [hl1, hl2]
          cases E.so <;> decide
        have hst := h6.step hk ht hmono htc (Q' ++ [t]) (by rw [if_neg hne])
        have hcn := cnt_new (L := E.c.length) hmono (colF F' E.so j) t (ones_lt htc).1 hne
        rw [← colF_set _ _ _ _ hlen] at hst hcn
        have hA6 : E.At (setF F' t j E.so) w6 := hA5.of (fun b hb hx => by
          obtain ⟨cs, tt, hc, hor⟩ := hx
          refine hk6.same b hb (fun h => ?_)
          obtain ⟨hnW, hkW, hN, hP, hJ, hS, hAt, hcol, hF, hμ, hμ2, hq, hE, hbx, hw0, hbR⟩ := HA.out
          have hlt : b < E.n1 := hbx b (by
            rcases hor with h | h | h | h | h
            · exact .inr (.inr (.inr (.inr (.inl h))))
            · exact .inr (.inr (.inr (.inr (.inr (.inl h)))))
            · exact .inr (.inr (.inr (.inr (.inr (.inr (.inl h))))))
            · exact .inr (.inr (.inr (.inr (.inr (.inr (.inr (.inl h)))))))
            · exact .inr (.inr (.inr (.inr (.inr (.inr (.inr (.inr h))))))))
          rcases h with h | h
          · have := hq5.qn
            omega
          · have := hq5.vn _ h
            omega)
        have hkA := Kep.sub hk5 hk6 (fun i hi => by
          rcases hi with h | h
          · exact .inr (.inr (.inl h))
          · exact .inr (.inr (.inr (h5 i h))))
        refine ⟨hkA, h1'.trans hkA, _, Q' ++ [t], v6, hA6, hcol', hq6, fun b hb => ?_, hst, ?_⟩
        · rcases ho6 b hb with h | h
          · exact h5 b h
          · exact .inr (by omega)
        · rw [List.length_append, List.length_singleton]
          omega
      · gi_wp2_with (gi_at_call 47; refine (CallsIn.inRound _ (callsIn_wide.2 HL2'.out)).mono ?_; clear HL2'; rintro e _ ⟨rfl, rfl⟩)
        simp +zetaDelta only [Exit.inBlock, RoundQ]
        obtain ⟨h1, h2, h3, h4, h5, h6, h7, hrec, hD, ht⟩ := HI.out
        obtain ⟨h1', hA5, hk5, hq5, hcol', hmono, hl1, hl2, hlen, hrec', hs5⟩ := HJ.out
        have hst := h6.step hk ht hmono htc Q' (by rw [if_pos (hl2.trans hl1.symm)])
        have hcn := cnt_up (L := E.c.length) hmono (colF F' E.so j) t
        rw [← colF_set _ _ _ _ hlen] at hst hcn
        exact ⟨hk5, h1'.trans hk5, _, Q', v', hA5, hcol', hq5, h5, hst, by omega⟩
  case hdone =>
    rintro W2 ⟨h1, F', Q', v', h2, h3, h4, h5, h6, h7⟩ hD
    have HI := Lib.hid (And.intro h1 (And.intro h2 (And.intro h3 (And.intro h4 (And.intro h5 (And.intro h6 (And.intro h7 hD)))))))
    clear h1 h2 h3 h4 h5 h6 h7 hD
    go_wp2
    refine leaves_marks [w1.heap.size] W2 (by simp) (fun D hD => by
      rw [List.mem_singleton] at hD
      subst hD
      exact HI.out.2.2.2.2.2.2.2) ⟨_, results_none rfl _ _ _, ?_⟩
    obtain ⟨h1, h2, h3, h4, h5, h6, h7, hD⟩ := HI.out
    obtain ⟨v1, hsz, hbel, hq1, xP, xJ, xS, hA1, hs, xN⟩ := hW.out
    obtain ⟨hnW, hkW, hN, hP, hJ, hS, hAt, hcol, hF, hμ, hμ2, hq, hE, hbx, hw0, hbR⟩ := HA.out
    obtain ⟨hRf, hnm, hlow⟩ := HM.out
    have hds : ∀ D ∈ [w1.heap.size], ∃ o, W2.heap[D]? = some o ∧ o.isCells = false := fun D hD' => by
      rw [List.mem_singleton] at hD'
      subst hD'
      exact ⟨_, hD, rfl⟩
    have hsh : ∀ b, b ≠ w1.heap.size → (shutAll W2 [w1.heap.size]).heap[b]? = W2.heap[b]? := fun b hb => shutAll_other _ _ _ (fun h => hb (by simpa using h))
    have hsb : Below w1.heap.size W2 (shutAll W2 [w1.heap.size]) := shutAll_below _ _ (fun D hD => by rw [List.mem_singleton] at hD; omega)
    have hkk : Kep (fun b => ∃ i ∈ ones E.c, b = E.Rf i) E.w0 (shutAll W2 [w1.heap.size]) := by
      refine ⟨hsb.os.trans (h1.os.trans (hbel.os.trans hkW.os)), hsb.tape.trans (h1.tape.trans (hbel.tape.trans hkW.tape)), hsb.output.trans (h1.output.trans (hbel.output.trans hkW.output)), ?_, fun b hb hm => ?_⟩
      · rw [shutAll_size]
        have := h1.size
        have := hbel.size
        have := hkW.size
        omega
      · have e1 := hsh b (by omega)
        have e2 := h1.same b (by omega) (hlow b (by omega) (fun i hi e => hm ⟨i, hi, e⟩))
        have e3 := hbel.block b (by have := hkW.size; omega)
        exact e1.trans (e2.trans (e3.trans (hkW.same b hb hm)))
    have box : ∀ {b : Nat} {t : TypeId} {cs : List Value}, (b = bN ∨ b = bP ∨ b = bJ ∨ b = bS) → Bx w1 b t cs → Bx (shutAll W2 [w1.heap.size]) b t cs := fun hb hc => by
      refine (hc.kep h1 (hlow _ (hbx _ (by
        rcases hb with h | h | h | h
        · exact .inl h
        · exact .inr (.inl h)
        · exact .inr (.inr (.inl h))
        · exact .inr (.inr (.inr (.inl h))))) (hbR _ hb))).shut hds
    have hA2 : E.At F' (shutAll W2 [w1.heap.size]) := h2.of (fun b hb hx => by
      obtain ⟨cs, tt, hc, -⟩ := hx
      refine hsh b (fun e => ?_)
      subst e
      rw [show W2.heap[_]? = _ from hc] at hD
      cases hD)
    refine ⟨⟨_, rfl⟩, Q'.length + cnt E.c.length (lvS E.N E.A E.so j) (colF F' E.so j), Q', v', by omega, h4.of (hsh _ (by omega)) (fun b hb => hsh _ (fun h => by
      rcases h5 b hb with h' | h'
      · have := HO.out.1 _ h'
        omega
      · omega)), ?_, hkk, box (.inl rfl) xN, box (.inr (.inl rfl)) xP, box (.inr (.inr (.inl rfl))) xJ, box (.inr (.inr (.inr rfl))) xS, F', hA2, h3, h6.close, rfl, by omega⟩
    rw [shutAll_size]
    have := h1.size
    omega

end Go.Proofs.Ytfpdecjlfnambaa
