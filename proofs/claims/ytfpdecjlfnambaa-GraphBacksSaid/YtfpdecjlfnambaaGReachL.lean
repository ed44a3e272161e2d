/-
  Graph: a look of Reach. Conditions: the body, what is reached, and the queue lie in the heap.
-/
import Derived.Test.YtfpdecjlfnambaaGSearch
namespace Go.Proofs.Ytfpdecjlfnambaa
open Go Go.RowKit Go.Shelf

attribute [local go_sem] Oper.semAt_some

abbrev bitF (V : List Bool) : Nat → Bool := fun i => V[i]?.getD false
theorem bitF_set {V : List Bool} {t : Nat} (h : t < V.length) : bitF (V.set t true) = upB (bitF V) t := by
  funext i
  unfold bitF upB
  rw [List.getElem?_set]
  by_cases e : i = t
  · subst e
    simp [h]
  · rw [if_neg e, if_neg (fun x => e x.symm)]
abbrev idL : Nat → Bool → Bool := fun _ b => b
/-- What is so between two looks of Reach. -/
def RJ (n1 : Nat) (w0 : World) (B : Bv) (rb b1 b3 : Nat) (μ : Nat) (Q : List Nat) (W : World) : Prop :=
  n1 ≤ W.heap.size ∧ Below w0.heap.size w0 W ∧ Bx W b1 25 B.cs ∧ Bx W b3 26 [.slice (some ⟨rb, 0, none⟩) B.g.length B.g.length] ∧
    ∃ V : List Bool, V.length = B.g.length ∧ Bx W rb 4 (bC V) ∧ Full (fun i => i < B.g.length) (fun i => i = 0) (tos B.g) idL (bitF V) Q ∧ μ = Q.length + cnt B.g.length idL (bitF V) ∧ μ ≤ 2000

/-- What a look must leave. -/
def Looked (J : Nat → List Nat → World → Prop) (n1 qb μ : Nat) (W' : World) : Prop := ∃ μ' Q' v', μ' < μ ∧ QAt n1 W' qb v' Q' ∧ J μ' Q' W'
/-- What is so between two rounds of a look. -/
def ReachI (w1 : World) (L rb qb n1 : Nat) (v : Value) (next : Nat → List Nat) (x μ k : Nat) (W : World) : Prop :=
  Kep (fun b => b = rb ∨ b = qb ∨ v.ownBlock = some b ∨ w1.heap.size + 2 ≤ b) w1 W ∧ ∃ V' Q' v', V'.length = L ∧ Bx W rb 4 (bC V') ∧ QAt n1 W qb v' Q' ∧ (∀ b, v'.ownBlock = some b → v.ownBlock = some b ∨ w1.heap.size + 2 ≤ b) ∧
    Part (fun i => i < L) (fun i => i = 0) next idL (bitF V') Q' x k ∧ Q'.length + cnt L idL (bitF V') + 1 ≤ μ

set_option maxRecDepth 100000 in
set_option maxHeartbeats 4000000 in
theorem look_reach (n0 n1 : Nat) (w0 : World) (B : Bv) (hB : B.At n0 w0) (hs : B.Small) (hn0 : n0 ≤ w0.heap.size) (rb b1 b3 : Nat) (hrb : w0.heap.size ≤ rb ∧ rb < n1) (hb1 : w0.heap.size ≤ b1 ∧ b1 < n1) (hb3 : w0.heap.size ≤ b3 ∧ b3 < n1)
    (qb μ x : Nat) (Q : List Nat) (W : World) (v : Value) (hq : QAt n1 W qb v Q) (hj : RJ n1 w0 B rb b1 b3 μ (x :: Q) W) :
    Calls Try.prog 41 #[.int .i64 (x : Int), .func (.func 57) #[.pointer (some ⟨qb, 0, none⟩)] #[], .pointer (some ⟨b1, 0, none⟩), .pointer (some ⟨b3, 0, none⟩)] W fun e W' =>
      (∃ u, e = .returned u) ∧ Looked (RJ n1 w0 B rb b1 b3) n1 qb μ W' := by
  obtain ⟨hnW, hbW, hx1, hx3, V, hV, hrV, hF, hμ, hμ2⟩ := hj
  have hxL : x < B.g.length := (hF.queue x (by simp)).1
  obtain ⟨nm, pa, lo, oa, cap, g⟩ := B
  have c1 := hx1.cell 0
  have c2 := hx1.cell 1
  have c3 := hx1.cell 2
  have c4 := hx1.cell 3
  simp at c1 c2 c3 c4
  have d1 := cellA (.cells #[.func (.func 57) #[.pointer (some ⟨qb, 0, none⟩)] #[]] 93) c1
  have d2 := cellA (.cells #[.func (.func 57) #[.pointer (some ⟨qb, 0, none⟩)] #[]] 93) c2
  have d3 := cellA (.cells #[.func (.func 57) #[.pointer (some ⟨qb, 0, none⟩)] #[]] 93) c3
  have hqbW := hq.box.lt
  obtain ⟨L, hL⟩ : ∃ L, L = g.length := ⟨_, rfl⟩
  simp only at hs hxL hV hrV hF hμ hx3 hx1
  have hL1 : L ≤ 1000 := by rw [hL]; exact hs.1
  rw [← hL] at hx3 hxL hV hF hμ c4
  have d4 := cellA (.cells #[.func (.func 57) #[.pointer (some ⟨qb, 0, none⟩)] #[]] 93) c4
  have HA := Lib.hid (And.intro hnW (And.intro hbW (And.intro hx1 (And.intro hx3 (And.intro hV (And.intro hrV (And.intro hF (And.intro hμ (And.intro hμ2 (And.intro hq (And.intro hL (And.intro hB (And.intro hs hn0)))))))))))))
  clear hnW hbW hx1 hx3 hV hrV hF hμ hμ2 hq hB hs hn0
  refine calls_of_wp_marks Try.func41 rfl ?_
  simp only [Try.ntmps41, List.size_toArray, List.length_cons, List.length_nil, Nat.reduceAdd, Nat.reduceSub, Array.replicate_succ, Array.replicate_zero, List.push_toArray, List.append_toArray, List.nil_append, List.cons_append]
  have hgo := goes_any ⟨nm, pa, lo, oa, cap, g⟩ x
  unfold Bv.v Bv.cs at hgo
  simp only [← hL] at hgo
  have HG := Lib.hid hgo
  clear hgo hL
  go_wp2_with (go_at_call 31; refine (HG.out _).mono ?_; rintro e w' ⟨rfl, rfl⟩)
  obtain ⟨w1, hw1⟩ : ∃ w1, w1 = ((W.alloc (.cells #[.func (.func 57) #[.pointer (some ⟨qb, 0, none⟩)] #[]] 93)).alloc (.cells #[nm, pa, lo, .slice oa L cap] 25)).alloc (.cells #[.int .i64 (x : Int)] 3) := ⟨_, rfl⟩
  rw [← hw1]
  obtain ⟨s, hs⟩ : ∃ s, s = W.heap.size := ⟨_, rfl⟩
  have v1 : Bx w1 s 93 [.func (.func 57) #[.pointer (some ⟨qb, 0, none⟩)] #[]] := by
    rw [hw1, hs]
    exact ((Bx.new W _ [.func (.func 57) #[.pointer (some ⟨qb, 0, none⟩)] #[]]).alloc _).alloc _
  have v2 : Bx w1 (s + 1) 25 [nm, pa, lo, .slice oa L cap] := by
    rw [hw1, hs]
    have := (Bx.new (W.alloc (.cells #[.func (.func 57) #[.pointer (some ⟨qb, 0, none⟩)] #[]] 93)) 25 [nm, pa, lo, .slice oa L cap]).alloc (.cells #[.int .i64 (x : Int)] 3)
    rwa [World.size_alloc] at this
  have v3 : Bx w1 (s + 1 + 1) 3 [.int .i64 (x : Int)] := by
    rw [hw1, hs]
    have := Bx.new ((W.alloc (.cells #[.func (.func 57) #[.pointer (some ⟨qb, 0, none⟩)] #[]] 93)).alloc (.cells #[nm, pa, lo, .slice oa L cap] 25)) 3 [.int .i64 (x : Int)]
    rwa [World.size_alloc, World.size_alloc] at this
  have hsz : w1.heap.size = s + 1 + 1 + 1 := by rw [hw1, hs]; simp
  have hbel : Below W.heap.size W w1 := by
    rw [hw1]
    exact (((Below.refl _ W).alloc (Nat.le_refl _) _).alloc (by simp) _).alloc (by simp; omega) _
  obtain ⟨hnW, hbW, hx1, hx3, hV, hrV, hF, hμ, hμ2, hq, hL, hB, hss, hn0⟩ := HA.out
  have hq1 := hq.below hbel
  have hr1 := hrV.below hbel hrV.lt
  have hx11 := hx1.below hbel hx1.lt
  have hx31 := hx3.below hbel hx3.lt
  have hb0 : Below w0.heap.size w0 w1 := hbW.trans (hbel.mono hbW.size)
  have hW := Lib.hid (And.intro v1 (And.intro v2 (And.intro v3 (And.intro hsz (And.intro hbel (And.intro hq1 (And.intro hr1 (And.intro hx11 (And.intro hx31 (And.intro hb0 hs))))))))))
  have hown0 : ∀ b, v.ownBlock = some b → b < s := fun b hb => by
    obtain ⟨cs, hc⟩ := hq.row.own hb
    rw [hs]
    exact hc.lt
  have hqb : qb < s := by rw [hs]; exact hq.box.lt
  have HO := Lib.hid (And.intro hown0 (And.intro hq.qn hq.vn))
  have hsmall : (⟨nm, pa, lo, oa, cap, g⟩ : Bv).Small := hss
  have hgiv := goes_giv n0 w0 ⟨nm, pa, lo, oa, cap, g⟩ hB x (s + 1) (s + 1 + 1) (by show x < g.length; omega) hsmall
  have HGV := Lib.hid hgiv
  have hs0 : n1 ≤ s := by omega
  rw [← hs]
  clear v1 v2 v3 hsz hbel hq1 hr1 hx11 hx31 hb0 hs hw1 hown0 hgiv hsmall hnW hbW hx1 hx3 hV hrV hF hμ hμ2 hq hL hB hss hn0 c1 c2 c3 c4 d1 d2 d3 d4 hqbW
  refine wp_range HGV.out rfl (enters_of Try.func49 (by kernel_rfl) rfl) (fun _ => rfl) (fun b => b = rb ∨ b = qb ∨ v.ownBlock = some b ∨ w1.heap.size + 2 ≤ b)
    ⟨fun h => ?hM1, fun h => ?hM2⟩
    (fun k W => ReachI w1 L rb qb n1 v (tos g) x μ k W)
    ?hI ?hID ?h0 ?hround ?hdone
  case hM1 =>
    have := hW.out.2.2.2.1
    rcases h with h | h | h | h
    · omega
    · omega
    · have := HO.out.1 _ h
      omega
    · omega
  case hM2 =>
    have := hW.out.2.2.2.1
    rcases h with h | h | h | h
    · omega
    · omega
    · have := HO.out.1 _ h
      omega
    · omega
  case hI =>
    rintro k W r o o' hr ho hoc ⟨h1, V', Q', v', h2, h3, h4, h5⟩
    exact ⟨h1.put (.inl hr) _, V', Q', v', h2, h3.put _ ho hoc, h4.put _ ho hoc, h5⟩
  case hID =>
    rintro k W ⟨h1, -⟩
    obtain ⟨v1, v2, v3, hsz, hbel, hq1, hr1, hx11, hx31, hb0, hs⟩ := hW.out
    have hnm : ∀ b, b < w1.heap.size + 2 → b ≠ rb → b ≠ qb → (v.ownBlock ≠ some b) → ¬ (b = rb ∨ b = qb ∨ v.ownBlock = some b ∨ w1.heap.size + 2 ≤ b) := fun b h1 h2 h3 h4 h => by
      rcases h with h | h | h | h
      · exact h2 h
      · exact h3 h
      · exact h4 h
      · omega
    have hL := HA.out.2.2.2.2.2.2.2.2.2.2.1
    refine ⟨by
      have := v2.kep h1 (hnm _ (by omega) (by omega) (by omega) (fun h => by have := HO.out.1 _ h; omega))
      rw [hL] at this
      exact this, v3.kep h1 (hnm _ (by omega) (by omega) (by omega) (fun h => by have := HO.out.1 _ h; omega)), ?_⟩
    have hk := h1.to_below (n := w0.heap.size) hb0.size (fun b hb h => by
      rcases h with h | h | h | h
      · omega
      · have := HO.out.2.1
        omega
      · have := HO.out.2.2 _ h
        omega
      · have := hb0.size
        omega)
    exact (hb0.trans hk).mono HA.out.2.2.2.2.2.2.2.2.2.2.2.2.2
  case h0 =>
    intro r
    obtain ⟨v1, v2, v3, hsz, hbel, hq1, hr1, hx11, hx31, hb0, hs⟩ := hW.out
    obtain ⟨hnW, hbW, hx1, hx3, hV, hrV, hF, hμ, hμ2, hq, hL, hB, hss, hn0⟩ := HA.out
    have hal : Below w1.heap.size w1 ((w1.alloc (.deferred (some []))).alloc (.loop r)) := ((Below.refl _ w1).alloc (Nat.le_refl _) _).alloc (by simp) _
    refine ⟨((Kep.refl _ _).alloc _).alloc _, V, Q, v, hV, (hr1.alloc _).alloc _, hq1.below hal, fun b hb => .inl hb, hF.open, ?_⟩
    rw [hμ, List.length_cons]
    omega
  case hround =>
    rintro k hk W2 ⟨h1, V', Q', v', h2, h3, h4, h5, h6, h7⟩ ⟨r0, hrec⟩ hD
    obtain ⟨t, ht⟩ : ∃ t, t = (tos g x)[k] := ⟨_, rfl⟩
    rw [← ht]
    have htL : t < L := by
      have := tv_lt (ht ▸ List.getElem_mem hk : t ∈ tv g.length (toR g x))
      have hL := HA.out.2.2.2.2.2.2.2.2.2.2.1
      omega
    have HI := Lib.hid (And.intro h1 (And.intro h2 (And.intro h3 (And.intro h4 (And.intro h5 (And.intro h6 (And.intro h7 (And.intro hrec (And.intro hD ht)))))))))
    clear h1 h2 h3 h4 h5 h6 h7 hrec hD ht
    gi_wp2
    refine ⟨Kep.refl _ _, fun rr => ?_⟩
    obtain ⟨W3, hW3⟩ : ∃ W3, W3 = W2.putObj (w1.heap.size + 1) (.loop rr) := ⟨_, rfl⟩
    rw [← hW3]
    obtain ⟨h1, h2, h3, h4, h5, h6, h7, hrec, hD, ht⟩ := HI.out
    obtain ⟨v1, v2, v3, hsz, hbel, hq1, hr1, hx11, hx31, hb0, hs⟩ := hW.out
    have hrl := (Array.getElem?_eq_some_iff.1 hrec).1
    have h1' : Kep (fun b => b = rb ∨ b = qb ∨ v.ownBlock = some b ∨ w1.heap.size + 2 ≤ b) w1 W3 := by
      rw [hW3]
      exact h1.put (.inl (by omega)) _
    have h3' : Bx W3 rb 4 (bC V') := by
      rw [hW3]
      exact h3.put _ hrec rfl
    have h4' : QAt n1 W3 qb v' Q' := by
      rw [hW3]
      exact h4.put _ hrec rfl
    have hD' : W3.heap[w1.heap.size]? = some (.deferred (some [])) := by
      rw [hW3]
      exact (World.putObj_heap_other (by omega)).trans hD
    have hrec' : W3.heap[w1.heap.size + 1]? = some (.loop rr) := by
      rw [hW3]
      exact World.putObj_heap_same hrl
    have hnm : ∀ b, b < w1.heap.size + 2 → b ≠ rb → b ≠ qb → (v.ownBlock ≠ some b) → ¬ (b = rb ∨ b = qb ∨ v.ownBlock = some b ∨ w1.heap.size + 2 ≤ b) := fun b h1 h2 h3 h4 h => by
      rcases h with h | h | h | h
      · exact h2 h
      · exact h3 h
      · exact h4 h
      · omega
    have hqn := HO.out.2.1
    have y1 := (v1.kep h1' (hnm _ (by omega) (by omega) (by omega) (fun h => by have := HO.out.1 _ h; omega))).cell 0
    have y3 := (hx31.kep h1' (hnm _ (by omega) (fun e => by
      subst e
      exact absurd rfl (bx_ne hx31 hr1 (by decide))) (by omega) (fun h => by have := HO.out.2.2 _ h; omega))).cell 0
    simp at y1 y3
    have z1 := h3'.cell t
    rw [bC_get (by omega)] at z1
    have z2 := h3'.frozen t
    have hnW3 : n1 ≤ W3.heap.size := by have := h1'.size; omega
    have hQ100 : Q'.length ≤ 100000 := by
      have := HA.out.2.2.2.2.2.2.2.2.1
      omega
    have HJ := Lib.hid (And.intro h1' (And.intro h3' (And.intro h4' (And.intro hD' (And.intro hrec' (And.intro hnW3 hQ100))))))
    have hfn : ∀ f, (WR (w1.heap.size + 1)).fn f = True := fun _ => rfl
    have hdp : (WR (w1.heap.size + 1)).depth = none := rfl
    have hfw : ∀ f, Fence.wide.fn f = True := fun _ => rfl
    have hdw : Fence.wide.depth = none := rfl
    obtain ⟨bt, hbt⟩ : ∃ bt, bt = V'[t]?.getD false := ⟨_, rfl⟩
    rw [← hbt] at z1
    have HBT := Lib.hid hbt
    clear h1 h2 h3 h4 h5 h6 h7 hrec hD ht v1 v2 v3 hsz hbel hq1 hr1 hx11 hx31 hb0 hs hrl h1' h3' h4' hD' hrec' hnm hqn hnW3 hQ100 hW3 hbt
    cases bt with
    | true =>
      gi_wp2
      simp +zetaDelta only [Exit.inBlock, RoundQ]
      obtain ⟨h1, h2, h3, h4, h5, h6, h7, hrec, hD, ht⟩ := HI.out
      obtain ⟨h1', h3', h4', hD', hrec', hnW3, hQ100⟩ := HJ.out
      have hup : upB (bitF V') t = bitF V' := by
        funext i
        unfold upB
        split
        · rename_i e
          subst e
          exact HBT.out
        · rfl
      have hst := h6.step hk ht (fun p h => by cases h) htL Q' (by rw [if_pos]; exact HBT.out)
      rw [hup] at hst
      exact ⟨Kep.refl _ _, h1', V', Q', v', h2, h3', h4', h5, hst, h7⟩
    | false =>
      have HP := Lib.hid (put_any n1 qb t v' Q' HJ.out.2.2.2.2.2.2 (W3.setCell ⟨rb, t, none⟩ (.bool true)) (by simp [World.setCell]; exact HJ.out.2.2.2.2.2.1)
        (HJ.out.2.2.1.of (Below.heap_setCell _ _ _ _ (bx_ne HJ.out.2.2.1.box HJ.out.2.1 (by decide))) (fun b hb => by
          obtain ⟨cs, hc⟩ := HJ.out.2.2.1.row.own hb
          exact Below.heap_setCell _ _ _ _ (bx_ne hc HJ.out.2.1 (by decide)))))
      gi_wp2_with (gi_at_call 57; refine (CallsIn.inRound _ (callsIn_wide.2 HP.out)).mono ?_; rintro e w5 ⟨⟨u, rfl⟩, hb5, hk5, v5, hq5, ho5⟩; have H5 := Lib.hid (And.intro hb5 (And.intro hk5 (And.intro hq5 ho5))); clear hb5 hk5 hq5 ho5)
      simp +zetaDelta only [Exit.inBlock, RoundQ]
      obtain ⟨h1, h2, h3, h4, h5, h6, h7, hrec, hD, ht⟩ := HI.out
      obtain ⟨h1', h3', h4', hD', hrec', hnW3, hQ100⟩ := HJ.out
      obtain ⟨hb5, hk5, hq5, ho5⟩ := H5.out
      have hsz := hW.out.2.2.2.1
      have hMM : ∀ b, v'.ownBlock = some b → v.ownBlock = some b ∨ w1.heap.size + 2 ≤ b := h5
      have hkA : Kep (fun b => b = rb ∨ b = qb ∨ v.ownBlock = some b ∨ w1.heap.size + 2 ≤ b) W3 w5 :=
        Kep.sub (Kep.setCell (M := fun b => b = rb ∨ b = qb ∨ v.ownBlock = some b ∨ w1.heap.size + 2 ≤ b) (p := ⟨rb, t, none⟩) (Kep.refl _ W3) (.inr (.inl rfl)) (.bool true)) hk5 (fun i hi => by
          rcases hi with h | h
          · exact .inr (.inr (.inl h))
          · exact .inr (.inr (.inr (hMM i h))))
      have hrow : Bx w5 rb 4 (bC (V'.set t true)) := by
        have e := h3'.set t (.bool true)
        rw [bC_set] at e
        refine e.kep hk5 (fun h => ?_)
        rcases h with h | h
        · exact bx_ne h3' h4'.box (by decide) h
        · obtain ⟨cs, hc⟩ := h4'.row.own h
          exact bx_ne h3' hc (by decide) rfl
      have hne : idL t true ≠ idL t (bitF V' t) := by
        show true ≠ V'[t]?.getD false
        rw [← HBT.out]
        simp
      have hst := h6.step hk ht (fun p h => by cases h) htL (Q' ++ [t]) (by rw [if_neg hne])
      have hcn := cnt_new (L := L) (lvs := idL) (fun p h => by cases h) (bitF V') t htL hne
      rw [← bitF_set (by omega)] at hst hcn
      refine ⟨hkA, h1'.trans hkA, V'.set t true, Q' ++ [t], v5, by rw [List.length_set]; exact h2, hrow, hq5, fun b hb => ?_, hst, ?_⟩
      · rcases ho5 b hb with h | h
        · exact hMM b h
        · refine .inr ?_
          have h9 : (w1.heap.size + 1) < W3.heap.size := (Array.getElem?_eq_some_iff.1 hrec').1
          simp [World.setCell] at h
          omega
      · rw [List.length_append, List.length_singleton]
        omega
  case hdone =>
    rintro W2 ⟨h1, V', Q', v', h2, h3, h4, h5, h6, h7⟩ hD
    have HI := Lib.hid (And.intro h1 (And.intro h2 (And.intro h3 (And.intro h4 (And.intro h5 (And.intro h6 (And.intro h7 hD)))))))
    clear h1 h2 h3 h4 h5 h6 h7 hD
    go_wp2
    refine leaves_marks [w1.heap.size] W2 (by simp) (fun D hD => by
      rw [List.mem_singleton] at hD
      subst hD
      exact HI.out.2.2.2.2.2.2.2) ⟨_, results_none rfl _ _ _, ?_⟩
    obtain ⟨h1, h2, h3, h4, h5, h6, h7, hD⟩ := HI.out
    obtain ⟨v1, v2, v3, hsz, hbel, hq1, hr1, hx11, hx31, hb0, hs⟩ := hW.out
    obtain ⟨hnW, hbW, hx1, hx3, hV, hrV, hF, hμ, hμ2, hq, hL, hB, hss, hn0⟩ := HA.out
    have hds : ∀ D ∈ [w1.heap.size], ∃ o, W2.heap[D]? = some o ∧ o.isCells = false := fun D hD' => by
      rw [List.mem_singleton] at hD'
      subst hD'
      exact ⟨_, hD, rfl⟩
    have hnm : ∀ b, b < w1.heap.size + 2 → b ≠ rb → b ≠ qb → (v.ownBlock ≠ some b) → ¬ (b = rb ∨ b = qb ∨ v.ownBlock = some b ∨ w1.heap.size + 2 ≤ b) := fun b h1 h2 h3 h4 h => by
      rcases h with h | h | h | h
      · exact h2 h
      · exact h3 h
      · exact h4 h
      · omega
    have hqn := HO.out.2.1
    have y1 := hx11.kep h1 (hnm _ (by omega) (fun e => by
      subst e
      exact absurd rfl (bx_ne hx11 hr1 (by decide))) (by omega) (fun h => by have := HO.out.2.2 _ h; omega))
    have y3 := hx31.kep h1 (hnm _ (by omega) (fun e => by
      subst e
      exact absurd rfl (bx_ne hx31 hr1 (by decide))) (by omega) (fun h => by have := HO.out.2.2 _ h; omega))
    have hsb : Below w1.heap.size W2 (shutAll W2 [w1.heap.size]) := shutAll_below _ _ (fun D hD => by rw [List.mem_singleton] at hD; omega)
    have hk0 := h1.to_below (n := w0.heap.size) hb0.size (fun b hb h => by
      rcases h with h | h | h | h
      · omega
      · omega
      · have := HO.out.2.2 _ h
        omega
      · have := hb0.size
        omega)
    subst hL
    refine ⟨⟨_, rfl⟩, Q'.length + cnt g.length idL (bitF V'), Q', v', by omega, h4.of (shutAll_other _ _ _ (fun h => by
      rw [List.mem_singleton] at h
      omega)) (fun b hb => shutAll_other _ _ _ (fun h => by
      rw [List.mem_singleton] at h
      rcases h5 b hb with h' | h'
      · have := HO.out.1 _ h'
        omega
      · omega)), ?_, (hb0.trans hk0).trans (hsb.mono hb0.size), ?_, y3.shut hds, V', h2, h3.shut hds, ?_, rfl, by omega⟩
    · rw [shutAll_size]
      have := h1.size
      omega
    · exact y1.shut hds
    · exact h6.close

end Go.Proofs.Ytfpdecjlfnambaa
