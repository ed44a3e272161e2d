/-
  Graph's laws: the document's Preds. Conditions: the body lies in the heap, and is small.
-/
import Derived.Test.YtfpdecjlfnambaaGTo
import Derived.Test.YtfpdecjlfnambaaGPreds
namespace Go.Proofs.Ytfpdecjlfnambaa
open Go Go.RowKit

/-- What is so while a block's goings are gone through. -/
def PdJ (g : Gb) (k base pr L : Nat) (vs0 : List Value) (W2 : World) (j : Nat) (V : World) : Prop :=
  Kep (PdM pr vs0 W2.heap.size) W2 V ∧ ∃ vs, vs.length = L ∧ PdAt V base pr vs (prdJ g k j) ∧ ∀ (x : Nat) (v : Value) (b : Nat), vs[x]? = some v → v.ownBlock = some b → PdM pr vs0 W2.heap.size b
theorem PdJ.grown {g : Gb} {k j base pr L x : Nat} {vs0 vs : List Value} {W2 V3 w5 : World} {u v' : Value} {P : Nat → List Nat} (h1 : Kep (PdM pr vs0 W2.heap.size) W2 V3) (h3 : vs.length = L) (h4 : PdAt V3 base pr vs P)
    (h5 : ∀ (x : Nat) (v : Value) (b : Nat), vs[x]? = some v → v.ownBlock = some b → PdM pr vs0 W2.heap.size b) (hvx : vs[x]? = some u) (hP : P = prdJ g k j) (hj : j < (tos g k).length) (hx : x = (tos g k)[j]) (hn : x ∉ (tos g k).take j)
    (hk5 : Kep (fun b => u.ownBlock = some b) V3 w5) (ho5 : w5.ownsRow base 3 1 v' ((P x).length + 1) (nC (P x) ++ [.int .i64 (k : Int)]))
    (hv5 : v'.ownBlock = u.ownBlock ∨ ∃ q, v'.ownBlock = some q ∧ V3.heap.size ≤ q) : PdJ g k base pr L vs0 W2 (j + 1) (w5.setCell ⟨pr, x, none⟩ v') := by
  have hk : Kep (PdM pr vs0 W2.heap.size) V3 w5 := (Kep.refl _ V3).sub hk5 (fun b hb => .inr (h5 x u b hvx hb))
  have hkF := hk.setCell (p := ⟨pr, x, none⟩) (.inr (.inl rfl)) v'
  have ho : w5.ownsRow base 3 1 v' (P x ++ [k]).length (nC (P x ++ [k])) := by
    rw [List.length_append, nC, List.map_append]
    exact ho5
  have p6 := h4.step (g := 0) hvx hk5 ho hv5
  refine ⟨h1.trans hkF, vs.set x v', by rw [List.length_set]; exact h3, ?_, fun z v b hz hb => ?_⟩
  · rw [← prdJ_grow hj hx hn, ← hP]
    exact p6
  · by_cases e : z = x
    · subst e
      rw [List.getElem?_set, if_pos rfl, if_pos (List.getElem?_eq_some_iff.1 hvx).1] at hz
      obtain rfl := Option.some.inj hz
      rcases hv5 with h | ⟨q, h, hq⟩
      · exact h5 _ u b hvx (h ▸ hb)
      · rw [h] at hb
        obtain rfl := Option.some.inj hb
        exact .inr (.inr (Nat.le_trans h1.size hq))
    · rw [List.getElem?_set, if_neg (fun h => e h.symm)] at hz
      exact h5 z v b hz hb

set_option maxRecDepth 100000 in
set_option maxHeartbeats 8000000 in
theorem rpreds_any (n0 : Nat) (B : Bv) (w : World) (hB : B.At n0 w) (hs : B.Small) (hn0 : n0 ≤ w.heap.size) : Calls Try.prog 19 #[B.v] w fun e w' => PredsT B.g w e w' := by
  obtain ⟨nm, pa, lo, oa, cap, g⟩ := B
  simp only at hs ⊢
  obtain ⟨L, hL⟩ : ∃ L, L = g.length := ⟨_, rfl⟩
  have hL1 : L ≤ 1000 := by rw [hL]; exact hs.1
  have hmk := make_irows L hL1
  obtain ⟨i3, hi3, hz3, hs3, hb3⟩ := info_parts infoInt
  have HI3 := Lib.hid (And.intro hi3 (And.intro hz3 (And.intro hs3 hb3)))
  have HA := Lib.hid (And.intro hB (And.intro hs (And.intro hn0 hL)))
  unfold Bv.v Bv.cs
  simp only [← hL]
  clear hB hs hn0 hL hi3 hz3 hs3 hb3
  go_enter Try.func19, Try.ntmps19
  go_upto_region 2 with fail
  obtain ⟨W1, hW1⟩ : ∃ W1, W1 = (w.alloc (.cells #[nm, pa, lo, .slice oa L cap] 25)).alloc (.cells (Array.replicate L (.slice none 0 0)) 42) := ⟨_, rfl⟩
  obtain ⟨s, hs'⟩ : ∃ s, s = w.heap.size := ⟨_, rfl⟩
  have v1 : Bx W1 s 25 [nm, pa, lo, .slice oa L cap] := by
    rw [hW1, hs']
    exact (Bx.new w _ [nm, pa, lo, .slice oa L cap]).alloc _
  have v2 : Bx W1 (s + 1) 42 (List.replicate L (.slice none 0 0)) := by
    rw [hW1, hs', ← List.toArray_replicate]
    have := Bx.new (w.alloc (.cells #[nm, pa, lo, .slice oa L cap] 25)) 42 (List.replicate L (.slice none 0 0))
    rwa [World.size_alloc] at this
  have hsz : W1.heap.size = s + 1 + 1 := by rw [hW1, hs']; simp
  have hbel : Below w.heap.size w W1 := by
    rw [hW1]
    exact ((Below.refl _ w).alloc (Nat.le_refl _) _).alloc (by simp) _
  rw [← hW1, ← hs']
  have HB := Lib.hid (And.intro v1 (And.intro v2 (And.intro hsz (And.intro hbel hs'))))
  clear v1 v2 hsz hbel hs' hW1 hmk
  go_wp2
  go_loopw [4] (fun u wr => ∃ (k : Nat) (vs : List Value), k ≤ L ∧ u = .int .i64 k ∧ Kep (fun b => b = s + 1) W1 wr ∧ vs.length = L ∧ PdAt wr W1.heap.size (s + 1) vs (prdK g k)) (fun u _ => L - (intOf u).toNat)
  case atStart => exact ⟨0, List.replicate L (.slice none 0 0), Nat.zero_le _, rfl, Kep.refl _ _, List.length_replicate, PdAt.start HB.out.2.1 (fun x => by simp [prdK])⟩
  case round =>
    obtain ⟨k, vs0, hk, rfl, hkW, hvl0, hPd⟩ := hrel
    obtain ⟨wo, rfl⟩ : ∃ wo : World, wo = wr := ⟨_, rfl⟩
    by_cases hlt : k < L
    · obtain ⟨v1, v2, hsz, hbel, hs'⟩ := HB.out
      obtain ⟨hB, hs, hn0, hL⟩ := HA.out
      have b1 := v1.kep hkW (by omega)
      have e0 := b1.cell 0
      have e1 := b1.cell 1
      have e2 := b1.cell 2
      have e3 := b1.cell 3
      simp at e0 e1 e2 e3
      have hW1s := hkW.size
      have hbwo : Below n0 w wo := ⟨hkW.os.trans hbel.os, hkW.tape.trans hbel.tape, hkW.output.trans hbel.output, by have := hbel.size; omega, fun b hb => (hkW.same b (by omega) (by omega)).trans (hbel.block b (by omega))⟩
      have HT : Go.RowKit.Hid (Calls Try.prog 23 #[.agg #[nm, pa, lo, .slice oa L cap], .int .i64 (k : Int)] wo fun e w' => ∃ v base, e = .returned v ∧ Below wo.heap.size wo w' ∧ wo.heap.size ≤ base ∧ w'.ownsRow base 3 1 v (tos g k).length (nC (tos g k))) := Lib.hid (by
        have h := to_any n0 ⟨nm, pa, lo, oa, cap, g⟩ k (by show k < g.length; omega) hs wo (hB.below hbwo (Nat.le_refl _)) (by omega)
        unfold Bv.v Bv.cs at h
        simp only [← hL] at h
        exact h)
      have HC := Lib.hid (And.intro hkW (And.intro hvl0 hPd))
      clear v1 v2 hsz hbel hs' hB hs hn0 hL b1 hW1s hbwo hkW hvl0 hPd
      go_upto_region 6 with (go_at_call 23; refine HT.out.mono ?_; clear HT e0 e1 e2 e3; rintro e w2 ⟨v, base, rfl, ht1, ht2, ht3⟩)
      obtain ⟨ot, ct, rfl, hints⟩ := own_parts ht3
      obtain ⟨nT, hnT⟩ : ∃ n, n = (tos g k).length := ⟨_, rfl⟩
      rw [← hnT] at hints ⊢
      obtain ⟨hkW, hvl0, hPd⟩ := HC.out
      have pd2 := hPd.below ht1
      have hown0 : ∀ (x : Nat) (v : Value) (b : Nat), vs0[x]? = some v → v.ownBlock = some b → b < wo.heap.size ∧ W1.heap.size ≤ b := fun x v b h1 h2 => by
        obtain ⟨v', i1, i2⟩ := hPd.own x (List.getElem?_eq_some_iff.1 h1).1
        rw [h1] at i1
        cases i1
        exact own_lt i2 h2
      have hsz := HB.out.2.2.1
      have hW1s := hkW.size
      have nM : ∀ b, (wo.heap.size ≤ b ∨ (b < W1.heap.size ∧ b ≠ s + 1)) → b < w2.heap.size → ¬ PdM (s + 1) vs0 w2.heap.size b := fun b h1 h2 h => by
        rcases h with h | ⟨x, v, h3, h4⟩ | h
        · omega
        · have := hown0 x v b h3 h4
          omega
        · omega
      have hnT1 : nT ≤ 1000 := by
        have h1 := List.length_filterMap_le (fun t => if isPl t g.length then some t.toNat else none) (toR g k)
        have h2 := (HA.out.2.1.2 k).2
        simp only at h2
        rw [hnT, tos, tv]
        omega
      have hbtl : ∀ gu, ot = some ⟨gu, 0, none⟩ → wo.heap.size ≤ gu ∧ gu < w2.heap.size := fun gu e => by
        have h1 := own_lt ht3 (g := gu) (by rw [e]; rfl)
        omega
      have HD := Lib.hid (And.intro ht1 (And.intro pd2 (And.intro hown0 (And.intro nM (And.intro hnT (And.intro hints (And.intro hbtl hvl0)))))))
      have hq1 : s + 1 < w2.heap.size := by have := ht1.size; omega
      have hWb : W1.heap.size ≤ w2.heap.size := by have := ht1.size; omega
      clear ht1 ht2 ht3 hints hnT hkW hvl0 hPd pd2 hown0 hsz hW1s nM hbtl
      go_wp2
      go_loopw [6] (fun u wr => ∃ j : Nat, j ≤ nT ∧ u = .int .i64 j ∧ PdJ g k W1.heap.size (s + 1) L vs0 w2 j wr) (fun u _ => nT - (intOf u).toNat)
      case atStart =>
        obtain ⟨ht1, pd2, hown0, nM, hnT, hints, hbtl, hvl0⟩ := HD.out
        refine ⟨0, Nat.zero_le _, rfl, Kep.refl _ _, vs0, hvl0, ?_, fun x v b h1 h2 => .inr (.inl ⟨x, v, h1, h2⟩)⟩
        rw [show prdJ g k 0 = prdK g k from funext fun x => prdJ_zero g k x]
        exact pd2
      case round =>
        obtain ⟨j, hj, rfl, hpj⟩ := hrel
        by_cases hlj : j < nT
        · obtain ⟨ht1, pd2, hown0, nM, hnT, hints, hbtl, hvl0⟩ := HD.out
          obtain ⟨h1, vs, h3, h4, h5⟩ := hpj
          obtain ⟨gt, ext, rfl, hbt⟩ := hints (by omega)
          have hgt := hbtl gt rfl
          have c1 := (hbt.kep h1 (nM gt (.inl hgt.1) hgt.2)).cell j
          have hjl : j < (tos g k).length := by omega
          rw [nC_at hjl] at c1
          obtain ⟨x, hx⟩ : ∃ x, x = (tos g k)[j] := ⟨_, rfl⟩
          rw [← hx] at c1
          have hxL : x < L := by
            have := tv_lt (show x ∈ tos g k from hx ▸ List.getElem_mem hjl)
            rw [HA.out.2.2.2]
            exact this
          obtain ⟨P, hP⟩ : ∃ P, P = prdJ g k j := ⟨_, rfl⟩
          rw [← hP] at h4
          obtain ⟨u, hvx, hou⟩ := h4.own x (by omega)
          obtain ⟨ou, cu, hu, hlast⟩ := own_parts hou
          obtain ⟨nu, hnu⟩ : ∃ nu, nu = (P x).length := ⟨_, rfl⟩
          rw [← hnu] at hu hlast
          subst hu
          have hnu1 : nu ≤ 1001 := by
            have := prdJ_len g k j x
            rw [← hP, ← hnu] at this
            omega
          have c2 := h4.rows.cell x
          have f2 := h4.rows.frozen x
          rw [hvx] at c2
          have hwr : W1.heap.size ≤ wr.heap.size := by have := h1.size; omega
          have HJ := Lib.hid (And.intro h1 (And.intro h3 (And.intro h4 (And.intro h5 (And.intro hP (And.intro hx (And.intro hou (And.intro hnu (And.intro hvx hjl)))))))))
          have HL := Lib.hid hlast
          clear ht1 pd2 hown0 nM hnT hints hbtl hvl0 h1 h3 h4 h5 hP hx hou hnu hvx hbt hgt hlast
          by_cases hnz : nu = 0
          · subst hnz
            have HN : Go.RowKit.Hid (x ∉ (tos g k).take j) := Lib.hid (fun hm => by
              obtain ⟨h1, h3, h4, h5, hP, hx, hou, hnu, hvx, hjl⟩ := HJ.out
              have h := (prdJ_last g k j x).2 hm
              rw [← hP, List.eq_nil_of_length_eq_zero hnu.symm] at h
              cases h)
            go_wp2_with (at_builtin; refine wpList_append_own_at _ rfl (.tmp 56) (.tmp 58) 42 rfl W1.heap.size 3 i3 _ 1 8 Try.underlying42 HI3.out.1 HI3.out.2.1 HI3.out.2.2.1 HI3.out.2.2.2 rfl (by decide) _ _ _ rfl (HJ.out.2.2.2.2.2.2.1.alloc _) ⟨_, 0, none⟩ 1 1 [.int .i64 (k : Int)] rfl rfl ?c1 ?c2 ?c3 ?c4 ?c5 ?_)
            case c1 => exact new_cells _ [.int .i64 (k : Int)] _
            case c2 => intro u hu; simp at hu; subst hu; rfl
            case c3 => have := HJ.out.2.2.2.2.2.2.2.1; unfold maxLen; omega
            case c4 => have := HJ.out.2.2.2.2.2.2.2.1; omega
            case c5 => simp; omega
            intro v' w5 hown hg _ hat
            obtain ⟨ob, nb, cb, hv⟩ := own_slice hown
            subst hv
            have hk5 : Kep (fun b => (Value.slice ou 0 cu).ownBlock = some b) wr w5 := ((Kep.refl _ wr).alloc _).grown hg (fun q hq => .inr hq)
            have hX5 : Bx w5 (s + 1) 42 vs := by
              obtain ⟨h1, h3, h4, h5, hP, hx, hou, hnu, hvx, hjl⟩ := HJ.out
              exact h4.rows.kep hk5 (fun h => own_ne hou h4.rows (fun cs fr e => by cases e) h)
            have c6 := hX5.cell x
            have f6 := hX5.frozen x
            rw [HJ.out.2.2.2.2.2.2.2.2.1] at c6
            have HP5 := Lib.hid (And.intro hown (And.intro hk5 hat))
            clear hown hg hat hk5 hX5
            go_wp2
            go_roundw
            case rel =>
              obtain ⟨h1, h3, h4, h5, hP, hx, hou, hnu, hvx, hjl⟩ := HJ.out
              obtain ⟨hown, hk5, hat⟩ := HP5.out
              refine ⟨j + 1, hlj, nxt _, PdJ.grown h1 h3 h4 h5 hvx hP hjl hx HN.out hk5 hown ?_⟩
              rcases hat with h | h
              · exact .inl h
              · refine .inr ⟨_, h, ?_⟩
                simp
            case measure => exact meas hlj
          · obtain ⟨m, rfl⟩ : ∃ m, nu = m + 1 := ⟨nu - 1, by omega⟩
            obtain ⟨gu, ex, rfl, hgx⟩ := HL.out (by omega)
            have hPl := HJ.out.2.2.2.2.2.2.2.1
            obtain ⟨y, hy⟩ : ∃ y, y = (P x)[m]'(by omega) := ⟨_, rfl⟩
            have t8 := hgx.cell m
            rw [nC_at (by omega), ← hy] at t8
            have HY : Go.RowKit.Hid ((P x).getLast? = some y) := Lib.hid (by
              rw [List.getLast?_eq_getElem?, ← hPl, hy, Nat.add_sub_cancel, List.getElem?_eq_getElem])
            clear hgx hPl hy
            by_cases hyk : y = k
            · subst hyk
              go_wp2
              go_roundw
              case rel =>
                obtain ⟨h1, h3, h4, h5, hP, hx, hou, hnu, hvx, hjl⟩ := HJ.out
                have hin : x ∈ (tos g y).take j := (prdJ_last g y j x).1 (by rw [← hP]; exact HY.out)
                refine ⟨j + 1, hlj, nxt _, h1, vs, h3, ?_, h5⟩
                rw [← prdJ_same hjl hx hin, ← hP]
                exact h4
              case measure => exact meas hlj
            · have HN : Go.RowKit.Hid (x ∉ (tos g k).take j) := Lib.hid (fun hm => by
                obtain ⟨h1, h3, h4, h5, hP, hx, hou, hnu, hvx, hjl⟩ := HJ.out
                have h := (prdJ_last g k j x).2 hm
                rw [← hP, HY.out] at h
                exact hyk (Option.some.inj h))
              have hykI : ((y : Int) != (k : Int)) = true := by simp; omega
              go_wp2_with (at_builtin; refine wpList_append_own_at _ rfl (.tmp 56) (.tmp 58) 42 rfl W1.heap.size 3 i3 _ 1 8 Try.underlying42 HI3.out.1 HI3.out.2.1 HI3.out.2.2.1 HI3.out.2.2.2 rfl (by decide) _ _ _ rfl (HJ.out.2.2.2.2.2.2.1.alloc _) ⟨_, 0, none⟩ 1 1 [.int .i64 (k : Int)] rfl rfl ?c1 ?c2 ?c3 ?c4 ?c5 ?_)
              case c1 => exact new_cells _ [.int .i64 (k : Int)] _
              case c2 => intro u hu; simp at hu; subst hu; rfl
              case c3 => have := HJ.out.2.2.2.2.2.2.2.1; unfold maxLen; omega
              case c4 => have := HJ.out.2.2.2.2.2.2.2.1; omega
              case c5 => simp; omega
              intro v' w5 hown hg _ hat
              obtain ⟨ob, nb, cb, hv⟩ := own_slice hown
              subst hv
              have hk5 : Kep (fun b => (Value.slice (some ⟨gu, 0, none⟩) (m + 1) cu).ownBlock = some b) wr w5 := ((Kep.refl _ wr).alloc _).grown hg (fun q hq => .inr hq)
              have hX5 : Bx w5 (s + 1) 42 vs := by
                obtain ⟨h1, h3, h4, h5, hP, hx, hou, hnu, hvx, hjl⟩ := HJ.out
                exact h4.rows.kep hk5 (fun h => own_ne hou h4.rows (fun cs fr e => by cases e) h)
              have c6 := hX5.cell x
              have f6 := hX5.frozen x
              rw [HJ.out.2.2.2.2.2.2.2.2.1] at c6
              have HP5 := Lib.hid (And.intro hown (And.intro hk5 hat))
              clear hown hg hat hk5 hX5
              go_wp2
              go_roundw
              case rel =>
                obtain ⟨h1, h3, h4, h5, hP, hx, hou, hnu, hvx, hjl⟩ := HJ.out
                obtain ⟨hown, hk5, hat⟩ := HP5.out
                refine ⟨j + 1, hlj, nxt _, PdJ.grown h1 h3 h4 h5 hvx hP hjl hx HN.out hk5 hown ?_⟩
                rcases hat with h | h
                · exact .inl h
                · refine .inr ⟨_, h, ?_⟩
                  simp
              case measure => exact meas hlj
        · obtain rfl : j = nT := last hj hlj
          have HP := Lib.hid hpj
          clear hpj
          go_wp2
          go_roundw
          case rel =>
            obtain ⟨h1, vs, h3, h4, h5⟩ := HP.out
            obtain ⟨ht1, pd2, hown0, nM, hnT, hints, hbtl, hvl0⟩ := HD.out
            obtain ⟨hkW, -, hPd⟩ := HC.out
            have hWo := hkW.size
            have hsz := HB.out.2.2.1
            have ht1s := ht1.size
            refine ⟨k + 1, vs, hlt, nxt _, ⟨h1.os.trans (ht1.os.trans hkW.os), h1.tape.trans (ht1.tape.trans hkW.tape), h1.output.trans (ht1.output.trans hkW.output), by have := h1.size; omega, fun b hb hm => (h1.same b (by omega) (nM b (.inr ⟨hb, hm⟩) (by omega))).trans ((ht1.block b (by omega)).trans (hkW.same b hb hm))⟩, h3, ?_⟩
            rw [prdK_succ', ← hnT]
            exact h4
          case measure => exact meas hlt
    · obtain rfl : k = L := last hk hlt
      have HC := Lib.hid (And.intro hkW (And.intro hvl0 hPd))
      clear hkW hvl0 hPd
      go_wp2
      go_ret
      obtain ⟨hkW, hvl0, hPd⟩ := HC.out
      obtain ⟨v1, v2, hsz, hbel, hs'⟩ := HB.out
      have hg := HA.out.2.2.2
      exact ⟨s + 1, vs0, W1.heap.size, by rw [← hg]; rfl, by omega, by omega, ⟨hkW.os.trans hbel.os, hkW.tape.trans hbel.tape, hkW.output.trans hbel.output, by have := hkW.size; omega, fun b hb => (hkW.same b (by omega) (by omega)).trans (hbel.block b hb)⟩, by rw [hvl0, hg], by rw [← hg]; exact hPd⟩
end Go.Proofs.Ytfpdecjlfnambaa
