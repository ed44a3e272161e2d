/-
  Graph's laws: the document's Reach. Conditions: the body lies in the heap, and is small.
-/
import Derived.Test.YtfpdecjlfnambaaGTo
import Derived.Test.YtfpdecjlfnambaaGReach
import Derived.Test.YtfpdecjlfnambaaGPredsP
namespace Go.Proofs.Ytfpdecjlfnambaa
open Go Go.RowKit

def cntT (V : List Bool) : Nat := (V.filter id).length
theorem cntT_le : ∀ V : List Bool, cntT V ≤ V.length := fun V => List.length_filter_le _ _
theorem cntT_up : ∀ (A B : List Bool), A.length = B.length → (∀ j, bitF A j = true → bitF B j = true) → A = B ∨ cntT A + 1 ≤ cntT B
  | [], [], _, _ => .inl rfl
  | a :: A, b :: B, hl, h => by
    have ht := cntT_up A B (by simpa using hl) (fun j hj => h (j + 1) hj)
    have hc : ∀ c : Bool, ∀ X : List Bool, cntT (c :: X) = (if c then 1 else 0) + cntT X := fun c X => by
      cases c <;> simp [cntT]
      omega
    have h0 : a = true → b = true := fun ha => h 0 (by simpa [bitF] using ha)
    rw [hc, hc]
    cases a with
    | true =>
      rw [h0 rfl]
      rcases ht with rfl | ht
      · exact .inl rfl
      · right
        simp
        omega
    | false =>
      cases b with
      | false =>
        rcases ht with rfl | ht
        · exact .inl rfl
        · right
          simpa using ht
      | true =>
        right
        rcases ht with rfl | ht
        · simp
          omega
        · simp
          omega
theorem bitF_put (V : List Bool) (t j : Nat) (h : t < V.length) : bitF (V.set t true) j = if j = t then true else bitF V j := by
  unfold bitF
  rw [List.getElem?_set]
  by_cases e : t = j
  · subst e
    simp [h]
  · rw [if_neg e, if_neg (fun x => e x.symm)]
/-- All that are reached are told. -/
def FullR (g : Gb) (V : List Bool) : Prop := ∀ j, Rch g j → bitF V j = true
theorem full_of {g : Gb} {V : List Bool} (h0 : 0 < g.length → bitF V 0 = true) (hc : ∀ i, bitF V i = true → ∀ t ∈ tos g i, bitF V t = true) : FullR g V := fun j h => by
  induction h with
  | base h1 h2 => rw [h2]; exact h0 (by have : _ < g.length := h1; omega)
  | all h1 h2 h3 => exact absurd h2 (by simp [idL])
  | pass _ _ _ h4 ih => exact hc _ ih _ h4
/-- What is so in all of it. -/
structure RcI (g : Gb) (L s : Nat) (W1 : World) (V0 V : List Bool) (wr : World) : Prop where
  kep : Kep (fun b => b = s + 1) W1 wr
  row : Bx wr (s + 1) 4 (bC V)
  len : V.length = L
  sound : ∀ j, bitF V j = true → Rch g j
  up : ∀ j, bitF V0 j = true → bitF V j = true
def RcA (g : Gb) (L s : Nat) (W1 : World) (r : Nat) (wr : World) : Prop := ∃ V, RcI g L s W1 V V wr ∧ (0 < g.length → bitF V 0 = true) ∧ (FullR g V ∨ r + 1 ≤ cntT V)
def RcB (g : Gb) (L s : Nat) (W1 : World) (V0 : List Bool) (i : Nat) (wr : World) : Prop := ∃ V, RcI g L s W1 V0 V wr ∧ ∀ i', i' < i → bitF V0 i' = true → ∀ t ∈ tos g i', bitF V t = true
def RcC (g : Gb) (L s : Nat) (W1 w2 : World) (V0 : List Bool) (i k : Nat) (wr : World) : Prop := ∃ V, RcI g L s W1 V0 V wr ∧ (∀ i', i' < i → bitF V0 i' = true → ∀ t ∈ tos g i', bitF V t = true) ∧ (∀ t ∈ (tos g i).take k, bitF V t = true) ∧ Kep (fun b => b = s + 1) w2 wr

/-- What Reach comes to. -/
def RchT (g : Gb) (L : Nat) (w : World) (e : Ending) (w' : World) : Prop :=
  ∃ rb V, e = .returned (.slice (some ⟨rb, 0, none⟩) L L) ∧ w.heap.size ≤ rb ∧ Below w.heap.size w w' ∧ Bx w' rb 4 (bC V) ∧ V.length = L ∧ ∀ i, i < L → (bitF V i = true ↔ Rch g i)
set_option maxRecDepth 100000 in
set_option maxHeartbeats 8000000 in
theorem rreach_any (n0 : Nat) (B : Bv) (w : World) (hB : B.At n0 w) (hs : B.Small) (hn0 : n0 ≤ w.heap.size) : Calls Try.prog 21 #[B.v] w fun e w' =>
    ∃ rb V, e = .returned (.slice (some ⟨rb, 0, none⟩) B.g.length B.g.length) ∧ w.heap.size ≤ rb ∧ Below w.heap.size w w' ∧ Bx w' rb 4 (bC V) ∧ V.length = B.g.length ∧ ∀ i, i < B.g.length → (bitF V i = true ↔ Rch B.g i) := by
  obtain ⟨nm, pa, lo, oa, cap, g⟩ := B
  simp only at hs ⊢
  obtain ⟨L, hL⟩ : ∃ L, L = g.length := ⟨_, rfl⟩
  have hL1 : L ≤ 1000 := by rw [hL]; exact hs.1
  have hmk := make_bools L hL1
  have HA := Lib.hid (And.intro hB (And.intro hs (And.intro hn0 hL)))
  unfold Bv.v Bv.cs
  simp only [← hL]
  clear hB hs hn0 hL
  suffices h : Calls Try.prog 21 #[.agg #[nm, pa, lo, .slice oa L cap]] w fun e w' => RchT g L w e w' from h
  go_enter Try.func21, Try.ntmps21
  go_upto_region 2 with fail
  obtain ⟨Wz, hWz⟩ : ∃ Wz, Wz = (w.alloc (.cells #[nm, pa, lo, .slice oa L cap] 25)).alloc (.cells (Array.replicate L (.bool false)) 4) := ⟨_, rfl⟩
  obtain ⟨s, hs'⟩ : ∃ s, s = w.heap.size := ⟨_, rfl⟩
  have er : Array.replicate L (Value.bool false) = (bC (List.replicate L false)).toArray := by simp [bC]
  have v1 : Bx Wz s 25 [nm, pa, lo, .slice oa L cap] := by
    rw [hWz, hs']
    exact (Bx.new w _ [nm, pa, lo, .slice oa L cap]).alloc _
  have v2 : Bx Wz (s + 1) 4 (bC (List.replicate L false)) := by
    rw [hWz, hs', er]
    have := Bx.new (w.alloc (.cells #[nm, pa, lo, .slice oa L cap] 25)) 4 (bC (List.replicate L false))
    rwa [World.size_alloc] at this
  have hsz : Wz.heap.size = s + 1 + 1 := by rw [hWz, hs']; simp
  have hbel : Below w.heap.size w Wz := by
    rw [hWz]
    exact ((Below.refl _ w).alloc (Nat.le_refl _) _).alloc (by simp) _
  rw [← hWz, ← hs']
  have HB := Lib.hid (And.intro v1 (And.intro v2 (And.intro hsz (And.intro hbel hs'))))
  have y2 := v2.cell 0
  have y3 := v2.frozen 0
  clear v1 v2 hsz hbel hs' hWz hmk er
  by_cases h0 : 0 < L
  · obtain ⟨W1, hW1⟩ : ∃ W1, W1 = Wz.setCell ⟨s + 1, 0, none⟩ (.bool true) := ⟨_, rfl⟩
    have hstart : RcA g L s W1 0 W1 ∧ W1.heap.size = s + 1 + 1 ∧ Bx W1 s 25 [nm, pa, lo, .slice oa L cap] ∧ Below w.heap.size w W1 := by
      obtain ⟨v1, v2, hsz, hbel, hs'⟩ := HB.out
      have hL := HA.out.2.2.2
      have u2 : Bx W1 (s + 1) 4 (bC ((List.replicate L false).set 0 true)) := by
        rw [hW1, ← bC_set]
        exact v2.set 0 (.bool true)
      have hr : ∀ j, bitF (List.replicate L false) j = true → False := fun j h => by
        unfold bitF at h
        rw [List.getElem?_replicate] at h
        split at h <;> simp at h
      have hb : ∀ j, bitF ((List.replicate L false).set 0 true) j = true → j = 0 := fun j h => by
        rw [bitF_put _ _ _ (by simp; omega)] at h
        split at h
        · rename_i e
          exact e
        · exact (hr j h).elim
      have hb0 : bitF ((List.replicate L false).set 0 true) 0 = true := by
        rw [bitF_put _ _ _ (by simp; omega), if_pos rfl]
      refine ⟨⟨_, ⟨Kep.refl _ _, u2, by simp, fun j h => .base (by rw [hb j h]; show 0 < g.length; omega) (hb j h), fun _ h => h⟩, fun _ => hb0, .inr ?_⟩, by rw [hW1]; simp [World.setCell]; exact hsz, ?_, ?_⟩
      · rcases cntT_up (List.replicate L false) ((List.replicate L false).set 0 true) (by simp) (fun j h => (hr j h).elim) with h | h
        · rw [← h] at hb0
          exact (hr 0 hb0).elim
        · omega
      · rw [hW1]
        exact v1.far (by show s + 1 ≠ s; omega) _
      · rw [hW1]
        exact hbel.setCell (by show w.heap.size ≤ s + 1; omega) _
    rw [show (bC (List.replicate L false))[0]? = some (.bool false) by rw [bC_get (by simp; omega)]; simp [h0]] at y2
    go_upto_region 4 with fail
    rw [← hW1]
    have HST := Lib.hid hstart
    clear y2 y3 hW1 hstart
    go_wp2
    go_loopw [4] (fun u wr => ∃ r : Nat, r ≤ L ∧ u = .int .i64 r ∧ RcA g L s W1 r wr) (fun u _ => L - (intOf u).toNat)
    case atStart => exact ⟨0, Nat.zero_le _, rfl, HST.out.1⟩
    case round =>
      obtain ⟨r, hr, rfl, hra⟩ := hrel
      obtain ⟨wo, rfl⟩ : ∃ wo : World, wo = wr := ⟨_, rfl⟩
      by_cases hlr : r < L
      · obtain ⟨V0, hI0, hz0, hf0⟩ := hra
        have HR := Lib.hid (And.intro hI0 (And.intro hz0 hf0))
        clear hI0 hz0 hf0
        go_wp2
        go_loopw [5] (fun u wr => ∃ i : Nat, i ≤ L ∧ u = .int .i64 i ∧ RcB g L s W1 V0 i wr) (fun u _ => L - (intOf u).toNat)
        case atStart => exact ⟨0, Nat.zero_le _, rfl, V0, HR.out.1, fun i' h => absurd h (Nat.not_lt_zero _)⟩
        case round =>
          obtain ⟨i, hi, rfl, hrb⟩ := hrel
          obtain ⟨wp, rfl⟩ : ∃ wp : World, wp = wr := ⟨_, rfl⟩
          by_cases hli : i < L
          · obtain ⟨V, hI, hd⟩ := hrb
            have c1 := hI.row.cell i
            rw [bC_get (by rw [hI.len]; exact hli)] at c1
            obtain ⟨b, hb⟩ : ∃ b, b = V[i]?.getD false := ⟨_, rfl⟩
            rw [← hb] at c1
            have HI := Lib.hid (And.intro hI (And.intro hd hb))
            clear hI hd hb
            cases b with
            | false =>
              go_wp2
              go_roundw
              case rel =>
                obtain ⟨hI, hd, hb⟩ := HI.out
                refine ⟨i + 1, hli, nxt _, V, hI, fun i' h1 h2 => ?_⟩
                by_cases e : i' = i
                · subst e
                  have := hI.up _ h2
                  unfold bitF at this
                  rw [← hb] at this
                  cases this
                · exact hd i' (by omega) h2
              case measure => exact meas hli
            | true =>
              obtain ⟨hI, hd, hb⟩ := HI.out
              obtain ⟨-, hsz1, v1, hbw1⟩ := HST.out
              obtain ⟨hB, hs, hn0, hL⟩ := HA.out
              have b1 := v1.kep hI.kep (by omega)
              have e0 := b1.cell 0
              have e1 := b1.cell 1
              have e2 := b1.cell 2
              have e3 := b1.cell 3
              simp at e0 e1 e2 e3
              have hks := hI.kep.size
              have hsw : s = w.heap.size := HB.out.2.2.2.2
              have hbwp : Below w.heap.size w wp := ⟨hI.kep.os.trans hbw1.os, hI.kep.tape.trans hbw1.tape, hI.kep.output.trans hbw1.output, by have := hbw1.size; omega, fun b hb => (hI.kep.same b (by omega) (by omega)).trans (hbw1.block b hb)⟩
              have HT : Go.RowKit.Hid (Calls Try.prog 23 #[.agg #[nm, pa, lo, .slice oa L cap], .int .i64 (i : Int)] wp fun e w' => ∃ v base, e = .returned v ∧ Below wp.heap.size wp w' ∧ wp.heap.size ≤ base ∧ w'.ownsRow base 3 1 v (tos g i).length (nC (tos g i))) := Lib.hid (by
                have h := to_any n0 ⟨nm, pa, lo, oa, cap, g⟩ i (by show i < g.length; omega) hs wp (hB.below hbwp hn0) (by have := hbwp.size; omega)
                unfold Bv.v Bv.cs at h
                simp only [← hL] at h
                exact h)
              clear hI hd hb hsz1 v1 hbw1 hB hs hn0 hL b1 hks hsw hbwp
              go_upto_region 12 with (go_at_call 23; refine HT.out.mono ?_; clear HT e0 e1 e2 e3; rintro e w2 ⟨v, base, rfl, ht1, ht2, ht3⟩)
              obtain ⟨ot, ct, rfl, hints⟩ := own_parts ht3
              obtain ⟨nT, hnT⟩ : ∃ n, n = (tos g i).length := ⟨_, rfl⟩
              rw [← hnT] at hints ⊢
              have hnT1 : nT ≤ 1000 := by
                have h1 := List.length_filterMap_le (fun t => if isPl t g.length then some t.toNat else none) (toR g i)
                have h2 := (HA.out.2.1.2 i).2
                simp only at h2
                rw [hnT, tos, tv]
                omega
              have hbtl : ∀ gu, ot = some ⟨gu, 0, none⟩ → wp.heap.size ≤ gu := fun gu e => by
                have h1 := own_lt ht3 (g := gu) (by rw [e]; rfl)
                omega
              have HD := Lib.hid (And.intro ht1 (And.intro hnT (And.intro hints hbtl)))
              clear ht1 ht2 ht3 hints hnT hbtl
              go_wp2
              go_loopw [7] (fun u wr => ∃ k : Nat, k ≤ nT ∧ u = .int .i64 k ∧ RcC g L s W1 w2 V0 i k wr) (fun u _ => nT - (intOf u).toNat)
              case atStart =>
                obtain ⟨hI, hd, hb⟩ := HI.out
                have ht1 := HD.out.1
                exact ⟨0, Nat.zero_le _, rfl, V, ⟨hI.kep.below ht1, hI.row.below ht1 hI.row.lt, hI.len, hI.sound, hI.up⟩, hd, by simp, Kep.refl _ _⟩
              case round =>
                obtain ⟨k, hk, rfl, V', hI', hd', hk', hkp⟩ := hrel
                by_cases hlk : k < nT
                · obtain ⟨ht1, hnT, hints, hbtl⟩ := HD.out
                  obtain ⟨gt, ext, rfl, hbt⟩ := hints (by omega)
                  have hgt := hbtl gt rfl
                  have hks := HI.out.1.kep.size
                  have hsz1 := HST.out.2.1
                  have c2 := (hbt.kep hkp (by omega)).cell k
                  have hkl : k < (tos g i).length := by omega
                  rw [nC_at hkl] at c2
                  obtain ⟨x, hx⟩ : ∃ x, x = (tos g i)[k] := ⟨_, rfl⟩
                  rw [← hx] at c2
                  have hxm : x ∈ tos g i := hx ▸ List.getElem_mem hkl
                  have hxL : x < L := by
                    have := tv_lt hxm
                    rw [HA.out.2.2.2]
                    exact this
                  have c3 := hI'.row.cell x
                  have f3 := hI'.row.frozen x
                  rw [bC_get (by rw [hI'.len]; exact hxL)] at c3
                  have HJ := Lib.hid (And.intro hI' (And.intro hd' (And.intro hk' (And.intro hkp (And.intro hx hxm)))))
                  clear ht1 hnT hints hbtl hI' hd' hk' hkp hx hxm hbt hgt hks hsz1
                  go_wp2
                  go_roundw
                  case rel =>
                    obtain ⟨hI', hd', hk', hkp, hx, hxm⟩ := HJ.out
                    obtain ⟨hI, hd, hb⟩ := HI.out
                    have hri : Rch g i := hI.sound i (by unfold bitF; rw [← hb])
                    have hrx : Rch g x := .pass (rch_lt hri) hri rfl hxm
                    have hput : ∀ j, bitF (V'.set x true) j = if j = x then true else bitF V' j := fun j => bitF_put V' x j (by rw [hI'.len]; exact hxL)
                    have hup : ∀ j, bitF V' j = true → bitF (V'.set x true) j = true := fun j h => by
                      rw [hput]
                      split
                      · rfl
                      · exact h
                    refine ⟨k + 1, hlk, nxt _, V'.set x true, ⟨hI'.kep.setCell (p := ⟨s + 1, x, none⟩) (.inr rfl) _, by rw [← bC_set]; exact hI'.row.set x _, by rw [List.length_set]; exact hI'.len, fun j h => ?_, fun j h => hup j (hI'.up j h)⟩, fun i' h1 h2 t ht => hup t (hd' i' h1 h2 t ht), fun t ht => ?_, hkp.setCell (p := ⟨s + 1, x, none⟩) (.inr rfl) _⟩
                    · rw [hput] at h
                      split at h
                      · rename_i e
                        rw [e]
                        exact hrx
                      · exact hI'.sound j h
                    · rcases (take_mem hkl t).1 ht with h | h
                      · exact hup t (hk' t h)
                      · rw [hput, if_pos (h.trans hx.symm)]
                  case measure => exact meas hlk
                · obtain rfl : k = nT := last hk hlk
                  have HJ := Lib.hid (And.intro hI' (And.intro hd' hk'))
                  clear hI' hd' hk' hkp
                  go_wp2
                  go_roundw
                  case rel =>
                    obtain ⟨hI', hd', hk'⟩ := HJ.out
                    have hnT := HD.out.2.1
                    refine ⟨i + 1, hli, nxt _, V', hI', fun i' h1 h2 t ht => ?_⟩
                    by_cases e : i' = i
                    · subst e
                      exact hk' t (by rw [hnT, List.take_length]; exact ht)
                    · exact hd' i' (by omega) h2 t ht
                  case measure => exact meas hli
          · obtain rfl : i = L := last hi hli
            have HJ := Lib.hid hrb
            clear hrb
            go_wp2
            go_roundw
            case rel =>
              obtain ⟨V, hI, hd⟩ := HJ.out
              obtain ⟨hI0, hz0, hf0⟩ := HR.out
              have hL := HA.out.2.2.2
              refine ⟨r + 1, hlr, nxt _, V, ⟨hI.kep, hI.row, hI.len, hI.sound, fun _ h => h⟩, fun h => hI.up 0 (hz0 h), ?_⟩
              rcases hf0 with hf | hf
              · exact .inl fun j hj => hI.up j (hf j hj)
              · rcases cntT_up V0 V (by rw [hI0.len, hI.len]) hI.up with e | e
                · refine .inl (full_of (fun h => hI.up 0 (hz0 h)) fun i' h1 t ht => ?_)
                  rw [← e] at h1
                  exact hd i' (by have := rch_lt (hI0.sound i' h1); omega) h1 t ht
                · right
                  omega
            case measure => exact meas hlr
      · obtain rfl : r = L := last hr hlr
        have HJ := Lib.hid hra
        clear hra
        go_wp2
        go_ret
        obtain ⟨V, hI, hz, hf⟩ := HJ.out
        obtain ⟨-, hsz1, v1, hbw1⟩ := HST.out
        have hsw : s = w.heap.size := HB.out.2.2.2.2
        have hful : FullR g V := by
          rcases hf with h | h
          · exact h
          · have := cntT_le V
            rw [hI.len] at this
            omega
        exact ⟨s + 1, V, rfl, by omega, ⟨hI.kep.os.trans hbw1.os, hI.kep.tape.trans hbw1.tape, hI.kep.output.trans hbw1.output, by have := hI.kep.size; have := hbw1.size; omega, fun b hb => (hI.kep.same b (by omega) (by omega)).trans (hbw1.block b hb)⟩, hI.row, hI.len, fun j _ => ⟨hI.sound j, hful j⟩⟩
  · obtain rfl : L = 0 := by omega
    go_upto_region 4 with fail
    go_wp2
    go_loopw [4] (fun u wr => u = .int .i64 0 ∧ wr = Wz) (fun _ _ => 0)
    case atStart => exact ⟨rfl, rfl⟩
    case round =>
      obtain ⟨rfl, rfl⟩ := hrel
      go_wp2
      go_ret
      obtain ⟨v1, v2, hsz, hbel, hs'⟩ := HB.out
      exact ⟨s + 1, [], rfl, by omega, hbel, by simpa using v2, rfl, fun i hi => absurd hi (Nat.not_lt_zero _)⟩
end Go.Proofs.Ytfpdecjlfnambaa
