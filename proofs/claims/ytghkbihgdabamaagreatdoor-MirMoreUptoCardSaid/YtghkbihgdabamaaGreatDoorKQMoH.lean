/-
  Several texts of the proof in one: QStP, QMoH. No conditions of their own: each lemma states its own.
-/
import Derived.Test.YtghkbihgdabamaaGreatDoorKQSett
import Derived.Test.YtghkbihgdabamaaGreatDoorKQUsP
import Derived.Test.YtghkbihgdabamaaGreatDoorKQChain
import Derived.Test.YtghkbihgdabamaaGreatDoorKQMoP
import Derived.Test.YtghkbihgdabamaaGreatDoorKPRes
namespace Go.Proofs.YtghkbihgdabamaaGreatDoor
open Go.RowKit

end Go.Proofs.YtghkbihgdabamaaGreatDoor

namespace Go.Proofs.YtghkbihgdabamaaGreatDoor
open Go.RowKit

theorem infoI_Bl : (Tryz.prog.info? 60).map (fun i => (i.zero, i.size, i.bytes)) = some (some (.agg (blC ⟨h0, [], ⟨0, 0, ⟨0, h0, []⟩, ⟨0, h0, [], ⟨0, h0, []⟩, 0, 0⟩, ⟨false, 0, false, ⟨0, h0, []⟩⟩, h0, []⟩⟩).toArray), 17, 232) := by kernel_rfl
theorem infoI_In : (Tryz.prog.info? 84).map (fun i => (i.zero, i.size, i.bytes)) = some (some (.agg (siC ⟨0, 0, ⟨0, h0, []⟩, ⟨0, h0, [], ⟨0, h0, []⟩, 0, 0⟩, ⟨false, 0, false, ⟨0, h0, []⟩⟩⟩).toArray), 15, 184) := by kernel_rfl
theorem siC_one : ∀ x, ∀ u ∈ siC x, u.oneCell' = true := by
  rintro ⟨k, pos, ⟨a, b, c⟩, ⟨d, e, f, ⟨a2, b2, c2⟩, g, h⟩, ⟨i, j, l, ⟨a3, b3, c3⟩⟩⟩ u hu
  simp [siC, spC, vaC, usC] at hu
  rcases hu with rfl | rfl | rfl | rfl | rfl | rfl | rfl | rfl | rfl | rfl | rfl | rfl | rfl | rfl | rfl <;> rfl
theorem blC_one : ∀ x, ∀ u ∈ blC x, u.oneCell' = true := by
  rintro ⟨h0, ins, ⟨k, pos, ⟨a, b, c⟩, ⟨d, e, f, ⟨a2, b2, c2⟩, g, h⟩, ⟨i, j, l, ⟨a3, b3, c3⟩⟩, hh, tt⟩⟩ u hu
  simp [blC, tnC, spC, vaC, usC] at hu
  rcases hu with rfl | rfl | rfl | rfl | rfl | rfl | rfl | rfl | rfl | rfl | rfl | rfl | rfl | rfl | rfl | rfl | rfl <;> rfl
theorem Row.take' {α : Type} {w : World} {h : Hd} {sz : Nat} {l : List α} {C : α → List Value} {P : α → Prop} (r : Row w h sz l C P) (k : Nat) : Row w h sz (l.take k) C P := by
  refine ⟨Nat.le_trans (by simp; omega) r.1, r.2.1, fun h0 => ?_, fun x hx => r.2.2.2 x (List.mem_of_mem_take hx)⟩
  obtain ⟨b, off, h1, h2, h3⟩ := r.2.2.1 (by simp at h0; omega)
  refine ⟨b, off, h1, h2, fun i x hx => h3 i x ?_⟩
  rw [List.getElem?_take] at hx
  split at hx
  · exact hx
  · cases hx
theorem Row.drop' {α : Type} {w : World} {b off cap : Nat} {sz : Nat} {l : List α} {C : α → List Value} {P : α → Prop} (r : Row w ⟨some ⟨b, off, none⟩, cap⟩ sz l C P) (k : Nat) (hk : k ≤ l.length) (h' : Hd) (hh : h' = ⟨some ⟨b, off + k * sz, none⟩, cap - k⟩) : Row w h' sz (l.drop k) C P := by
  subst hh
  have h1 := r.1
  have h2 := r.2.1
  dsimp only at h1 h2
  refine ⟨by simp; omega, by simp; omega, fun h0 => ?_, fun x hx => r.2.2.2 x (List.mem_of_mem_drop hx)⟩
  obtain ⟨b', off', e1, e2, e3⟩ := r.2.2.1 (by simp at h0; omega)
  simp only [Option.some.injEq, Addr.mk.injEq, and_true] at e1
  obtain ⟨rfl, rfl⟩ := e1
  refine ⟨b, off + k * sz, rfl, e2, fun i x hx j v hv => ?_⟩
  rw [List.getElem?_drop] at hx
  have := e3 (k + i) x hx j v hv
  rw [Nat.add_mul] at this
  rw [show off + k * sz + i * sz + j = off + (k * sz + i * sz) + j by omega]
  exact this
theorem Row.drop0 {α : Type} {w : World} {b off cap : Nat} {sz : Nat} {l : List α} {C : α → List Value} {P : α → Prop} (r : Row w ⟨some ⟨b, off, none⟩, cap⟩ sz l C P) (k : Nat) (hk : cap ≤ k) (oa : Option Addr) : Row w ⟨oa, cap - k⟩ sz (l.drop k) C P := by
  have h1 := r.1
  have h2 := r.2.1
  dsimp only at h1 h2
  have he : l.drop k = [] := List.drop_eq_nil_of_le (by omega)
  rw [he]
  exact ⟨Nat.zero_le _, by dsimp only; omega, fun h => absurd h (Nat.lt_irrefl _), fun _ h => by cases h⟩
theorem splL_midm : ∀ (vs pre l suf : List Value), l.length = vs.length → splL (pre ++ (l ++ suf)) pre.length vs = pre ++ (vs ++ suf)
  | [], pre, l, suf, h => by simp at h; simp [splL, h]
  | v :: vs, pre, [], suf, h => by simp at h
  | v :: vs, pre, a :: l, suf, h => by
    have e : (pre ++ (a :: l ++ suf)).set pre.length v = (pre ++ [v]) ++ (l ++ suf) := by simp
    rw [splL, e]
    have := splL_midm vs (pre ++ [v]) l suf (by simpa using h)
    simpa using this
theorem splL_len : ∀ (vs l : List Value) (o : Nat), (splL l o vs).length = l.length
  | [], _, _ => rfl
  | v :: vs, l, o => by rw [splL, splL_len vs]; simp
theorem flat_set {α : Type} {C : α → List Value} {sz : Nat} (hC : ∀ x, (C x).length = sz) (l : List α) (i : Nat) (x : α) (hi : i < l.length) (rest : List Value) : splL (l.flatMap C ++ rest) (i * sz) (C x) = (l.set i x).flatMap C ++ rest := by
  obtain ⟨y, hy⟩ : ∃ y, l[i]? = some y := ⟨_, List.getElem?_eq_getElem hi⟩
  have h1 : l = l.take i ++ y :: l.drop (i + 1) := by
    obtain ⟨hlt, rfl⟩ := List.getElem?_eq_some_iff.1 hy
    simp
  have h2 : l.set i x = l.take i ++ x :: l.drop (i + 1) := by rw [List.set_eq_take_append_cons_drop]; simp [hi]
  rw [h2]
  have h3 : l.flatMap C ++ rest = (l.take i).flatMap C ++ (C y ++ ((l.drop (i + 1)).flatMap C ++ rest)) := by
    conv => lhs; rw [h1]
    simp [List.flatMap_append]
  have h4 : ((l.take i).flatMap C).length = i * sz := by
    have := flat_len hC (l.take i)
    rw [this, List.length_take, Nat.min_eq_left (by omega)]
  rw [h3, ← h4, splL_midm (C x) _ (C y) _ (by rw [hC, hC])]
  simp [List.flatMap_append]
theorem sp0_H (w : World) : SpH w ⟨0, h0, []⟩ := ⟨⟨by decide, by decide⟩, Row.nil _ _ _ _⟩
theorem retBl_H (w : World) : BlH w retBl := by
  have i3 : I64 3 := ⟨by decide, by decide⟩
  have i0 : I64 0 := ⟨by decide, by decide⟩
  exact ⟨Row.nil _ _ _ _, i3, i0, sp0_H w, ⟨i0, Row.nil _ _ _ _, sp0_H w, i0, i0⟩, ⟨i0, sp0_H w⟩, Row.nil _ _ _ _⟩
/-- the body that the call makes: its box, and its row of blocks -/
structure CG (M : Nat) (w0 w : World) (b : Bo) (v : Value) (l : List Bl) : Prop where
  bel : Below M w0 w
  box : w.heap[M]? = some (.cells #[.string b.nm, .int .i64 b.params, .slice b.hl.oa b.locals.length b.hl.cap, v] 30)
  own : w.ownsRow (M + 1) 60 17 v l.length (l.flatMap blC)
section
variable {M : Nat} {w0 w w' : World} {b : Bo} {v v' : Value} {l l' : List Bl}
theorem CG.lt (h : CG M w0 w b v l) : M < w.heap.size := blk_lt h.box
theorem CG.call (h : CG M w0 w b v l) (hb : Below w.heap.size w w') : CG M w0 w' b v l :=
  ⟨h.bel.trans (hb.mono (Nat.le_of_lt h.lt)), (hb.block M h.lt).trans h.box, own_keep h.own fun b hb' => hb.block b (own_lt h.own hb').2⟩
theorem CG.own_call (h : CG M w0 w b v l) (hb : Below w.heap.size w w') {n : Nat} (hn : l.length = n) : w'.ownsRow (M + 1) 60 17 v n (l.flatMap blC) := by
  subst hn
  exact (h.call hb).own
theorem CG.set (h : CG M w0 w b v l) (hg : w.grownBy w' v.ownBlock) {m : Nat} {ys : List Value} (ho : w'.ownsRow (M + 1) 60 17 v' m ys) (hm : l'.length = m) (hy : l'.flatMap blC = ys) : CG M w0 (w'.setCell ⟨M, 3, none⟩ v') b v' l' := by
  subst hm hy
  have hr : ∀ b, v.ownBlock = some b → M + 1 ≤ b := fun b hb => (own_lt h.own hb).1
  refine ⟨below_grown_set h.bel h.lt hg hr 3, ?_, own_set ho 3 _⟩
  have := box_set h.box hg hr 3 v'
  simpa using this
theorem CG.bo (h : CG M w0 w b v l) (hM : M ≤ w0.heap.size) (hM2 : w0.heap.size ≤ M) {d : Nat} (hb : BoH d w0 b) (hl : ∀ x ∈ l, BlH w x) : ∃ k : Hd, v = .slice k.oa l.length k.cap ∧ BoH d w (boB b k l) := by
  obtain rfl : M = w0.heap.size := Nat.le_antisymm hM hM2
  obtain ⟨k, h1, h2⟩ := row_of_own h.own blC_len hl
  have hb' := BoH.below hb h.bel
  exact ⟨k, h1, hb'.1, hb'.2.1, h2⟩
theorem CG.store (h : CG M w0 w b v l) {W : World} {g cap : Nat} {cur : Array Value} {T : TypeId} (hv : v = .slice (some ⟨g, 0, none⟩) l.length cap) (hcur : w.heap[g]? = some (.cells cur T)) {i : Nat} {x : Bl} (hi : i < l.length)
    (hW : W.heap[g]? = some (.cells (splL cur.toList (i * 17) (blC x)).toArray T)) (hoth : ∀ k, k ≠ g → W.heap[k]? = w.heap[k]?) (hB : Below M w0 W) : CG M w0 W b v (l.set i x) := by
  have hg := (own_lt h.own (b := g) (by rw [hv]; rfl)).1
  refine ⟨hB, (hoth M (by omega)).trans h.box, ?_⟩
  obtain ⟨h1, h2 | ⟨g', cap', cur', e1, e2, e3, e4, e5, e6, e7⟩⟩ := h.own
  · rw [hv] at h2
    exact absurd h2.1 (by simp)
  · rw [hv] at e1
    simp only [Value.slice.injEq, Option.some.injEq, Addr.mk.injEq, and_true, true_and] at e1
    obtain ⟨rfl, rfl⟩ := e1
    rw [hcur] at e3
    simp only [Option.some.injEq, Obj.cells.injEq, and_true] at e3
    obtain ⟨rfl, rfl⟩ := e3
    have hsp : cur.toList = l.flatMap blC ++ cur.toList.drop (l.length * 17) := by
      rw [← e7]
      exact (List.take_append_drop _ _).symm
    have hfl : splL cur.toList (i * 17) (blC x) = (l.set i x).flatMap blC ++ cur.toList.drop (l.length * 17) := by
      conv => lhs; rw [hsp]
      exact flat_set blC_len l i x hi _
    have hlen : ((l.set i x).flatMap blC).length = l.length * 17 := by rw [flat_len blC_len]; simp
    refine ⟨by rw [hlen]; simp, .inr ⟨g, cap, _, by rw [hv]; simp, hg, hW, by simpa using e4, e5, ?_, ?_⟩⟩
    · simp only [List.size_toArray, splL_len]
      simpa using e6
    · rw [List.toList_toArray, hfl, List.length_set, ← hlen, List.take_left]
end
end Go.Proofs.YtghkbihgdabamaaGreatDoor
