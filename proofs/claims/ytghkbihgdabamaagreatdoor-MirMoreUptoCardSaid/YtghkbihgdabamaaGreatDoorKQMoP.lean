/-
  What is valid stays so behind a block more, and without a step. No conditions: laws.
-/
import Derived.Test.YtghkbihgdabamaaGreatDoorKQValid
namespace Go.Proofs.YtghkbihgdabamaaGreatDoor
open Go.RowKit

section loc
variable {s : So5} {n : Nat} {b c : Bo} (h : c.locals = b.locals)
include h
theorem spotR_loc (x : Sp) : spotR s n c x = spotR s n b x := by
  obtain ⟨nm, p, hl, l, hb, bl⟩ := b
  obtain ⟨nm2, p2, hl2, l2, hb2, bl2⟩ := c
  dsimp only at h
  subst h
  rfl
theorem useR_loc (u : Us) : useR s n c u = useR s n b u := by
  unfold useR
  rw [spotR_loc h]
theorem usesG_loc (fit : Nat → Ty5 → Bool) : ∀ l i, usesG s n c fit l i = usesG s n b fit l i
  | [], _ => rfl
  | u :: l, i => by
    simp only [usesG, useR_loc h, usesG_loc fit l]
theorem usesR_loc (fit : Nat → Ty5 → Bool) (k : Int) (l : List Us) : usesR s n c fit k l = usesR s n b fit k l := by
  unfold usesR
  rw [usesG_loc h]
theorem ofoT_loc : ∀ l, ofoT s n c l = ofoT s n b l
  | [] => rfl
  | [u] => by rw [ofoT, ofoT, useR_loc h]
  | _ :: _ :: _ => rfl
theorem ofoR_loc (x : Va) : ofoR s n c x = ofoR s n b x := by
  unfold ofoR
  rw [usesR_loc h, ofoT_loc h]
theorem ofuR_loc (x : Va) : ofuR s n c x = ofuR s n b x := by
  unfold ofuR ofuM ofuV ofuS ofuN
  simp only [usesR_loc h, ofoR_loc h]
theorem madR_loc (x : Va) : madR s n c x = madR s n b x := by
  unfold madR madS madN
  simp only [spotR_loc h, ofuR_loc h]
theorem valR_loc (x : Va) : valR s n c x = valR s n b x := by
  unfold valR
  simp only [madR_loc h]
theorem setsB_loc (x : Sp) (v : Va) : setsB s n c x v = setsB s n b x v := by
  unfold setsB
  rw [spotR_loc h, valR_loc h]
theorem heldB_loc (k : Nat) (x : Sp) (t : Ty5) : heldB s n k c x t = heldB s n k b x t := by
  unfold heldB
  simp only [spotR_loc h]
theorem opensO_loc (v : Va) : ∀ e, opensO s n c v e = opensO s n b v e
  | none => rfl
  | some e => by
    unfold opensO
    simp only [heldB_loc h]
theorem opensB_loc (x : Sp) (v : Va) : opensB s n c x v = opensB s n b x v := by
  unfold opensB
  rw [spotR_loc h, opensO_loc h]
theorem goesB_loc (x : Va) : goesB s n c x = goesB s n b x := by
  unfold goesB
  rw [spotR_loc h]
theorem namedB_loc (x : Sp) : namedB c x = namedB b x := by
  unfold namedB
  rw [h]
theorem stepB_loc : stepB s n c = stepB s n b := by
  funext x
  unfold stepB
  simp only [namedB_loc h, setsB_loc h, useR_loc h, opensB_loc h]
theorem waysR_loc (x : Tn) : waysR s n c x = waysR s n b x := by
  unfold waysR
  simp only [spotR_loc h, useR_loc h, goesB_loc h]
theorem blockB_more (hl : b.blocks.length ≤ c.blocks.length) {x : Bl} (hx : blockB s n b x = true) : blockB s n c x = true := by
  unfold blockB mendB at hx ⊢
  rw [stepB_loc h, waysR_loc h]
  simp only [Bool.and_eq_true, List.all_eq_true] at hx ⊢
  refine ⟨hx.1, hx.2.1, hx.2.2.1, fun z hz => ?_⟩
  have h1 := hx.2.2.2 z hz
  unfold plB at h1 ⊢
  simp only [Bool.and_eq_true, decide_eq_true_eq] at h1 ⊢
  omega
theorem localsB_loc (hp : c.params = b.params) : localsB s n c = localsB s n b := by
  unfold localsB
  rw [h, hp]
theorem validB_of (hp : c.params = b.params) (hl : b.blocks.length ≤ c.blocks.length) (hv : validB s n b = true) (hc : ∀ x ∈ c.blocks, blockB s n b x = true ∨ blockB s n c x = true) : validB s n c = true := by
  unfold validB at hv ⊢
  rw [localsB_loc h hp]
  simp only [Bool.and_eq_true, decide_eq_true_eq, List.all_eq_true] at hv ⊢
  exact ⟨by omega, hv.2.1, fun x hx => (hc x hx).elim (blockB_more h hl) id⟩
end loc
/-- a block that returns a number -/
def retBl : Bl := ⟨h0, [], ⟨3, 0, ⟨0, h0, []⟩, ⟨0, h0, [], ⟨0, h0, []⟩, 0, 0⟩, ⟨true, 0, false, ⟨0, h0, []⟩⟩, h0, []⟩⟩
theorem ret_ok (s : So5) (n : Nat) (b : Bo) : blockB s n b retBl = true := by rfl
/-- the body with its blocks elsewhere -/
def boB (b : Bo) (h : Hd) (l : List Bl) : Bo := ⟨b.nm, b.params, b.hl, b.locals, h, l⟩
theorem valid_more {s : So5} {n : Nat} {b : Bo} (h : Hd) (hv : validB s n b = true) : validB s n (boB b h (b.blocks ++ [retBl])) = true :=
  validB_of (b := b) (c := boB b h (b.blocks ++ [retBl])) rfl rfl (by simp [boB]) hv fun x hx => by
    rcases List.mem_append.1 hx with hx | hx
    · left
      unfold validB at hv
      simp only [Bool.and_eq_true, List.all_eq_true] at hv
      exact hv.2.2 x hx
    · obtain rfl := List.mem_singleton.1 hx
      exact .inr (ret_ok ..)
theorem block_less {s : So5} {n : Nat} {b : Bo} {h h' : Hd} {ins ins' : List Si} {tm : Tn} (hx : blockB s n b ⟨h, ins, tm⟩ = true) (hi : ∀ x ∈ ins', x ∈ ins) : blockB s n b ⟨h', ins', tm⟩ = true := by
  unfold blockB at hx ⊢
  simp only [Bool.and_eq_true, List.all_eq_true] at hx ⊢
  exact ⟨fun x h => hx.1 x (hi x h), hx.2⟩
theorem valid_less {s : So5} {n : Nat} {b : Bo} {h h' h2 : Hd} {ins ins' : List Si} {tm : Tn} {i : Nat} {l : List Bl} (hv : validB s n (boB b h l) = true) (hx : l[i]? = some ⟨h2, ins, tm⟩) (hi : ∀ x ∈ ins', x ∈ ins) (k : Hd) : validB s n (boB b k (l.set i ⟨h', ins', tm⟩)) = true := by
  have hall : ∀ x ∈ l, blockB s n (boB b h l) x = true := by
    unfold validB at hv
    simp only [Bool.and_eq_true, List.all_eq_true] at hv
    exact hv.2.2
  refine validB_of (b := boB b h l) rfl rfl (by simp [boB]) hv fun x hx' => .inl ?_
  rcases List.mem_or_eq_of_mem_set hx' with hm | rfl
  · exact hall x hm
  · exact block_less (hall _ (List.mem_of_getElem? hx)) hi
end Go.Proofs.YtghkbihgdabamaaGreatDoor
