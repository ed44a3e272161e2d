/-
  Graph: what a block's steps make of one flag: a constant, or what it was. No conditions: laws alone.
-/
import Derived.Test.YtfpdecjlfnambaaGNewP
import Derived.Test.YtfpdecjlfnambaaGReach
import Derived.Test.YtfpdecjlfnambaaGSprP
namespace Go.Proofs.Ytfpdecjlfnambaa
open Go Go.RowKit

theorem hapF_get (G K : List Int) (st : List Bool) (j : Nat) (h : j < st.length) : (hapF G K st)[j]?.getD false = if G.any (fun t => t.toNat == j) then true else if K.any (fun t => t.toNat == j) then false else st[j]?.getD false := by
  rw [hapF, setsF_get _ _ _ _ (by rw [setsF_len]; exact h), setsF_get _ _ _ _ h]
theorem runB_flag (g : Gb) (n : Nat) (C : List Chg) (i j : Nat) (hj : j < n) : ∀ L : List Nat, (∃ v, ∀ st : List Bool, st.length = n → (runB g n C i L st)[j]?.getD false = v) ∨ (∀ st : List Bool, st.length = n → (runB g n C i L st)[j]?.getD false = st[j]?.getD false)
  | [] => .inr fun _ _ => rfl
  | p :: L => by
    have e : ∀ st, runB g n C i (p :: L) st = runB g n C i L (hapF (rlF g n C ((i : Int), (p : Int), true)) (rlF g n C ((i : Int), (p : Int), false)) st) := fun _ => rfl
    rcases runB_flag g n C i j hj L with ⟨v, h⟩ | h
    · exact .inl ⟨v, fun st hst => by rw [e]; exact h _ (by rw [hapF_len]; exact hst)⟩
    · have h' : ∀ st : List Bool, st.length = n → (runB g n C i (p :: L) st)[j]?.getD false = if (rlF g n C ((i : Int), (p : Int), true)).any (fun t => t.toNat == j) then true else if (rlF g n C ((i : Int), (p : Int), false)).any (fun t => t.toNat == j) then false else st[j]?.getD false := fun st hst => by
        rw [e, h _ (by rw [hapF_len]; exact hst), hapF_get _ _ _ _ (by omega)]
      by_cases hG : (rlF g n C ((i : Int), (p : Int), true)).any (fun t => t.toNat == j) = true
      · exact .inl ⟨true, fun st hst => by rw [h' st hst, if_pos hG]⟩
      · by_cases hK : (rlF g n C ((i : Int), (p : Int), false)).any (fun t => t.toNat == j) = true
        · exact .inl ⟨false, fun st hst => by rw [h' st hst, if_neg hG, if_pos hK]⟩
        · exact .inr fun st hst => by rw [h' st hst, if_neg hG, if_neg hK]
theorem all_mono (g : Gb) (n : Nat) (C : List Chg) (back so : Bool) (j p : Nat) (hj : j < n) : lvS (allF g n C back false) (allF g n C back true) so j p false = true → lvS (allF g n C back false) (allF g n C back true) so j p true = true := by
  have h := runB_flag g n C p j hj (alongL back (insR g p))
  have e1 : (allF g n C back false p) = runB g n C p (alongL back (insR g p)) (List.replicate n false) := rfl
  have e2 : (allF g n C back true p) = runB g n C p (alongL back (insR g p)) (List.replicate n true) := rfl
  unfold lvS
  rcases h with ⟨v, h⟩ | h
  · have h1 := h (List.replicate n false) (by simp)
    have h2 := h (List.replicate n true) (by simp)
    rw [e1, e2]
    cases so <;> simp [h1, h2]
  · have h1 := h (List.replicate n false) (by simp)
    have h2 := h (List.replicate n true) (by simp)
    rw [e1, e2]
    simp [List.getElem?_replicate, hj] at h1 h2
    cases so <;> simp [h1, h2]
theorem all_mono_any (g : Gb) (n : Nat) (C : List Chg) (back so : Bool) (j p : Nat) : lvS (allF g n C back false) (allF g n C back true) so j p false = true → lvS (allF g n C back false) (allF g n C back true) so j p true = true := by
  by_cases hj : j < n
  · exact all_mono g n C back so j p hj
  · have e : ∀ v, (allF g n C back v p)[j]?.getD false = false := fun v => by
      rw [List.getElem?_eq_none (by rw [allF, runB_len, List.length_replicate]; omega)]
      rfl
    unfold lvS
    rw [e, e]
    cases so <;> simp
theorem tos_lt {g : Gb} {p t : Nat} (h : t ∈ tos g p) : t < g.length := by
  rw [tos, tv, List.mem_filterMap] at h
  obtain ⟨a, -, h2⟩ := h
  split at h2
  · rename_i hp
    simp [isPl] at hp
    cases h2
    omega
  · cases h2
theorem ones_iff {c : List Bool} {i : Nat} : i ∈ ones c ↔ i < c.length ∧ bitF c i = true := by
  simp [ones, bitF]
theorem reach_closed {g : Gb} {V : List Bool} (hl : V.length = g.length) (hV : ∀ i, i < g.length → (bitF V i = true ↔ Rch g i)) {p t : Nat} (hp : p ∈ ones V) (ht : t ∈ tos g p) : t ∈ ones V := by
  have h1 := ones_iff.1 hp
  have h2 := tos_lt ht
  refine ones_iff.2 ⟨by omega, (hV t h2).2 (.pass (by show p < g.length; omega) ((hV p (by omega)).1 h1.2) rfl ht)⟩
end Go.Proofs.Ytfpdecjlfnambaa
