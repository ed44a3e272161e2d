/-
  A memory in which one allocation holds other words than before. No conditions: lemmas on rows.
-/
import Derived.Test.YtbcockaleegicaaAlloc
namespace Go.Proofs.Ytbcockaleegicaa
open Go.RowKit

theorem rowv_get' (l : List Cl) (i : Nat) : (rowv l)[i]? = (l[i / 4]?).bind fun c => (cv c)[i % 4]? := by
  by_cases h : i / 4 < l.length
  · have := rowv_get l (i / 4) (i % 4) l[i / 4] (List.getElem?_eq_getElem h) (Nat.mod_lt _ (by omega))
    rw [Nat.div_add_mod] at this
    rw [this, List.getElem?_eq_getElem h]
    rfl
  · rw [List.getElem?_eq_none (by rw [rowv_length]; omega), List.getElem?_eq_none (by omega)]
    rfl

theorem rowv_set (l : List Cl) (n : Nat) (hn : n < l.length) (c : Cl) (v0 v1 v2 v3 : Value) (hv : cv c = [v0, v1, v2, v3]) :
    ((((rowv l).toArray.setIfInBounds (n * 4) v0).setIfInBounds (n * 4 + 1) v1).setIfInBounds (n * 4 + 2) v2).setIfInBounds (n * 4 + 3) v3 = (rowv (l.set n c)).toArray := by
  apply Array.ext_getElem?
  intro i
  have hlen := rowv_length l
  simp only [Array.getElem?_setIfInBounds, Array.size_setIfInBounds, List.size_toArray, List.getElem?_toArray, rowv_get' (l.set n c), List.getElem?_set]
  by_cases h : n = i / 4
  · have hi : i = n * 4 + i % 4 := by omega
    have h4 : i % 4 < 4 := Nat.mod_lt _ (by omega)
    have hin : i < (rowv l).length := by omega
    have hR : (if n = i / 4 then if n < l.length then some c else none else l[i / 4]?) = some c := by rw [if_pos h, if_pos hn]
    rw [hR]
    simp only [Option.bind_some, hv]
    generalize i % 4 = r at hi h4
    subst hi
    match r, h4 with
    | 0, _ => simp; omega
    | 1, _ => simp; omega
    | 2, _ => simp; omega
    | 3, _ => simp; omega
  · have hR : (if n = i / 4 then if n < l.length then some c else none else l[i / 4]?) = l[i / 4]? := by rw [if_neg h]
    rw [hR, if_neg (by omega), if_neg (by omega), if_neg (by omega), if_neg (by omega), rowv_get' l]

def MS.setb (S : MS) (k : Nat) (o : Option (List Cl)) : MS := ⟨S.room, S.blocks.set k o⟩

theorem at_setb (S : MS) (k : Nat) (o : Option (List Cl)) (hk : k < S.blocks.length) (j : Nat) : (S.setb k o).at j = if j = k then o else S.at j := by
  unfold MS.at MS.setb
  simp only [List.getElem?_set]
  by_cases h : k = j
  · subst h; simp [hk]
  · rw [if_neg h, if_neg (by omega)]

theorem sum_set : ∀ (bs : List (Option (List Cl))) (k : Nat) (o o' : Option (List Cl)), bs[k]? = some o → ((bs.set k o').map szO).sum + szO o = (bs.map szO).sum + szO o'
  | [], _, _, _, h => by simp at h
  | x :: bs, 0, o, o', h => by simp at h; subst h; simp; omega
  | x :: bs, k + 1, o, o', h => by
    have := sum_set bs k o o' (by simpa using h)
    simp only [List.set_cons_succ, List.map_cons, List.sum_cons]; omega

theorem live_set : ∀ (bs : List (Option (List Cl))) (k : Nat) (l l' : List Cl), bs[k]? = some (some l) → ((bs.set k (some l')).filter Option.isSome).length = (bs.filter Option.isSome).length
  | [], _, _, _, h => by simp at h
  | x :: bs, 0, l, l', h => by simp at h; subst h; simp
  | x :: bs, k + 1, l, l', h => by
    have := live_set bs k l l' (by simpa using h)
    cases x <;> simp [this]
theorem live_none : ∀ (bs : List (Option (List Cl))) (k : Nat) (l : List Cl), bs[k]? = some (some l) → ((bs.set k none).filter Option.isSome).length + 1 = (bs.filter Option.isSome).length
  | [], _, _, h => by simp at h
  | x :: bs, 0, l, h => by simp at h; subst h; simp
  | x :: bs, k + 1, l, h => by
    have := live_none bs k l (by simpa using h)
    cases x <;> simp <;> omega

theorem words_setb {S : MS} {k : Nat} {l l' : List Cl} (hl : S.at k = some l) (h : l'.length = l.length) : (S.setb k (some l')).words = S.words := by
  have := sum_set S.blocks k _ (some l') (at_some hl)
  simp only [szO] at this
  show ((S.blocks.set k (some l')).map szO).sum = (S.blocks.map szO).sum
  omega
theorem live_setb {S : MS} {k : Nat} {l l' : List Cl} (hl : S.at k = some l) : (S.setb k (some l')).live = S.live := live_set S.blocks k l l' (at_some hl)

theorem row_rep {w w1 w2 : World} {mb : Nat} {lm : Option Nat} {loc : Nat → Nat} {S : MS} (R : RepAt w mb lm loc S) {k : Nat} {l l' : List Cl} (hl : S.at k = some l) (hlen : l'.length = l.length) (hb : Below w.heap.size w w1)
    (hnew : w2.heap[loc k]? = some (.cells (rowv l').toArray 69)) (hk : ∀ b, b ≠ loc k → w2.heap[b]? = w1.heap[b]?) (hs : w2.os = w1.os ∧ w2.tape = w1.tape ∧ w2.output = w1.output ∧ w1.heap.size ≤ w2.heap.size) :
    Turned w w2 mb lm loc S (S.setb k (some l')) := by
  have hkl := at_lt hl
  have ne := R.loc_ne hl
  have hat : ∀ j m, (S.setb k (some l')).at j = some m → ∃ m', S.at j = some m' ∧ m'.length = m.length ∧ (j = k → m = l') ∧ (j ≠ k → m = m') := fun j m hj => by
    rw [at_setb S k _ hkl] at hj
    split at hj
    · rename_i e
      subst e
      cases hj
      exact ⟨l, hl, hlen.symm, fun _ => rfl, fun h => absurd rfl h⟩
    · rename_i e
      exact ⟨m, hj, rfl, fun h => absurd h e, fun _ => rfl⟩
  have old : ∀ b, b < w.heap.size → b ≠ loc k → w2.heap[b]? = w.heap[b]? := fun b h1 h2 => (hk b h2).trans (hb.block b h1)
  have hmb := R.lt mb (.inl rfl)
  refine ⟨lm, loc, ⟨?_, R.room0, R.room1, ?_, ?_, ?_, ?_, ?_, ?_⟩, ?_, ?_⟩
  · rw [old mb hmb (Ne.symm ne.1), R.obj, words_setb hl hlen]
    simp [MS.setb]
  · rw [words_setb hl hlen]
    exact R.words
  · simpa [MS.setb] using R.made
  · intro h
    rw [R.nomap h] at hkl
    simp at hkl
  · intro lb hlb
    obtain ⟨D, ⟨es, clock, hbb, r⟩, hM⟩ := R.map lb hlb
    have hlbk : lb ≠ loc k := fun e => ne.2 (by rw [hlb, e])
    refine ⟨D, ⟨es, clock, (old lb (Array.getElem?_eq_some_iff.1 hbb).1 hlbk).trans hbb, ?_⟩, ⟨?_, ?_, ?_⟩⟩
    · simpa [MS.setb] using r
    · rw [live_setb hl]
      exact hM.size
    · intro j m hj
      obtain ⟨m', h1, h2, _⟩ := hat j m hj
      rw [← h2]
      exact hM.some j m' h1
    · intro j hj
      rw [at_setb S k _ hkl] at hj
      split at hj
      · cases hj
      · exact hM.none j hj
  · intro j m hj
    obtain ⟨m', h1, _, h3, h4⟩ := hat j m hj
    by_cases e : j = k
    · subst e
      rw [h3 rfl]
      exact hnew
    · rw [h4 e, old _ (R.lt _ (.inr (.inr ⟨j, m', h1, rfl⟩))) fun e' => e (R.inj j k m' l h1 hl e')]
      exact R.blk j m' h1
  · intro i j m m' hi hj e
    obtain ⟨n, h1, _⟩ := hat i m hi
    obtain ⟨n', h2, _⟩ := hat j m' hj
    exact R.inj i j n n' h1 h2 e
  · rintro b (rfl | h | ⟨j, m, hj, rfl⟩)
    · exact .inl (.inl rfl)
    · exact .inl (.inr (.inl h))
    · obtain ⟨m', h1, _⟩ := hat j m hj
      exact .inl (.inr (.inr ⟨j, m', h1, rfl⟩))
  · refine ⟨hs.1.trans hb.os, hs.2.1.trans hb.tape, hs.2.2.1.trans hb.output, Nat.le_trans hb.size hs.2.2.2, fun b hbb ho => old b hbb fun e => ho (.inr (.inr ⟨k, l, hl, e⟩))⟩
end Go.Proofs.Ytbcockaleegicaa
