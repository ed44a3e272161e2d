/-
  Graph's laws: what their walks have in common. No conditions: lemmas.
-/
import Derived.Test.YtfpdecjlfnambaaGWorks
import Derived.Test.YtfpdecjlfnambaaGArgs
import Derived.Test.YtfpdecjlfnambaaGLawP
namespace Go.Proofs.Ytfpdecjlfnambaa
open Go Go.RowKit

/-- A round's end. -/
theorem meas {L i : Nat} (h : i < L) : L - (intOf (.int .i64 ((i : Int) + 1))).toNat < L - (intOf (.int .i64 (i : Int))).toNat := by
  simp [intOf]
  omega
theorem nxt (i : Nat) : Value.int .i64 ((i : Int) + 1) = .int .i64 ((i + 1 : Nat) : Int) := rfl
theorem last {L i : Nat} (h1 : i ≤ L) (h2 : ¬ i < L) : i = L := Nat.le_antisymm h1 (Nat.le_of_not_lt h2)
theorem Blks.mono {n0 n : Nat} {w : World} {oa : Option Addr} {g : Gb} (h : Blks n0 w oa g) (hn : n0 ≤ n) : Blks n w oa g := fun hl => by
  obtain ⟨b, off, h3, h4, h5⟩ := h hl
  exact ⟨b, off, h3, Nat.lt_of_lt_of_le h4 hn, fun i hi => let ⟨a1, vt, a2, a3⟩ := h5 i hi; ⟨a1, vt, a2, a3.mono hn⟩⟩
theorem Bv.At.mono {B : Bv} {n0 n : Nat} {w : World} (h : B.At n0 w) (hn : n0 ≤ n) : B.At n w := Blks.mono h hn
theorem CRow.mono {n0 n : Nat} {w : World} {oa : Option Addr} {C : List Chg} (h : CRow n0 w oa C) (hn : n0 ≤ n) : CRow n w oa C := fun hl => by
  obtain ⟨b, off, h3, h4, h5⟩ := h hl
  exact ⟨b, off, h3, Nat.lt_of_lt_of_le h4 hn, fun i hi => let ⟨a1, a2, ⟨v3, a3, a4⟩, v5, a5, a6⟩ := h5 i hi; ⟨a1, a2, ⟨v3, a3, a4.mono hn⟩, v5, a5, a6.mono hn⟩⟩
theorem BSrc.mono {n0 n : Nat} {w : World} {oa : Option Addr} {st : List Bool} (h : BSrc n0 w oa st) (hn : n0 ≤ n) : BSrc n w oa st := fun hl => by
  obtain ⟨b, off, h3, h4, h5⟩ := h hl
  exact ⟨b, off, h3, Nat.lt_of_lt_of_le h4 hn, h5⟩
/-- A row that was made is a source. -/
theorem own_src {w : World} {base n : Nat} {v : Value} {l : List Bool} (h : w.ownsRow base 4 1 v l.length (bC l)) (hn : w.heap.size ≤ n) : ∃ oa cap, v = .slice oa l.length cap ∧ BSrc n w oa l := by
  obtain ⟨ou, cu, rfl, h2⟩ := own_parts h
  refine ⟨ou, cu, rfl, fun hl => ?_⟩
  obtain ⟨gu, ex, rfl, hb⟩ := h2 hl
  exact ⟨gu, 0, rfl, Nat.lt_of_lt_of_le hb.lt hn, fun j hj => by rw [Nat.zero_add, hb.cell]; exact bC_at hj⟩
theorem Rd3.form {w : World} {v : Value} {Z : List (List (List Bool))} (h : Rd3 w v Z) : ∃ oa cap, v = .slice oa Z.length cap := by
  obtain ⟨oa, cap, h1, -⟩ := h
  exact ⟨oa, cap, h1⟩
theorem Rd3.row {w : World} {oa : Option Addr} {cap m : Nat} {Z : List (List (List Bool))} (h : Rd3 w (.slice oa m cap) Z) {i : Nat} (hi : i < Z.length) : ∃ b off ou cu, oa = some ⟨b, off, none⟩ ∧ w.cell? ⟨b, off + i, none⟩ = some (.slice ou (rowZ Z i).length cu) ∧ Rd2 w (.slice ou (rowZ Z i).length cu) (rowZ Z i) := by
  obtain ⟨oa', cap', h1, h2⟩ := h
  cases h1
  obtain ⟨b, off, h3, h4⟩ := h2 (by omega)
  obtain ⟨u, h5, h6⟩ := h4 i hi
  obtain ⟨ou, cu, h7, h8⟩ := h6
  subst h7
  exact ⟨b, off, ou, cu, h3, h5, ou, cu, rfl, h8⟩
theorem Rd2.row {w : World} {oa : Option Addr} {cap m : Nat} {Z : List (List Bool)} (h : Rd2 w (.slice oa m cap) Z) {i : Nat} (hi : i < Z.length) : ∃ b off ou cu, oa = some ⟨b, off, none⟩ ∧ w.cell? ⟨b, off + i, none⟩ = some (.slice ou (Z[i]?.getD []).length cu) ∧ Rd1 w (.slice ou (Z[i]?.getD []).length cu) (Z[i]?.getD []) := by
  obtain ⟨oa', cap', h1, h2⟩ := h
  cases h1
  obtain ⟨b, off, h3, h4⟩ := h2 (by omega)
  obtain ⟨u, h5, h6⟩ := h4 i hi
  obtain ⟨ou, cu, h7, h8⟩ := h6
  subst h7
  exact ⟨b, off, ou, cu, h3, h5, ou, cu, rfl, h8⟩
theorem Rd1.at {w : World} {oa : Option Addr} {cap m : Nat} {l : List Bool} (h : Rd1 w (.slice oa m cap) l) {i : Nat} (hi : i < l.length) : ∃ b off, oa = some ⟨b, off, none⟩ ∧ w.cell? ⟨b, off + i, none⟩ = some (.bool (l[i]?.getD false)) := by
  obtain ⟨oa', cap', h1, h2⟩ := h
  cases h1
  obtain ⟨b, off, h3, h4⟩ := h2 (by omega)
  exact ⟨b, off, h3, h4 i hi⟩
/-- The rows of two answers of one body are as long. -/
theorem FlS.lens {g : Gb} {n : Nat} {C C' : List Chg} {st st' : List Bool} {e e' : Bool} {X Y : List (List (List Bool))} (hX : FlS g n C st e X) (hY : FlS g n C' st' e' Y) : ∀ i, i < g.length → (rowZ X i).length = (rowZ Y i).length ∧ (∀ k, k < (rowZ X i).length → Rch g i ∧ k < insR g i + 2 ∧ (stateZ X i k).length = n ∧ (stateZ Y i k).length = n) ∧ (rowZ X i).length ≤ insR g i + 2 := by
  intro i hi
  by_cases h : Rch g i
  · refine ⟨by rw [hX.cnt i h, hY.cnt i h], fun k hk => ?_, by rw [hX.cnt i h]; exact Nat.le_refl _⟩
    rw [hX.cnt i h] at hk
    exact ⟨h, hk, hX.row i k h hk, hY.row i k h hk⟩
  · rw [hX.un i hi h, hY.un i hi h]
    exact ⟨rfl, fun k hk => absurd hk (Nat.not_lt_zero _), Nat.zero_le _⟩
end Go.Proofs.Ytfpdecjlfnambaa
