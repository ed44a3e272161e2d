/-
  Graph: spread, what lies ahead of it: a loop's law, a world cut off. No conditions: laws alone.
-/
import Derived.Test.YtfpdecjlfnambaaGSpreadP
namespace Go.Proofs.Ytfpdecjlfnambaa
open Go Go.RowKit Go.Shelf

theorem wp_loop_k {P : Program} {Q : Exit → Act → World → Prop} {a : Act} {w : World} {c : Code} (I : Nat → Act → World → Prop) (n₀ : Nat) (h₀ : I n₀ a w)
    (round : ∀ n a w, I n a w → ∀ K : Act → World → Prop, (∀ n' a' w', n' < n → I n' a' w' → K a' w') → c.wp P (Exit.then K Q) a w) : (Code.loop c).wp P Q a w :=
  wp_loop_ghost I n₀ h₀ fun n a w h => round n a w h _ fun n' a' w' h1 h2 => ⟨n', h1, h2⟩

/-- The world's first k blocks. -/
def trunc (W : World) (k : Nat) : World := { W with heap := W.heap.extract 0 k }
theorem trunc_size {W : World} {k : Nat} (h : k ≤ W.heap.size) : (trunc W k).heap.size = k := by simp [trunc]; omega
theorem trunc_at {W : World} {k b : Nat} (h : k ≤ W.heap.size) (hb : b < k) : (trunc W k).heap[b]? = W.heap[b]? := by
  simp [trunc, Array.getElem?_extract]
  omega
theorem trunc_kep {M : Nat → Prop} {W : World} {k : Nat} (h : k ≤ W.heap.size) : Kep M (trunc W k) W := ⟨rfl, rfl, rfl, by rw [trunc_size h]; exact h, fun b hb _ => (trunc_at h (by rw [trunc_size h] at hb; exact hb)).symm⟩
theorem kep_trunc {M : Nat → Prop} {W W' : World} {k : Nat} (h : k ≤ W.heap.size) (hk : Kep M (trunc W k) W') (hs : W.heap.size ≤ W'.heap.size) : Kep (fun b => M b ∨ k ≤ b) W W' :=
  ⟨hk.os, hk.tape, hk.output, hs, fun b hb hm => by
    have hlt : b < k := Nat.lt_of_not_le fun h => hm (.inr h)
    exact (hk.same b (by rw [trunc_size h]; exact hlt) (fun h => hm (.inl h))).trans (trunc_at h hlt)⟩

/-- The same for a flag's own blocks. -/
def SE.on (E : SE) (W : World) (k : Nat) : SE := { E with n1 := k, w0 := trunc W k }
theorem SE.on_ok {E : SE} (h : E.Ok) {W : World} {k : Nat} (hk : k ≤ W.heap.size) (hw : E.w0.heap.size ≤ k) : (E.on W k).Ok :=
  ⟨h.injf, h.fn, h.fa, fun b hb => ⟨by
    show b < (trunc W k).heap.size
    rw [trunc_size hk]
    have := (h.p0 b hb).1
    omega, (h.p0 b hb).2⟩, h.nok, h.n1k, h.c1k, h.mono⟩
theorem SE.on_next {E : SE} {hf gf : Nat} {pc : Value} (h : NextOk E hf gf pc) (hE : E.Ok) {W : World} {k : Nat} (hk : k ≤ W.heap.size) (hw : E.w0.heap.size ≤ k) (hkp : Kep (fun b => ∃ i ∈ ones E.c, b = E.Rf i) E.w0 W) : NextOk (E.on W k) hf gf pc := fun x hx W' h1 h2 => by
  have h1' : k ≤ W'.heap.size := by
    have : (trunc W k).heap.size ≤ W'.heap.size := h1
    rwa [trunc_size hk] at this
  exact h x hx W' (by omega) (fun b hb => by
    obtain ⟨q1, q2⟩ := hE.p0 b hb
    have e := h2 b hb
    rw [show (E.on W k).w0 = trunc W k from rfl, trunc_at hk (by omega)] at e
    exact e.trans (hkp.same b q1 (fun ⟨i, hi, e⟩ => q2 i hi e)))
theorem SE.on_at {E : SE} {W W' : World} {k : Nat} {F : Nat → List Bool} (h : E.At F W) : (E.on W' k).At F W := ⟨h.flow, h.mf, h.mn, h.ma⟩
theorem SE.at_on {E : SE} {W W' : World} {k : Nat} {F : Nat → List Bool} (h : (E.on W' k).At F W) : E.At F W := ⟨h.flow, h.mf, h.mn, h.ma⟩

/-- What spread comes to at a flag. -/
abbrev SpF (E : SE) (F0 : Nat → List Bool) (j : Nat) : Nat → Prop := Sp (fun i => i ∈ ones E.c) (fun i => colF F0 E.so j i = true) E.next (lvS E.N E.A E.so j)
/-- What is so while k flags are spread. -/
def Spr (E : SE) (F0 : Nat → List Bool) (k : Nat) (F : Nat → List Bool) : Prop :=
  ∀ i ∈ ones E.c, ∀ j, j < E.n → (j < k → (colF F E.so j i = true ↔ SpF E F0 j i)) ∧ (k ≤ j → (F i)[j]?.getD false = (F0 i)[j]?.getD false)
theorem spr_next {E : SE} {F0 F F' : Nat → List Bool} {k : Nat} (h : Spr E F0 k F) (hk : k < E.n) (hcol : ∀ i ∈ ones E.c, ∀ j', j' ≠ k → (F' i)[j']?.getD false = (F i)[j']?.getD false) (hs : ∀ i ∈ ones E.c, (colF F' E.so k i = true ↔ SpF E F k i)) : Spr E F0 (k + 1) F' := fun i hi j hj => by
  have hb : ∀ i ∈ ones E.c, colF F E.so k i = colF F0 E.so k i := fun i hi => by
    unfold colF
    rw [(h i hi k hk).2 (Nat.le_refl _)]
  refine ⟨fun hjk => ?_, fun hjk => ?_⟩
  · by_cases e : j = k
    · subst e
      rw [hs i hi]
      have tr : ∀ (b1 b2 : Nat → Prop), (∀ i ∈ ones E.c, b1 i → b2 i) → ∀ i, Sp (fun i => i ∈ ones E.c) b1 E.next (lvS E.N E.A E.so j) i → Sp (fun i => i ∈ ones E.c) b2 E.next (lvS E.N E.A E.so j) i := fun b1 b2 hb i hs => by
        induction hs with
        | base h1 h2 => exact .base h1 (hb _ h1 h2)
        | all h1 h2 h3 => exact .all h1 h2 h3
        | pass h1 _ h3 h4 ih => exact .pass h1 ih h3 h4
      exact ⟨tr _ _ (fun i hi h => by rw [← hb i hi]; exact h) i, tr _ _ (fun i hi h => by rw [hb i hi]; exact h) i⟩
    · have e1 : colF F' E.so j i = colF F E.so j i := by
        unfold colF
        rw [hcol i hi j e]
      rw [e1]
      exact (h i hi j hj).1 (by omega)
  · rw [hcol i hi j (by omega)]
    exact (h i hi j hj).2 (by omega)

/-- The blocks that leave a flag so, of the first k. -/
def lvl (E : SE) (F : Nat → List Bool) (j k : Nat) : List Nat := ((ones E.c).take k).filter fun i => lvB F E.A E.N i j == E.so
theorem lvl_succ (E : SE) (F : Nat → List Bool) (j : Nat) {k : Nat} (h : k < (ones E.c).length) : lvl E F j (k + 1) = lvl E F j k ++ (if lvB F E.A E.N (ones E.c)[k] j == E.so then [(ones E.c)[k]] else []) := by
  rw [lvl, List.take_add_one, List.getElem?_eq_getElem h, List.filter_append]
  congr 1
  by_cases hp : (lvB F E.A E.N (ones E.c)[k] j == E.so) = true
  · simp [hp]
  · simp [hp]
theorem lvl_len (E : SE) (F : Nat → List Bool) (j k : Nat) : (lvl E F j k).length ≤ E.c.length := by
  refine Nat.le_trans (List.length_filter_le _ _) ?_
  rw [List.length_take]
  have : (ones E.c).length ≤ E.c.length := by
    refine Nat.le_trans (List.length_filter_le _ _) ?_
    simp
  omega
/-- What is so between two rounds of the look for what leaves a flag so. -/
def LeaveI (E : SE) (F : Nat → List Bool) (j : Nat) (W2 : World) (t7 k : Nat) (V : World) : Prop :=
  Kep (fun b => b = t7 ∨ W2.heap.size + 2 ≤ b) W2 V ∧ ∃ u, Bx V t7 42 [u] ∧ V.ownsRow (W2.heap.size + 2) 3 1 u (lvl E F j k).length (nC (lvl E F j k)) ∧ W2.heap.size + 2 ≤ V.heap.size
theorem lvl_full (E : SE) (F : Nat → List Bool) (j : Nat) : Full (fun i => i ∈ ones E.c) (fun i => colF F E.so j i = true) E.next (lvS E.N E.A E.so j) (colF F E.so j) (lvl E F j (ones E.c).length) := by
  have hm : ∀ p, p ∈ lvl E F j (ones E.c).length ↔ p ∈ ones E.c ∧ lvS E.N E.A E.so j p (colF F E.so j p) = true := fun p => by
    rw [lvl, List.take_length, List.mem_filter, lvB_col]
  exact ⟨fun i hi hf => .base hi hf, fun i hi hb => hb, fun p hp hl hq t ht => absurd ((hm p).2 ⟨hp, hl⟩) hq, fun p hp => (hm p).1 hp⟩
theorem SJ.below {E : SE} {j bN bP bJ bS : Nat} {vN : Value} {F0 : Nat → List Bool} {μ : Nat} {Q : List Nat} {W W' : World} (h : SJ E j bN bP bJ bS vN F0 μ Q W) (hB : Below E.n1 W W')
    (hbx : ∀ b, (b = bN ∨ b = bP ∨ b = bJ ∨ b = bS ∨ b = E.f ∨ b = E.bf ∨ b = E.bn ∨ b = E.ba ∨ (∃ i ∈ ones E.c, b = E.Rf i ∨ b = E.Rn i ∨ b = E.Ra i)) → b < E.n1) (hw0 : E.w0.heap.size ≤ E.n1) : SJ E j bN bP bJ bS vN F0 μ Q W' := by
  obtain ⟨h1, h2, h3, h4, h5, h6, F, h7, h8⟩ := h
  refine ⟨Nat.le_trans h1 hB.size, ⟨hB.os.trans h2.os, hB.tape.trans h2.tape, hB.output.trans h2.output, Nat.le_trans h2.size hB.size, fun b hb hm => (hB.block b (by omega)).trans (h2.same b hb hm)⟩, h3.below hB (hbx _ (.inl rfl)), h4.below hB (hbx _ (.inr (.inl rfl))), h5.below hB (hbx _ (.inr (.inr (.inl rfl)))), h6.below hB (hbx _ (.inr (.inr (.inr (.inl rfl))))), F, h7.of (fun b hb hx => hB.block b (hbx b ?_)), h8⟩
  obtain ⟨cs, t, -, hor⟩ := hx
  exact .inr (.inr (.inr (.inr hor)))
theorem cnt_le (L : Nat) (lvs : Nat → Bool → Bool) (f : Nat → Bool) : cnt L lvs f ≤ L := by
  unfold cnt
  refine Nat.le_trans (List.length_filter_le _ _) ?_
  rw [List.length_range]
  exact Nat.le_refl _

end Go.Proofs.Ytfpdecjlfnambaa
