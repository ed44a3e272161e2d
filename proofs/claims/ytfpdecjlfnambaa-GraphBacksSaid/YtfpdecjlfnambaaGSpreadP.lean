/-
  Graph: a look of spread, as plain things. Conditions: none; definitions and lemmas.
-/
import Derived.Test.YtfpdecjlfnambaaGReach
namespace Go.Proofs.Ytfpdecjlfnambaa
open Go Go.RowKit Go.Shelf

/-- Whether a block leaves a flag so, if it comes so (or not). -/
def lvS (N A : Nat → List Bool) (so : Bool) (j : Nat) : Nat → Bool → Bool := fun p b => (if b == so then (A p)[j]?.getD false else (N p)[j]?.getD false) == so
def colF (F : Nat → List Bool) (so : Bool) (j : Nat) : Nat → Bool := fun i => (F i)[j]?.getD false == so
theorem lvB_col (F A N : Nat → List Bool) (so : Bool) (i j : Nat) : (lvB F A N i j == so) = lvS N A so j i (colF F so j i) := by
  unfold lvB lvS colF
  cases (F i)[j]?.getD false <;> cases so <;> rfl
def setF (F : Nat → List Bool) (t j : Nat) (so : Bool) : Nat → List Bool := fun i => if i = t then (F i).set j so else F i
theorem colF_set (F : Nat → List Bool) (so : Bool) (t j : Nat) (h : j < (F t).length) : colF (setF F t j so) so j = upB (colF F so j) t := by
  funext i
  unfold colF setF upB
  by_cases e : i = t
  · subst e
    simp [h]
  · simp [e]
theorem setF_len (F : Nat → List Bool) (so : Bool) (t j i : Nat) : (setF F t j so i).length = (F i).length := by
  unfold setF
  split <;> simp
theorem setF_other (F : Nat → List Bool) (so : Bool) (t j i j' : Nat) (h : j' ≠ j) : (setF F t j so i)[j']?.getD false = (F i)[j']?.getD false := by
  unfold setF
  split
  · rw [List.getElem?_set, if_neg (fun e => h e.symm)]
  · rfl
theorem Mat.setF {w : World} {bm : Nat} {c : List Bool} {n : Nat} {R : Nat → Nat} {F : Nat → List Bool} (h : Mat w bm c n R F) (hR : ∀ i ∈ ones c, ∀ j ∈ ones c, R i = R j → i = j) {t j : Nat} (ht : t ∈ ones c) (so : Bool) :
    Mat (w.setCell ⟨R t, j, none⟩ (.bool so)) bm c n R (setF F t j so) := by
  obtain ⟨h1, h2⟩ := h.row t ht
  refine ⟨h.rows.far (bx_ne h2 h.rows (by decide)) _, fun i hi => ⟨by rw [setF_len]; exact (h.row i hi).1, ?_⟩⟩
  by_cases e : i = t
  · subst e
    have := h2.set j (.bool so)
    rw [bC_set] at this
    unfold Go.Proofs.Ytfpdecjlfnambaa.setF
    rw [if_pos rfl]
    exact this
  · unfold Go.Proofs.Ytfpdecjlfnambaa.setF
    rw [if_neg e]
    exact (h.row i hi).2.far (fun e2 => e (hR t ht i hi e2).symm) _

/-- What a flow's spread reads and changes. -/
structure SE where
  n1 : Nat
  w0 : World
  f : Nat
  m : Nat
  B : Bv
  n : Nat
  cv : Value
  back : Bool
  bf : Nat
  bn : Nat
  ba : Nat
  c : List Bool
  Rf : Nat → Nat
  Rn : Nat → Nat
  Ra : Nat → Nat
  N : Nat → List Bool
  A : Nat → List Bool
  so : Bool
  next : Nat → List Nat
  P0 : Nat → Prop
structure SE.Ok (E : SE) : Prop where
  injf : ∀ i ∈ ones E.c, ∀ j ∈ ones E.c, E.Rf i = E.Rf j → i = j
  fn : ∀ i ∈ ones E.c, ∀ j ∈ ones E.c, E.Rf i ≠ E.Rn j
  fa : ∀ i ∈ ones E.c, ∀ j ∈ ones E.c, E.Rf i ≠ E.Ra j
  p0 : ∀ b, E.P0 b → b < E.w0.heap.size ∧ ∀ i ∈ ones E.c, b ≠ E.Rf i
  nok : ∀ p ∈ ones E.c, ∀ t ∈ E.next p, t ∈ ones E.c
  n1k : E.n ≤ 1000
  c1k : E.c.length ≤ 1000
  mono : ∀ j p, lvS E.N E.A E.so j p false = true → lvS E.N E.A E.so j p true = true
abbrev SE.flow (E : SE) : List Value := flC E.m E.B E.n E.cv E.back (.slice (some ⟨E.bf, 0, none⟩) E.c.length E.c.length) (.slice (some ⟨E.bn, 0, none⟩) E.c.length E.c.length) (.slice (some ⟨E.ba, 0, none⟩) E.c.length E.c.length)
/-- The flow and its matrices in a world. -/
structure SE.At (E : SE) (F : Nat → List Bool) (W : World) : Prop where
  flow : Bx W E.f 79 E.flow
  mf : Mat W E.bf E.c E.n E.Rf F
  mn : Mat W E.bn E.c E.n E.Rn E.N
  ma : Mat W E.ba E.c E.n E.Ra E.A
theorem SE.At.of {E : SE} {F : Nat → List Bool} {W W' : World} (h : E.At F W) (hh : ∀ b, b < W.heap.size → (∃ cs t, Bx W b t cs ∧ (b = E.f ∨ b = E.bf ∨ b = E.bn ∨ b = E.ba ∨ ∃ i ∈ ones E.c, b = E.Rf i ∨ b = E.Rn i ∨ b = E.Ra i)) → W'.heap[b]? = W.heap[b]?) : E.At F W' :=
  ⟨h.flow.of_heap (hh _ h.flow.lt ⟨_, _, h.flow, .inl rfl⟩),
   h.mf.of (hh _ h.mf.rows.lt ⟨_, _, h.mf.rows, .inr (.inl rfl)⟩) (fun i hi => hh _ (h.mf.row i hi).2.lt ⟨_, _, (h.mf.row i hi).2, .inr (.inr (.inr (.inr ⟨i, hi, .inl rfl⟩)))⟩),
   h.mn.of (hh _ h.mn.rows.lt ⟨_, _, h.mn.rows, .inr (.inr (.inl rfl))⟩) (fun i hi => hh _ (h.mn.row i hi).2.lt ⟨_, _, (h.mn.row i hi).2, .inr (.inr (.inr (.inr ⟨i, hi, .inr (.inl rfl)⟩)))⟩),
   h.ma.of (hh _ h.ma.rows.lt ⟨_, _, h.ma.rows, .inr (.inr (.inr (.inl rfl)))⟩) (fun i hi => hh _ (h.ma.row i hi).2.lt ⟨_, _, (h.ma.row i hi).2, .inr (.inr (.inr (.inr ⟨i, hi, .inr (.inr rfl)⟩)))⟩)⟩
theorem SE.At.put {E : SE} {F : Nat → List Bool} {W : World} (h : E.At F W) {r : Nat} {o : Obj} (o' : Obj) (hr : W.heap[r]? = some o) (ho : o.isCells = false) : E.At F (W.putObj r o') := h.of fun b hb hx => by
  obtain ⟨cs, t, hc, -⟩ := hx
  refine World.putObj_heap_other (fun e => ?_)
  subst e
  rw [show W.heap[b]? = _ from hc] at hr
  cases hr
  cases ho
theorem SE.At.below {E : SE} {F : Nat → List Bool} {W W' : World} (h : E.At F W) (hB : Below W.heap.size W W') : E.At F W' := h.of fun b hb _ => hB.block b hb
theorem SE.At.set {E : SE} {F : Nat → List Bool} {W : World} (h : E.At F W) (hE : E.Ok) {t : Nat} (j : Nat) (ht : t ∈ ones E.c) : E.At (setF F t j E.so) (W.setCell ⟨E.Rf t, j, none⟩ (.bool E.so)) := by
  have hr := (h.mf.row t ht).2
  have far : ∀ {b : Nat}, b ≠ E.Rf t → (W.setCell ⟨E.Rf t, j, none⟩ (.bool E.so)).heap[b]? = W.heap[b]? := fun hb => Below.heap_setCell _ _ _ _ hb
  exact ⟨h.flow.of_heap (far (bx_ne h.flow hr (by decide))), h.mf.setF hE.injf ht _, h.mn.of (far (bx_ne h.mn.rows hr (by decide))) (fun i hi => far (fun e => hE.fn t ht i hi e.symm)), h.ma.of (far (bx_ne h.ma.rows hr (by decide))) (fun i hi => far (fun e => hE.fa t ht i hi e.symm))⟩
theorem SE.At.leaves {E : SE} {F : Nat → List Bool} {W : World} (h : E.At F W) (hE : E.Ok) {t j : Nat} (ht : t ∈ ones E.c) (hj : j < E.n) : Calls Try.prog 47 #[.pointer (some ⟨E.f, 0, none⟩), .int .i64 (t : Int), .int .i64 (j : Int)] W fun e w' => e = .returned (.bool (lvB F E.A E.N t j)) ∧ w' = W :=
  leaves_any E.f E.m E.B E.n E.cv E.back E.bf E.bn E.ba E.c E.Rf E.Rn E.Ra F E.N E.A E.c.length rfl t j ht hj hE.n1k hE.c1k W h.flow h.mf h.mn h.ma

/-- What is so between two looks of spread, at flag j; F0: as it was ahead of this flag. -/
def SJ (E : SE) (j bN bP bJ bS : Nat) (vN : Value) (F0 : Nat → List Bool) (μ : Nat) (Q : List Nat) (W : World) : Prop :=
  E.n1 ≤ W.heap.size ∧ Kep (fun b => ∃ i ∈ ones E.c, b = E.Rf i) E.w0 W ∧ Bx W bN 84 [vN] ∧ Bx W bP 73 [.pointer (some ⟨E.f, 0, none⟩)] ∧ Bx W bJ 3 [.int .i64 (j : Int)] ∧ Bx W bS 4 [.bool E.so] ∧
    ∃ F, E.At F W ∧ (∀ i ∈ ones E.c, ∀ j', j' ≠ j → (F i)[j']?.getD false = (F0 i)[j']?.getD false) ∧ Full (fun i => i ∈ ones E.c) (fun i => colF F0 E.so j i = true) E.next (lvS E.N E.A E.so j) (colF F E.so j) Q ∧
      μ = Q.length + cnt E.c.length (lvS E.N E.A E.so j) (colF F E.so j) ∧ μ ≤ 2000
/-- What is so between two rounds of a look of spread. -/
def SpreadI (E : SE) (j : Nat) (F0 : Nat → List Bool) (w1 : World) (qb : Nat) (v : Value) (x μ k : Nat) (W : World) : Prop :=
  Kep (fun b => (∃ i ∈ ones E.c, b = E.Rf i) ∨ b = qb ∨ v.ownBlock = some b ∨ w1.heap.size + 2 ≤ b) w1 W ∧ ∃ F' Q' v', E.At F' W ∧ (∀ i ∈ ones E.c, ∀ j', j' ≠ j → (F' i)[j']?.getD false = (F0 i)[j']?.getD false) ∧ QAt E.n1 W qb v' Q' ∧
    (∀ b, v'.ownBlock = some b → v.ownBlock = some b ∨ w1.heap.size + 2 ≤ b) ∧ Part (fun i => i ∈ ones E.c) (fun i => colF F0 E.so j i = true) E.next (lvS E.N E.A E.so j) (colF F' E.so j) Q' x k ∧ Q'.length + cnt E.c.length (lvS E.N E.A E.so j) (colF F' E.so j) + 1 ≤ μ
/-- The streams are as they were; no block has gone. -/
def os3 (W W' : World) : Prop := W'.os = W.os ∧ W'.tape = W.tape ∧ W'.output = W.output ∧ W.heap.size ≤ W'.heap.size
/-- What the function that tells where to go must do. -/
def NextOk (E : SE) (h gf : Nat) (pc : Value) : Prop :=
  ∀ x ∈ ones E.c, ∀ W : World, E.w0.heap.size ≤ W.heap.size → (∀ b, E.P0 b → W.heap[b]? = E.w0.heap[b]?) → Calls Try.prog h #[.int .i64 (x : Int), pc] W fun e w' => ∃ (lb : Array Value) (D : World → Prop), e = .returned (.func (.func gf) #[] lb) ∧ Below W.heap.size W w' ∧
    Giv Try.prog gf lb (fun (x : Nat) => #[Value.int .i64 (x : Int)]) D (E.next x) ∧ D w' ∧ (∀ W1 W', D W1 → (∀ b, (E.P0 b ∨ (W.heap.size ≤ b ∧ b < w'.heap.size)) → W'.heap[b]? = W1.heap[b]?) → os3 W1 W' → D W')

end Go.Proofs.Ytfpdecjlfnambaa
