/-
  A range over a function that hands over a known list and turns nothing between two rounds: the caller's laws, outside and inside a round. No conditions: laws alone.
-/
import Derived.Test.YtfpdecjlfnambaaGBase
namespace Go.Proofs.Ytfpdecjlfnambaa
open Go Go.RowKit Go.Shelf

/-- The function value (g, lb) hands over xs, one behind the other, as long as what it reads (D) lies as it lay. -/
def Giv {α : Type} (P : Program) (g : Nat) (lb : Array Value) (encs : α → Array Value) (D : World → Prop) (xs : List α) : Prop :=
  ∀ (l : Nat) (J : Nat → World → Prop) (W : World), (∀ k W, J k W → D W) →
    (∀ k (hk : k < xs.length) W1, J k W1 → YieldAt Fence.wide 0 P l (encs xs[k]) W1 fun e W' => e = .returned (.bool true) ∧ J (k + 1) W') →
    J 0 W → CallsIn Fence.wide 0 P g (#[.func (.yield l) #[] #[]] ++ lb) W fun e W' => (∃ v, e = .returned v) ∧ J xs.length W'

/-- How a round's body must end. -/
def RoundQ (M : Nat → Prop) (I : World → Prop) (W : World) : Exit → Act → World → Prop
  | .normal, _, W' => Kep M W W' ∧ I W'
  | _, _, _ => False
theorem RoundQ.notOut {M : Nat → Prop} {I : World → Prop} {W : World} : ¬ LetsOut (RoundQ M I W) := fun ⟨_, _, h⟩ => h

theorem Bx.put {w : World} {b : Nat} {t : TypeId} {l : List Value} (h : Bx w b t l) {r : Nat} {o : Obj} (o' : Obj) (hr : w.heap[r]? = some o) (ho : o.isCells = false) : Bx (w.putObj r o') b t l := h.of_heap (World.putObj_heap_other (fun e => by
  subst e
  rw [show w.heap[b]? = _ from h] at hr
  cases hr
  cases ho))
theorem Kep.put {M : Nat → Prop} {a b : World} (h : Kep M a b) {r : Nat} (hr : a.heap.size ≤ r ∨ M r) (o : Obj) : Kep M a (b.putObj r o) :=
  ⟨h.os, h.tape, h.output, by simp; exact h.size, fun k hk hm => (World.putObj_heap_other (fun e => by
    subst e
    rcases hr with hr | hr
    · omega
    · exact hm hr)).trans (h.same k hk hm)⟩

section
variable {α : Type} {P : Program} {gf : Nat} {lb : Array Value} {encs : α → Array Value} {D : World → Prop} {xs : List α}

theorem rounds_of (hgiv : Giv P gf lb encs D xs) {n0 l fn : Nat} {rec : LoopState → Option Code → Loop} {tmps : Array Value} {ps : Array Tmp} {assign body : Code} {df : Nat}
    (hrec : rec = fun st pe => { state := st, pending := pe, fn, tmps, params := ps, assign, body, defers := df }) (hps : ∀ x, (encs x).size = ps.size)
    (M : Nat → Prop) (hml : ¬ M l) (hl : n0 ≤ l) (X : World → Prop) (hX : ∀ W W', Kep M W W' → X W → X W') (hXl : ∀ W o, X W → X (W.putObj l o))
    (I : Nat → World → Prop) (hI : ∀ k W r o o', n0 ≤ r → W.heap[r]? = some o → o.isCells = false → I k W → I k (W.putObj r o')) (hID : ∀ k W, I k W → D W)
    (hround : ∀ k (hk : k < xs.length) W, I k W → (∃ r, W.heap[l]? = some (.loop r)) → X W → assign.wpIn (WR l) 0 P (Exit.then (fun a' W1 => Kep M W W1 ∧ ∀ r, body.wpIn (WR l) 0 P (RoundQ M (I (k + 1)) (W1.putObj l (.loop r))) a' (W1.putObj l (.loop r))) (fun _ _ _ => False)) { tmps := (ps.zip (encs xs[k])).foldl (fun t (p, v) => t.setIfInBounds p v) tmps, defers := [] } W)
    (W1 : World) (hl1 : W1.heap[l]? = some (.loop (rec .ready none))) (h0 : I 0 W1) (hx : X W1) :
    CallsIn Fence.wide 0 P gf (#[.func (.yield l) #[] #[]] ++ lb) W1 fun e W2 => (∃ v, e = .returned v) ∧ I xs.length W2 ∧ W2.heap[l]? = some (.loop (rec .ready none)) ∧ X W2 := by
  refine hgiv l (fun k W => I k W ∧ W.heap[l]? = some (.loop (rec .ready none)) ∧ X W) W1 (fun k W h => hID k W h.1) ?_ ⟨h0, hl1, hx⟩
  rintro k hk W ⟨hi, hlp, hxw⟩
  have hy := run_yield (P := P) (args := encs xs[k]) hlp (by rw [hrec]; exact hps _)
  rw [hrec] at hy
  refine ⟨fn, _, assign, body, hy, roundIn_of_wpIn trivial (wpIn_mono (hround k hk W hi ⟨_, hlp⟩ hxw) ?_)⟩
  clear hy
  rintro e a' Wa hp
  cases e with
  | normal =>
    obtain ⟨hka, hra⟩ := hp
    have hla : Wa.heap[l]? = some (.loop (rec .ready none)) := (hka.same l (Array.getElem?_eq_some_iff.1 hlp).1 hml).trans hlp
    have hlt : l < Wa.heap.size := (Array.getElem?_eq_some_iff.1 hla).1
    refine ⟨_, run_beginRound hla (by rw [hrec]), ?_⟩
    have hlb : (Wa.putObj l (.loop { rec .ready none with state := .busy })).heap[l]? = some (.loop { rec .ready none with state := .busy }) := World.putObj_heap_same hlt
    refine wpIn_mono (hra _) ?_
    rintro e a3 W3 hp3
    cases e with
    | normal =>
      obtain ⟨hk3, hi3⟩ := hp3
      have hl3 := (hk3.same l (Array.getElem?_eq_some_iff.1 hlb).1 hml).trans hlb
      have hend := run_endRound (P := P) none hl3
      refine ⟨_, _, hend, rfl, hI _ _ _ _ _ hl hl3 rfl hi3, ?_, hXl _ _ (hX _ _ hk3 (hXl _ _ (hX _ _ hka hxw)))⟩
      rw [World.putObj_heap_same (Array.getElem?_eq_some_iff.1 hl3).1]
      rw [hrec]
      rfl
    | ret => exact hp3.elim
    | exit id => exact hp3.elim
    | goto t => exact hp3.elim
    | panic ch => exact hp3.elim
    | outgrown => exact hp3.elim
  | ret => exact hp.elim
  | exit id => exact hp.elim
  | goto t => exact hp.elim
  | panic ch => exact hp.elim
  | outgrown => exact hp.elim

/-- **'for x := range g { .. }' OUTSIDE A ROUND.** -/
theorem wp_range {g : Operand} {ps : Array Tmp} {assign body : Code} {Q : Exit → Act → World → Prop} {a : Act} {w : World}
    (hgiv : Giv P gf lb encs D xs) (hg : a.eval g = .func (.func gf) #[] lb) (eg : ∀ args w, (callFunc gf args).run P w = .ok (.enter gf args) w) (hps : ∀ x, (encs x).size = ps.size)
    (M : Nat → Prop) (hM : ¬ M w.heap.size ∧ ¬ M (w.heap.size + 1))
    (I : Nat → World → Prop) (hI : ∀ k W r o o', w.heap.size ≤ r → W.heap[r]? = some o → o.isCells = false → I k W → I k (W.putObj r o')) (hID : ∀ k W, I k W → D W)
    (h0 : ∀ r, I 0 ((w.alloc (.deferred (some []))).alloc (.loop r)))
    (hround : ∀ k (hk : k < xs.length) W, I k W → (∃ r, W.heap[w.heap.size + 1]? = some (.loop r)) → W.heap[w.heap.size]? = some (.deferred (some [])) → assign.wpIn (WR (w.heap.size + 1)) 0 P (Exit.then (fun a' W1 => Kep M W W1 ∧ ∀ r, body.wpIn (WR (w.heap.size + 1)) 0 P (RoundQ M (I (k + 1)) (W1.putObj (w.heap.size + 1) (.loop r))) a' (W1.putObj (w.heap.size + 1) (.loop r))) (fun _ _ _ => False)) { tmps := (ps.zip (encs xs[k])).foldl (fun t (p, v) => t.setIfInBounds p v) a.tmps, defers := [] } W)
    (hdone : ∀ W, I xs.length W → W.heap[w.heap.size]? = some (.deferred (some [])) → Q .normal { a with defers := mark w.heap.size :: a.defers } W) :
    (Code.rangeFunc g ps assign body).wp P Q a w := by
  refine (wpIn_wide (n := 0)).1 (wpIn_rangeFunc ?_)
  intro fn _
  obtain ⟨rec, hrec⟩ : ∃ rec : LoopState → Option Code → Loop, rec = fun st pe => { state := st, pending := pe, fn, tmps := a.tmps, params := ps, assign, body, defers := w.heap.size } := ⟨_, rfl⟩
  obtain ⟨W1, hW1⟩ : ∃ W1, (w.alloc (.deferred (some []))).alloc (.loop (rec .ready none)) = W1 := ⟨_, rfl⟩
  have hL1 : W1.heap[w.heap.size + 1]? = some (.loop (rec .ready none)) := by
    rw [← hW1]
    have := World.alloc_heap_new (w.alloc (.deferred (some []))) (.loop (rec .ready none))
    rwa [World.size_alloc] at this
  have hK1 : W1.heap[w.heap.size]? = some (.deferred (some [])) := by
    rw [← hW1]
    exact (Below.heap_alloc _ _ _ (by simp)).trans (World.alloc_heap_new w _)
  have hI1 : I 0 W1 := by
    rw [← hW1]
    exact h0 _
  refine ⟨w.heap.size + 1, [mark w.heap.size], W1, { target := .fn (.func gf) lb, args := #[.func (.yield (w.heap.size + 1)) #[] #[]] }, W1, gf, #[.func (.yield (w.heap.size + 1)) #[] #[]] ++ lb, W1, ?_, ?_, fun _ _ => trivial, ?_, fun h => (by cases h), ?_⟩
  · rw [← hW1, hrec]
    exact run_enterLoop_outer _ _ _ _ _
  · simp only [resolve, hg]
    simp [go_sem]
  · simp [invoke, go_sem, eg]
  · refine (rounds_of hgiv (n0 := w.heap.size) (l := w.heap.size + 1) hrec hps M hM.2 (by omega) (fun W => W.heap[w.heap.size]? = some (.deferred (some [])))
      (fun W W' hk hx => (hk.same _ (Array.getElem?_eq_some_iff.1 hx).1 hM.1).trans hx) (fun W o hx => (World.putObj_heap_other (by omega)).trans hx)
      I hI hID hround W1 hL1 hI1 hK1).mono ?_
    rintro e W2 ⟨⟨v, rfl⟩, hi, hlp, hd⟩
    refine ⟨none, _, (by have := run_endLoop (P := P) hlp (by rw [hrec]; simp); rw [hrec] at this; exact this), ?_⟩
    exact hdone _ (hI _ _ _ _ _ (by omega) hlp rfl hi) ((World.putObj_heap_other (by omega)).trans hd)

/-- **.. INSIDE A ROUND OF ANOTHER LOOP.** -/
theorem wpIn_range {g : Operand} {ps : Array Tmp} {assign body : Code} {Q : Exit → Act → World → Prop} {a : Act} {w : World} {l₀ : Nat} (hl₀ : ∃ r₀, w.heap[l₀]? = some (.loop r₀))
    (hgiv : Giv P gf lb encs D xs) (hg : a.eval g = .func (.func gf) #[] lb) (eg : ∀ args w, (callFunc gf args).run P w = .ok (.enter gf args) w) (hps : ∀ x, (encs x).size = ps.size)
    (M : Nat → Prop) (hM : ¬ M w.heap.size)
    (I : Nat → World → Prop) (hI : ∀ k W r o o', w.heap.size ≤ r → W.heap[r]? = some o → o.isCells = false → I k W → I k (W.putObj r o')) (hID : ∀ k W, I k W → D W)
    (h0 : ∀ r, I 0 (w.alloc (.loop r)))
    (hround : ∀ k (hk : k < xs.length) W, I k W → (∃ r, W.heap[w.heap.size]? = some (.loop r)) → assign.wpIn (WR w.heap.size) 0 P (Exit.then (fun a' W1 => Kep M W W1 ∧ ∀ r, body.wpIn (WR w.heap.size) 0 P (RoundQ M (I (k + 1)) (W1.putObj w.heap.size (.loop r))) a' (W1.putObj w.heap.size (.loop r))) (fun _ _ _ => False)) { tmps := (ps.zip (encs xs[k])).foldl (fun t (p, v) => t.setIfInBounds p v) a.tmps, defers := [] } W)
    (hdone : ∀ W, I xs.length W → Q .normal a W) :
    (Code.rangeFunc g ps assign body).wpIn (WR l₀) 0 P Q a w := by
  refine wpIn_rangeFunc ?_
  intro fn _
  obtain ⟨r₀, hl₀⟩ := hl₀
  obtain ⟨rec, hrec⟩ : ∃ rec : LoopState → Option Code → Loop, rec = fun st pe => { state := st, pending := pe, fn, tmps := a.tmps, params := ps, assign, body, defers := r₀.defers } := ⟨_, rfl⟩
  obtain ⟨W1, hW1⟩ : ∃ W1, w.alloc (.loop (rec .ready none)) = W1 := ⟨_, rfl⟩
  have hL1 : W1.heap[w.heap.size]? = some (.loop (rec .ready none)) := by
    rw [← hW1]
    exact World.alloc_heap_new w _
  have hI1 : I 0 W1 := by
    rw [← hW1]
    exact h0 _
  refine ⟨w.heap.size, [], W1, { target := .fn (.func gf) lb, args := #[.func (.yield w.heap.size) #[] #[]] }, W1, gf, #[.func (.yield w.heap.size) #[] #[]] ++ lb, W1, ?_, ?_, fun _ _ => trivial, ?_, fun h => (by cases h), ?_⟩
  · rw [← hW1, hrec]
    exact run_enterLoop_inner hl₀ _ _ _ _ _
  · simp only [resolve, hg]
    simp [go_sem]
  · simp [invoke, go_sem, eg]
  · refine CallsIn.inRound l₀ ((rounds_of hgiv (n0 := w.heap.size) (l := w.heap.size) hrec hps M hM (Nat.le_refl _) (fun _ => True) (fun _ _ _ _ => trivial) (fun _ _ _ => trivial)
      I hI hID (fun k hk W hi hr _ => hround k hk W hi hr) W1 hL1 hI1 trivial).mono ?_)
    rintro e W2 ⟨⟨v, rfl⟩, hi, hlp, -⟩
    refine ⟨none, _, (by have := run_endLoop (P := P) hlp (by rw [hrec]; simp); rw [hrec] at this; exact this), ?_⟩
    exact hdone _ (hI _ _ _ _ _ (Nat.le_refl _) hlp rfl hi)
end

end Go.Proofs.Ytfpdecjlfnambaa
