/-
  Several texts of the proof in one: PHeap, PVal, LNum, LByte, LScan. No conditions of their own: each lemma states its own.
-/
import Derived.WalkKit
import Derived.Below
import Derived.Laws.AppendOwn
import Derived.Test.YtghkbihgdabamaaGreatDoorKPModel
import Derived.Lib.AtoiAll
import Derived.Test.YtghkbihgdabamaaGreatDoorRows
import Derived.WalkSpells
import Derived.WalkLawsBesides
import Derived.Deep.QuietTactic
import Derived.BigQuiet
import Derived.Handy
import Derived.Lib.Hide
import Derived.Lib.Strings
import Derived.Lib.Walk
import Derived.Laws.Strings3
import Derived.Laws.Strings2
import Derived.BigCall
import Derived.BigGuard
import Derived.Deep.RegionHeld3
import Derived.Shelf.Abstract
namespace Go.Proofs.YtghkbihgdabamaaGreatDoor
open Go.RowKit

/-- each cell of the one is so in the other -/
structure Und (w0 w : World) : Prop where
  size : w0.heap.size ≤ w.heap.size
  cell : ∀ (p : Addr) v, w0.cell? p = some v → w.cell? p = some v
theorem Und.refl (w : World) : Und w w := ⟨Nat.le_refl _, fun _ _ h => h⟩
theorem Und.trans {w0 w1 w2 : World} (h : Und w0 w1) (h' : Und w1 w2) : Und w0 w2 := ⟨Nat.le_trans h.size h'.size, fun p v hv => h'.cell p v (h.cell p v hv)⟩
theorem Und.below {w w' : World} (h : Below w.heap.size w w') : Und w w' := ⟨h.size, fun p v hv => (h.cell (World.block_lt_of_cell? w p hv)).trans hv⟩

/-- the world without the blocks below a number, and without one -/
def eb (w : World) (B : Nat) (og : Option Nat) : World := { w with heap := w.heap.mapIdx fun i o => if B ≤ i ∧ og ≠ some i then o else .cells #[] 0 }
theorem eb_size (w : World) (B : Nat) (og : Option Nat) : (eb w B og).heap.size = w.heap.size := by simp [eb]
theorem eb_heap {w : World} {B b : Nat} {og : Option Nat} (h1 : B ≤ b) (h2 : og ≠ some b) : (eb w B og).heap[b]? = w.heap[b]? := by
  simp only [eb, Array.getElem?_mapIdx]
  cases w.heap[b]? with
  | none => rfl
  | some o => simp [h1, h2]
theorem eb_none {w : World} {B : Nat} {og : Option Nat} {p : Addr} (h : ¬ (B ≤ p.block ∧ og ≠ some p.block)) : (eb w B og).cell? p = none := by
  unfold World.cell?
  simp only [eb, Array.getElem?_mapIdx]
  cases w.heap[p.block]? with
  | none => rfl
  | some o =>
    rw [Option.map_some, if_neg h]
    cases p with
    | mk blk off bytes => cases bytes <;> simp
theorem eb_cell {w : World} {B : Nat} {og : Option Nat} {p : Addr} {v : Value} (h : (eb w B og).cell? p = some v) : B ≤ p.block ∧ og ≠ some p.block ∧ w.cell? p = some v := by
  by_cases hc : B ≤ p.block ∧ og ≠ some p.block
  · exact ⟨hc.1, hc.2, by rw [← h]; exact (World.cell?_of_block (eb_heap hc.1 hc.2)).symm⟩
  · rw [eb_none hc] at h; cases h
theorem eb_cell_mk {w : World} {B : Nat} {og : Option Nat} {p : Addr} {v : Value} (h1 : B ≤ p.block) (h2 : og ≠ some p.block) (h : w.cell? p = some v) : (eb w B og).cell? p = some v :=
  (World.cell?_of_block (eb_heap h1 h2)).trans h
/-- whatever is kept there is kept -/
theorem eb_und {w w' : World} {B B' : Nat} {og og' : Option Nat} (hs : w.heap.size ≤ w'.heap.size) (h : ∀ b, b < w.heap.size → B ≤ b → og ≠ some b → B' ≤ b ∧ og' ≠ some b ∧ w'.heap[b]? = w.heap[b]?) : Und (eb w B og) (eb w' B' og') := by
  refine ⟨by rw [eb_size, eb_size]; exact hs, fun p v hv => ?_⟩
  obtain ⟨h1, h2, h3⟩ := eb_cell hv
  obtain ⟨h4, h5, h6⟩ := h p.block (World.block_lt_of_cell? w p h3) h1 h2
  exact eb_cell_mk h4 h5 ((World.cell?_of_block h6).trans h3)

/-- what a call leaves alone: all blocks that were there but for one -/
structure Kb (b : Nat) (w w' : World) : Prop where
  os : w'.os = w.os
  tape : w'.tape = w.tape
  output : w'.output = w.output
  size : w.heap.size ≤ w'.heap.size
  block : ∀ x, x < w.heap.size → x ≠ b → w'.heap[x]? = w.heap[x]?
theorem Kb.refl (b : Nat) (w : World) : Kb b w w := ⟨rfl, rfl, rfl, Nat.le_refl _, fun _ _ _ => rfl⟩
theorem Kb.trans {b : Nat} {w w1 w2 : World} (h : Kb b w w1) (h' : Kb b w1 w2) : Kb b w w2 :=
  ⟨h'.os.trans h.os, h'.tape.trans h.tape, h'.output.trans h.output, Nat.le_trans h.size h'.size, fun x hx hn => (h'.block x (Nat.lt_of_lt_of_le hx h.size) hn).trans (h.block x hx hn)⟩
theorem Kb.of_below {b : Nat} {w w' : World} (h : Below w.heap.size w w') : Kb b w w' := ⟨h.os, h.tape, h.output, h.size, fun x hx _ => h.block x hx⟩
theorem Kb.set {b : Nat} (w : World) (j : Nat) (v : Value) : Kb b w (w.setCell ⟨b, j, none⟩ v) :=
  ⟨rfl, rfl, rfl, by simp [World.setCell], fun x _ hn => Below.heap_setCell _ _ _ _ hn⟩
theorem Kb.cell {b : Nat} {w w' : World} (h : Kb b w w') {p : Addr} (hp : p.block < w.heap.size) (hn : p.block ≠ b) : w'.cell? p = w.cell? p := World.cell?_of_block (h.block _ hp hn)
/-- new blocks may be written -/
theorem Kb.next {b : Nat} {w w1 w2 : World} (h : Kb b w w1) (os : w2.os = w1.os) (tape : w2.tape = w1.tape) (output : w2.output = w1.output) (size : w1.heap.size ≤ w2.heap.size) (hk : ∀ x, x < w.heap.size → x ≠ b → w2.heap[x]? = w1.heap[x]?) : Kb b w w2 :=
  ⟨os.trans h.os, tape.trans h.tape, output.trans h.output, Nat.le_trans h.size size, fun x hx hn => (hk x hx hn).trans (h.block x hx hn)⟩
theorem Kb.alloc {b : Nat} {w w1 : World} (h : Kb b w w1) (o : Obj) : Kb b w (w1.alloc o) :=
  h.trans (Kb.of_below ((Below.refl _ _).alloc (Nat.le_refl _) o))
theorem Kb.drew {b : Nat} {w w1 : World} (h : Kb b w w1) : Kb b w w1.drew := ⟨h.os, h.tape, h.output, h.size, h.block⟩
theorem Kb.und {b B B' : Nat} {og : Option Nat} {w w' : World} (h : Kb b w w') (hb : b < B) (hB : B' ≤ B) : Und (eb w B og) (eb w' B' og) :=
  eb_und h.size fun x hx h1 h2 => ⟨Nat.le_trans hB h1, h2, h.block x hx (by omega)⟩

/-- a row that grows, and things in it -/
structure RowV {α : Type} (w : World) (B e sz : Nat) (v : Value) (C : α → List Value) (P : World → α → Prop) (xs : List α) : Prop where
  own : w.ownsRow B e sz v xs.length (xs.flatMap C)
  all : ∀ x ∈ xs, P (eb w B v.ownBlock) x
def Mono {α : Type} (P : World → α → Prop) : Prop := ∀ W W' x, Und W W' → P W x → P W' x
section
variable {α : Type} {w w' : World} {B e sz b : Nat} {v v' : Value} {C : α → List Value} {P : World → α → Prop} {xs : List α}
theorem own_keep {n : Nat} {ys : List Value} (h : w.ownsRow B e sz v n ys) (hk : ∀ b, v.ownBlock = some b → w'.heap[b]? = w.heap[b]?) : w'.ownsRow B e sz v n ys := by
  refine ⟨h.1, ?_⟩
  rcases h.2 with hn | ⟨g, cap, cur, rfl, hbb, hgg, rest⟩
  · exact .inl hn
  · exact .inr ⟨g, cap, cur, rfl, hbb, (hk g rfl).trans hgg, rest⟩
theorem own_blk {n : Nat} {ys : List Value} (h : w.ownsRow B e sz v n ys) (hb : v.ownBlock = some b) : ∃ cs : Array Value, w.heap[b]? = some (.cells cs e) := by
  rcases h.2 with ⟨rfl, _⟩ | ⟨g, cap, cur, rfl, hbb, hgg, rest⟩
  · cases hb
  · cases hb
    exact ⟨_, hgg⟩
theorem own_lt {n : Nat} {ys : List Value} (h : w.ownsRow B e sz v n ys) (hb : v.ownBlock = some b) : B ≤ b ∧ b < w.heap.size := by
  obtain ⟨_, h1⟩ := own_blk h hb
  exact ⟨(h.lt b hb).1, (Array.getElem?_eq_some_iff.1 h1).1⟩
theorem RowV.nil : RowV w B e sz (.slice none 0 0) C P [] := ⟨World.ownsRow_nil _ _ _ _, fun _ h => by cases h⟩
theorem RowV.keep (h : RowV w B e sz v C P xs) (hP : Mono P) (hk : Kb b w w') (hb : b < B) : RowV w' B e sz v C P xs :=
  ⟨own_keep h.own fun x hx => hk.block x (own_lt h.own hx).2 (by have := (own_lt h.own hx).1; omega), fun x hx => hP _ _ x (hk.und hb (Nat.le_refl _)) (h.all x hx)⟩
end

end Go.Proofs.YtghkbihgdabamaaGreatDoor

namespace Go.Proofs.YtghkbihgdabamaaGreatDoor
open Go.RowKit

mutual
def erTy : Ty5 → Ty5
  | .mk k nm _ l => .mk k nm h0 (erTys l)
def erTys : List Ty5 → List Ty5
  | [] => []
  | a :: l => erTy a :: erTys l
end
theorem erTys_eq : ∀ l, erTys l = l.map erTy
  | [] => by rw [erTys]; rfl
  | a :: l => by rw [erTys, erTys_eq l]; rfl
def erPl (p : Pl5) : Pl5 := ⟨p.nm, h0, p.path⟩
def erOp (o : Op5) : Op5 := ⟨o.num, o.n, erPl o.p⟩
def erRv (v : Rv5) : Rv5 := ⟨v.k, h0, v.ops.map erOp, erPl v.p, v.nm, v.vr⟩
mutual
def erSt : St5 → St5
  | .mk k pos nm ty p rv op _ th _ el _ ar => .mk k pos nm (erTy ty) (erPl p) (erRv rv) (erOp op) h0 (erSts th) h0 (erSts el) h0 (erArs ar)
def erSts : List St5 → List St5
  | [] => []
  | a :: l => erSt a :: erSts l
def erAr : Ar5 → Ar5
  | .mk vr b _ body => .mk vr b h0 (erSts body)
def erArs : List Ar5 → List Ar5
  | [] => []
  | a :: l => erAr a :: erArs l
end
def erFd (f : Fd5) : Fd5 := ⟨f.nm, erTy f.ty⟩
def erSu (s : Su5) : Su5 := ⟨s.nm, s.drop, h0, s.fields.map erFd, s.pos⟩
def erEn (s : En5) : En5 := ⟨s.nm, h0, s.vars.map erFd, s.pos⟩
def erFn (s : Fn5) : Fn5 := ⟨s.nm, h0, s.params.map erFd, h0, s.body.map erSt, s.pos⟩
theorem Row.und {α : Type} {w w' : World} {h : Hd} {sz : Nat} {l : List α} {C : α → List Value} {P Q : α → Prop} (r : Row w h sz l C P) (hu : Und w w') (hq : ∀ x, x ∈ l → P x → Q x) : Row w' h sz l C Q :=
  ⟨r.1, r.2.1, fun h0 => by
    obtain ⟨b, off, h1, h2, h3⟩ := r.2.2.1 h0
    exact ⟨b, off, h1, Nat.lt_of_lt_of_le h2 hu.size, fun i x hx j v hv => hu.cell _ _ (h3 i x hx j v hv)⟩, fun x hx => hq x hx (r.2.2.2 x hx)⟩
theorem Row.nil {α : Type} (w : World) (sz : Nat) (C : α → List Value) (P : α → Prop) : Row w h0 sz [] C P := ⟨Nat.le_refl _, Nat.zero_le _, fun h => absurd h (Nat.lt_irrefl _), fun _ h => by cases h⟩
theorem TyH.und : ∀ (n : Nat), Mono (TyH n)
  | 0, _, _, _, _, h => h.elim
  | n + 1, _, _, .mk _ _ _ _, hu, ⟨h1, h2⟩ => ⟨h1, h2.und hu fun _ _ hx => TyH.und n _ _ _ hu hx⟩
theorem PlH.und : Mono PlH := fun _ _ _ hu h => Row.und h hu fun _ _ _ => trivial
theorem OpH.und : Mono OpH := fun _ _ _ hu h => ⟨h.1, PlH.und _ _ _ hu h.2⟩
theorem RvH.und : Mono RvH := fun _ _ _ hu h => ⟨h.1, h.2.1.und hu fun _ _ hx => OpH.und _ _ _ hu hx, PlH.und _ _ _ hu h.2.2⟩
theorem StAr.und : ∀ (n : Nat), Mono (StH n) ∧ Mono (ArH n)
  | 0 => ⟨by intro _ _ _ _ h; unfold StH at h; exact h.elim, by intro _ _ _ _ h; unfold ArH at h; exact h.elim⟩
  | n + 1 => by
    obtain ⟨i1, i2⟩ := StAr.und n
    constructor
    · intro w w' t hu h
      cases t with
      | mk k pos nm ty p rv op ht th he el ha arms =>
        obtain ⟨h1, h2, h3, h4, h5, h6, h7, h8⟩ := h
        exact ⟨h1, TyH.und _ _ _ _ hu h2, PlH.und _ _ _ hu h3, RvH.und _ _ _ hu h4, OpH.und _ _ _ hu h5, h6.und hu fun _ _ hx => i1 _ _ _ hu hx, h7.und hu fun _ _ hx => i1 _ _ _ hu hx, h8.und hu fun _ _ hx => i2 _ _ _ hu hx⟩
    · intro w w' t hu h
      cases t with
      | mk vr bind hh body => exact Row.und h hu fun _ _ hx => i1 _ _ _ hu hx
theorem StH.und (n : Nat) : Mono (StH n) := (StAr.und n).1
theorem ArH.und (n : Nat) : Mono (ArH n) := (StAr.und n).2
theorem FdH.und (n : Nat) : Mono (FdH n) := fun _ _ _ hu h => TyH.und n _ _ _ hu h
theorem SuH.und (n : Nat) : Mono (SuH n) := fun _ _ _ hu h => Row.und h hu fun _ _ hx => FdH.und n _ _ _ hu hx
theorem EnH.und (n : Nat) : Mono (EnH n) := fun _ _ _ hu h => Row.und h hu fun _ _ hx => FdH.und n _ _ _ hu hx
theorem FnH.und (n : Nat) : Mono (FnH n) := fun _ _ _ hu h => ⟨h.1.und hu fun _ _ hx => FdH.und n _ _ _ hu hx, h.2.und hu fun _ _ hx => StH.und n _ _ _ hu hx⟩
theorem SoH.und (n : Nat) : Mono (SoH n) := fun _ _ _ hu h => ⟨h.1.und hu fun _ _ hx => SuH.und n _ _ _ hu hx, h.2.1.und hu fun _ _ hx => EnH.und n _ _ _ hu hx, h.2.2.und hu fun _ _ hx => FnH.und n _ _ _ hu hx⟩
/-- a value whose parts lie in blocks from a number on: x is what it is with its headers -/
def VOf {α : Type} (val : α → Value) (er : α → α) (P : World → α → Prop) (w : World) (B : Nat) (v : Value) (a : α) : Prop := ∃ x, v = val x ∧ er x = a ∧ P (eb w B none) x
theorem VOf.keep {α : Type} {val : α → Value} {er : α → α} {P : World → α → Prop} (hP : Mono P) {w w' : World} {b B B' : Nat} {v : Value} {a : α} (h : VOf val er P w B v a) (hk : Kb b w w') (hb : b < B) (hB : B' ≤ B) : VOf val er P w' B' v a := by
  obtain ⟨x, h1, h2, h3⟩ := h
  exact ⟨x, h1, h2, hP _ _ _ (hk.und hb hB) h3⟩
/-- a list's header: its elements lie there -/
def VRow {α : Type} (sz : Nat) (C : α → List Value) (er : α → α) (P : World → α → Prop) (w : World) (B : Nat) (v : Value) (l : List α) : Prop :=
  ∃ (h : Hd) (xs : List α), v = .slice h.oa xs.length h.cap ∧ xs.map er = l ∧ Row (eb w B none) h sz xs C (P (eb w B none))
theorem VRow.keep {α : Type} {sz : Nat} {C : α → List Value} {er : α → α} {P : World → α → Prop} (hP : Mono P) {w w' : World} {b B B' : Nat} {v : Value} {l : List α} (h : VRow sz C er P w B v l) (hk : Kb b w w') (hb : b < B) (hB : B' ≤ B) : VRow sz C er P w' B' v l := by
  obtain ⟨hd, xs, h1, h2, h3⟩ := h
  exact ⟨hd, xs, h1, h2, h3.und (hk.und hb hB) fun x _ hx => hP _ _ _ (hk.und hb hB) hx⟩
theorem VRow.nil {α : Type} {sz : Nat} {C : α → List Value} {er : α → α} {P : World → α → Prop} (w : World) (B : Nat) : VRow sz C er P w B (.slice none 0 0) [] :=
  ⟨h0, [], rfl, rfl, Nat.le_refl _, Nat.zero_le _, fun h => absurd h (Nat.lt_irrefl _), fun _ h => by cases h⟩
theorem flat_get {α : Type} (C : α → List Value) (sz : Nat) (hC : ∀ x, (C x).length = sz) : ∀ (l : List α) (i j : Nat) (x : α), l[i]? = some x → j < sz → (l.flatMap C)[i * sz + j]? = (C x)[j]?
  | [], i, j, x, h, _ => by simp at h
  | y :: l, 0, j, x, h, hj => by
    simp only [List.length_cons, List.getElem?_cons_zero, Option.some.injEq] at h
    subst h
    simp only [List.flatMap_cons, Nat.zero_mul, Nat.zero_add]
    exact List.getElem?_append_left (by rw [hC]; exact hj)
  | y :: l, i + 1, j, x, h, hj => by
    simp only [List.getElem?_cons_succ] at h
    have := flat_get C sz hC l i j x h hj
    simp only [List.flatMap_cons]
    rw [List.getElem?_append_right (by rw [hC, Nat.add_mul, Nat.one_mul]; omega), ← this, hC]
    congr 1
    rw [Nat.add_mul, Nat.one_mul]
    omega
/-- a row that was built at once -/
theorem row_lit {α : Type} {w : World} {B k sz : Nat} {t : TypeId} {C : α → List Value} {P : α → Prop} {xs : List α} (h : w.heap[k]? = some (.cells (xs.flatMap C).toArray t)) (hC : ∀ x, (C x).length = sz) (hB : B ≤ k) (hm : xs.length ≤ maxLen) (hall : ∀ x, x ∈ xs → P x) : Row (eb w B none) ⟨some ⟨k, 0, none⟩, xs.length⟩ sz xs C P := by
  refine ⟨Nat.le_refl _, hm, fun _ => ⟨k, 0, rfl, ?_, fun i x hx j u hu => ?_⟩, hall⟩
  · rw [eb_size]; exact (Array.getElem?_eq_some_iff.1 h).1
  · refine eb_cell_mk hB (by simp) ?_
    have hj : j < sz := by rw [← hC x]; exact (List.getElem?_eq_some_iff.1 hu).1
    have hfl := flat_get C sz hC xs i j x hx hj
    rw [hu] at hfl
    rw [Nat.zero_add]
    simp only [World.cell?, h]
    simpa using hfl
/-- a row that has grown is a list -/
theorem RowV.row {α : Type} {w : World} {B e sz : Nat} {v : Value} {C : α → List Value} {P : World → α → Prop} {xs : List α} (h : RowV w B e sz v C P xs) (hC : ∀ x, (C x).length = sz) (hP : Mono P) (er : α → α) : VRow sz C er P w B v (xs.map er) := by
  have hu : Und (eb w B v.ownBlock) (eb w B none) := eb_und (Nat.le_refl _) fun b _ h1 _ => ⟨h1, by simp, rfl⟩
  have hall : ∀ x, x ∈ xs → P (eb w B none) x := fun x hx => hP _ _ x hu (h.all x hx)
  have ho := h.own
  rcases ho.2 with ⟨rfl, h0⟩ | ⟨g, cap, cur, rfl, hbb, hgg, h1, h2, h3, h4⟩
  · obtain rfl : xs = [] := List.length_eq_zero_iff.1 h0
    exact VRow.nil _ _
  · refine ⟨⟨some ⟨g, 0, none⟩, cap⟩, xs, rfl, rfl, h1, h2, fun _ => ⟨g, 0, rfl, ?_, fun i x hx j u hu => ?_⟩, hall⟩
    · rw [eb_size]; exact (Array.getElem?_eq_some_iff.1 hgg).1
    · have hj : j < sz := by rw [← hC x]; exact (List.getElem?_eq_some_iff.1 hu).1
      refine eb_cell_mk hbb (by simp) ?_
      have hfl := flat_get C sz hC xs i j x hx hj
      rw [hu] at hfl
      have hi : i * sz + j < xs.length * sz := by
        have hi' := (List.getElem?_eq_some_iff.1 hx).1
        have : (i + 1) * sz ≤ xs.length * sz := Nat.mul_le_mul_right _ hi'
        rw [Nat.add_mul, Nat.one_mul] at this
        omega
      rw [← h4, List.getElem?_take_of_lt hi] at hfl
      rw [Nat.zero_add]
      simp only [World.cell?, hgg]
      simpa using hfl
theorem stC_len (x : St5) : (stC x).length = 21 := by cases x with | mk k pos nm ty p rv op ht th he el ha arms => cases ty; rfl
theorem suC_len (x : Su5) : (suC x).length = 4 := rfl
theorem enC_len (x : En5) : (enC x).length = 3 := rfl
theorem fnC_len (x : Fn5) : (fnC x).length = 4 := rfl
end Go.Proofs.YtghkbihgdabamaaGreatDoor

namespace Go.Proofs.YtghkbihgdabamaaGreatDoor

end Go.Proofs.YtghkbihgdabamaaGreatDoor

namespace Go.Proofs.YtghkbihgdabamaaGreatDoor
open Go.RowKit

end Go.Proofs.YtghkbihgdabamaaGreatDoor

namespace Go.Proofs.YtghkbihgdabamaaGreatDoor
open Go.RowKit

theorem bs_len (s : ByteArray) : (bs s).length = s.size := (Lib.size_eq s).symm
end Go.Proofs.YtghkbihgdabamaaGreatDoor
