/-
  Several texts of the proof in one: PModel, PHeap, PVal, LNum. No conditions of their own: each lemma states its own.
-/
import Derived.Test.YtggdpgaedmegbaaGreatDoorJPText
import Derived.WalkKit
import Derived.Below
import Derived.Laws.AppendOwn
import Derived.Lib.AtoiAll
namespace Go.Proofs.YtggdpgaedmegbaaGreatDoor
open Go.RowKit

def wInt : List UInt8 := [105, 110, 116]
def wCo : List UInt8 := [99, 111]
def wBox : List UInt8 := [98, 111, 120]
def wAmp : List UInt8 := [38]
def wMut : List UInt8 := [109, 117, 116]
def wDrop : List UInt8 := [100, 114, 111, 112]
def wStruct : List UInt8 := [115, 116, 114, 117, 99, 116]
def wEnum : List UInt8 := [101, 110, 117, 109]
def wLB : List UInt8 := [123]
def wRB : List UInt8 := [125]
def wLP : List UInt8 := [40]
def wRP : List UInt8 := [41]
def wComma : List UInt8 := [44]
def wColon : List UInt8 := [58]
def wSemi : List UInt8 := [59]
def wDot : List UInt8 := [46]
def wStar : List UInt8 := [42]
def wMinus : List UInt8 := [45]
def wPlus : List UInt8 := [43]
def wLess : List UInt8 := [60]
def wSame : List UInt8 := [61, 61]
def wEq : List UInt8 := [61]
def wArrow : List UInt8 := [61, 62]
def wTwo : List UInt8 := [58, 58]
def wLet : List UInt8 := [108, 101, 116]
def wIf : List UInt8 := [105, 102]
def wElse : List UInt8 := [101, 108, 115, 101]
def wWhile : List UInt8 := [119, 104, 105, 108, 101]
def wMatch : List UInt8 := [109, 97, 116, 99, 104]
def wYield : List UInt8 := [121, 105, 101, 108, 100]
def wReturn : List UInt8 := [114, 101, 116, 117, 114, 110]
def wPrint : List UInt8 := [112, 114, 105, 110, 116]
def wUnbox : List UInt8 := [117, 110, 98, 111, 120]
def wStart : List UInt8 := [115, 116, 97, 114, 116]
def wAwait : List UInt8 := [97, 119, 97, 105, 116]
def wPoll : List UInt8 := [112, 111, 108, 108]
def wWait : List UInt8 := [119, 97, 105, 116]

/-- what a rule comes to: a thing, and the rest; or a fault, and where -/
inductive Rs (α : Type) where
  | ok (a : α) (l : List Tok)
  | no (e : Int) (p : Nat)
abbrev Rd (α : Type) := List Tok → Rs α
def lastT : Tok := ⟨0, [], 0, 0⟩
def hd (l : List Tok) : Tok := l.headD lastT

def pureR {α : Type} (a : α) : Rd α := fun l => .ok a l
def failR {α : Type} (e : Int) : Rd α := fun l => .no e (hd l).pos
def bindR {α β : Type} (r : Rd α) (f : α → Rd β) : Rd β := fun l => match r l with
  | .ok a l' => f a l'
  | .no e p => .no e p
def mapR {α β : Type} (r : Rd α) (f : α → β) : Rd β := bindR r fun a => pureR (f a)
/-- a word or a sign is passed, if it is the next token -/
def optR {α : Type} (s : List UInt8) (yes no : Rd α) : Rd α := fun l => if (hd l).text = s then yes l.tail else no l
def needR (s : List UInt8) : Rd Unit := optR s (pureR ()) (failR 60)
/-- the next token must be such -/
def oneR (f : Tok → Bool) : Rd Tok := fun l => if f (hd l) then .ok (hd l) l.tail else .no 60 (hd l).pos
/-- what the next token is decides -/
def isR {α : Type} (f : Tok → Bool) (yes no : Rd α) : Rd α := fun l => if f (hd l) then yes l else no l
/-- where the next token begins is told -/
def atR {α : Type} (f : Nat → Rd α) : Rd α := fun l => f (hd l).pos l

def freeT (t : Tok) : Bool := decide (t.k = 1) && !resB t.text
def smallT (t : Tok) : Bool := freeT t && !upperB t.text
def greatT (t : Tok) : Bool := freeT t && upperB t.text
def numT (t : Tok) : Bool := decide (t.k = 2)
def endB (t : Tok) : Bool := decide (t.k = 0)
def smallR : Rd ByteArray := mapR (oneR smallT) fun t => strB t.text
def greatR : Rd ByteArray := mapR (oneR greatT) fun t => strB t.text
def numberR : Rd Int := mapR (oneR numT) fun t => (t.n : Int)

def h0 : Hd := ⟨none, 0⟩
def nil5 : ByteArray := ⟨#[]⟩
def ty0 : Ty5 := .mk 0 nil5 h0 []
def pl0 : Pl5 := ⟨nil5, h0, []⟩
def op0 : Op5 := ⟨false, 0, pl0⟩
def rv0 : Rv5 := ⟨0, h0, [], pl0, nil5, nil5⟩

def tyR : Nat → Rd Ty5
  | 0 => failR 61
  | n + 1 => optR wInt (pureR (.mk 1 nil5 h0 [])) (optR wCo (mapR smallR fun s => .mk 7 s h0 []) (optR wBox (mapR (tyR n) fun t => .mk 4 nil5 h0 [t])
      (optR wAmp (optR wMut (mapR (tyR n) fun t => .mk 6 nil5 h0 [t]) (mapR (tyR n) fun t => .mk 5 nil5 h0 [t])) (mapR greatR fun s => .mk 2 s h0 []))))
def fieldR : Rd Fd5 := bindR smallR fun s => bindR (needR wColon) fun _ => mapR (tyR 61) fun t => ⟨s, t⟩
def variantR : Rd Fd5 := bindR greatR fun s => optR wLP (bindR (tyR 61) fun t => mapR (needR wRP) fun _ => ⟨s, t⟩) (pureR ⟨s, ty0⟩)

/-- things one behind the other, up to a sign; how one is read may differ for the first -/
def rowR {α : Type} (e : List UInt8) (f : Bool → Rd α) : Nat → Bool → Rd (List α)
  | 0, _ => failR 0
  | k + 1, b => optR e (pureR []) (bindR (f b) fun a => mapR (rowR e f k false) fun r => a :: r)
def rowL {α : Type} (e : List UInt8) (f : Bool → Rd α) : Rd (List α) := fun l => rowR e f l.length true l
def sepR {α : Type} (f : Rd α) (b : Bool) : Rd α := if b then f else bindR (needR wComma) fun _ => f

def stepR : Rd ByteArray := optR wStar (pureR nil5) smallR
def pathR : Nat → Rd (List ByteArray)
  | 0 => failR 0
  | k + 1 => optR wDot (bindR stepR fun a => mapR (pathR k) fun r => a :: r) (pureR [])
def placeR : Rd Pl5 := bindR smallR fun s => mapR (fun l => pathR l.length l) fun p => ⟨s, h0, p⟩
def aloneR : Rd Pl5 := mapR smallR fun s => ⟨s, h0, []⟩
def operR : Rd Op5 := optR wMinus (mapR numberR fun n => ⟨true, -n, pl0⟩) (isR numT (mapR numberR fun n => ⟨true, n, pl0⟩) (mapR placeR fun p => ⟨false, 0, p⟩))
def argsR : Rd (List Op5) := bindR (needR wLP) fun _ => rowL wRP (sepR operR)

def madeR : Rd Rv5 := bindR greatR fun s => optR wTwo (bindR greatR fun v => optR wLP (bindR operR fun o => mapR (needR wRP) fun _ => ⟨11, h0, [o], pl0, s, v⟩) (pureR ⟨11, h0, [], pl0, s, v⟩))
    (mapR argsR fun l => ⟨10, h0, l, pl0, s, nil5⟩)
def two5 (k : Int) (a b : Op5) : Rv5 := ⟨k, h0, [a, b], pl0, nil5, nil5⟩
def reckonedR : Rd Rv5 := bindR operR fun a => optR wPlus (mapR operR (two5 1 a)) (optR wMinus (mapR operR (two5 2 a)) (optR wStar (mapR operR (two5 3 a)) (optR wLess (mapR operR (two5 4 a)) (optR wSame (mapR operR (two5 5 a)) (pureR ⟨0, h0, [a], pl0, nil5, nil5⟩)))))
def rvP (k : Int) (p : Pl5) : Rv5 := ⟨k, h0, [], p, nil5, nil5⟩
def rvO (k : Int) (o : Op5) : Rv5 := ⟨k, h0, [o], pl0, nil5, nil5⟩
def setR : Rd Rv5 := optR wAmp (optR wMut (mapR placeR (rvP 7)) (mapR placeR (rvP 6))) (optR wBox (mapR operR (rvO 8)) (optR wUnbox (mapR aloneR (rvP 9))
    (optR wStart (bindR smallR fun s => mapR argsR fun l => ⟨12, h0, l, pl0, s, nil5⟩) (optR wAwait (mapR aloneR (rvP 13)) (optR wPoll (mapR aloneR (rvP 14)) (optR wWait (mapR operR (rvO 15)) (isR greatT madeR reckonedR)))))))
def isSetR : Rd Rv5 := bindR (needR wEq) fun _ => setR

def st5 (k pos : Int) (nm : ByteArray) (ty : Ty5) (p : Pl5) (rv : Rv5) (op : Op5) (th el : List St5) (arms : List Ar5) : St5 := .mk k pos nm ty p rv op h0 th h0 el h0 arms
def armR (blk : Rd (List St5)) : Rd Ar5 := bindR greatR fun s => bindR (optR wLP (bindR smallR fun b => mapR (needR wRP) fun _ => b) (pureR nil5)) fun b => bindR (needR wArrow) fun _ => mapR blk fun l => .mk s b h0 l
def plainR (pos : Int) : Rd St5 :=
  optR wLet (bindR fieldR fun f => mapR isSetR fun v => st5 0 pos f.nm f.ty pl0 v op0 [] [] [])
  (optR wYield (mapR operR fun o => st5 5 pos nil5 ty0 pl0 rv0 o [] [] [])
  (optR wReturn (mapR operR fun o => st5 6 pos nil5 ty0 pl0 rv0 o [] [] [])
  (optR wPrint (mapR operR fun o => st5 7 pos nil5 ty0 pl0 rv0 o [] [] [])
  (optR wDrop (mapR aloneR fun p => st5 8 pos nil5 ty0 p rv0 op0 [] [] [])
  (bindR placeR fun p => mapR isSetR fun v => st5 1 pos nil5 ty0 p v op0 [] [] [])))))
def stmtR (blk : Rd (List St5)) : Rd St5 := atR fun q =>
  optR wIf (bindR operR fun o => bindR blk fun th => optR wElse (mapR blk fun el => st5 2 q nil5 ty0 pl0 rv0 o th el []) (pureR (st5 2 q nil5 ty0 pl0 rv0 o th [] [])))
  (optR wWhile (bindR operR fun o => mapR blk fun th => st5 3 q nil5 ty0 pl0 rv0 o th [] [])
  (optR wMatch (bindR aloneR fun p => bindR (needR wLB) fun _ => mapR (rowL wRB fun _ => armR blk) fun l => st5 4 q nil5 ty0 p rv0 op0 [] [] l)
  (bindR (plainR q) fun s => mapR (needR wSemi) fun _ => s)))
/-- n: how many blocks may still be in one another -/
def blockD : Nat → Rd (List St5)
  | 0 => isR (fun t => decide (t.text = wLB)) (failR 61) (failR 60)
  | n + 1 => bindR (needR wLB) fun _ => rowL wRB fun _ => stmtR (blockD n)

def structR : Rd Su5 := atR fun q => bindR (optR wDrop (pureR true) (pureR false)) fun d => bindR (needR wStruct) fun _ => bindR greatR fun s => bindR (needR wLB) fun _ => mapR (rowL wRB (sepR fieldR)) fun l => ⟨s, d, h0, l, q⟩
def enumR (q : Nat) : Rd En5 := bindR greatR fun s => bindR (needR wLB) fun _ => mapR (rowL wRB (sepR variantR)) fun l => ⟨s, h0, l, q⟩
def fnR (q : Nat) : Rd Fn5 := bindR smallR fun s => bindR (needR wLP) fun _ => bindR (rowL wRP (sepR fieldR)) fun ps => mapR (blockD 60) fun b => ⟨s, h0, ps, h0, b, q⟩
def so0 : So5 := ⟨h0, [], h0, [], h0, []⟩
def itemsR : Nat → Rd So5
  | 0 => failR 0
  | k + 1 => isR endB (pureR so0) (atR fun q => optR wEnum (bindR (enumR q) fun x => mapR (itemsR k) fun s => { s with enums := x :: s.enums })
      (optR wCo (bindR (fnR q) fun x => mapR (itemsR k) fun s => { s with fns := x :: s.fns }) (bindR structR fun x => mapR (itemsR k) fun s => { s with structs := x :: s.structs })))
def sourceR : Rd So5 := fun l => itemsR l.length l
end Go.Proofs.YtggdpgaedmegbaaGreatDoor

namespace Go.Proofs.YtggdpgaedmegbaaGreatDoor
open Go.RowKit

/-- each cell of the one is so in the other -/
structure Und (w0 w : World) : Prop where
  size : w0.heap.size ≤ w.heap.size
  cell : ∀ (p : Addr) v, w0.cell? p = some v → w.cell? p = some v
theorem Und.refl (w : World) : Und w w := ⟨Nat.le_refl _, fun _ _ h => h⟩
theorem Und.trans {w0 w1 w2 : World} (h : Und w0 w1) (h' : Und w1 w2) : Und w0 w2 := ⟨Nat.le_trans h.size h'.size, fun p v hv => h'.cell p v (h.cell p v hv)⟩
theorem Und.below {w w' : World} (h : Below w.heap.size w w') : Und w w' := ⟨h.size, fun p v hv => (h.cell (World.block_lt_of_cell? w p hv)).trans hv⟩

/-- the world without the blocks below a number, and without one -/
def eb (w : World) (B : Nat) (og : Option Nat) : World := { w with heap := w.heap.mapIdx fun i o => if B ≤ i ∧ og ≠ some i then o else .cells #[] 0 }
theorem eb_size (w : World) (B : Nat) (og : Option Nat) : (eb w B og).heap.size = w.heap.size := by simp [eb]
theorem eb_heap {w : World} {B b : Nat} {og : Option Nat} (h1 : B ≤ b) (h2 : og ≠ some b) : (eb w B og).heap[b]? = w.heap[b]? := by
  simp only [eb, Array.getElem?_mapIdx]
  cases w.heap[b]? with
  | none => rfl
  | some o => simp [h1, h2]
theorem eb_none {w : World} {B : Nat} {og : Option Nat} {p : Addr} (h : ¬ (B ≤ p.block ∧ og ≠ some p.block)) : (eb w B og).cell? p = none := by
  unfold World.cell?
  simp only [eb, Array.getElem?_mapIdx]
  cases w.heap[p.block]? with
  | none => rfl
  | some o =>
    rw [Option.map_some, if_neg h]
    cases p with
    | mk blk off bytes => cases bytes <;> simp
theorem eb_cell {w : World} {B : Nat} {og : Option Nat} {p : Addr} {v : Value} (h : (eb w B og).cell? p = some v) : B ≤ p.block ∧ og ≠ some p.block ∧ w.cell? p = some v := by
  by_cases hc : B ≤ p.block ∧ og ≠ some p.block
  · exact ⟨hc.1, hc.2, by rw [← h]; exact (World.cell?_of_block (eb_heap hc.1 hc.2)).symm⟩
  · rw [eb_none hc] at h; cases h
theorem eb_cell_mk {w : World} {B : Nat} {og : Option Nat} {p : Addr} {v : Value} (h1 : B ≤ p.block) (h2 : og ≠ some p.block) (h : w.cell? p = some v) : (eb w B og).cell? p = some v :=
  (World.cell?_of_block (eb_heap h1 h2)).trans h
/-- whatever is kept there is kept -/
theorem eb_und {w w' : World} {B B' : Nat} {og og' : Option Nat} (hs : w.heap.size ≤ w'.heap.size) (h : ∀ b, b < w.heap.size → B ≤ b → og ≠ some b → B' ≤ b ∧ og' ≠ some b ∧ w'.heap[b]? = w.heap[b]?) : Und (eb w B og) (eb w' B' og') := by
  refine ⟨by rw [eb_size, eb_size]; exact hs, fun p v hv => ?_⟩
  obtain ⟨h1, h2, h3⟩ := eb_cell hv
  obtain ⟨h4, h5, h6⟩ := h p.block (World.block_lt_of_cell? w p h3) h1 h2
  exact eb_cell_mk h4 h5 ((World.cell?_of_block h6).trans h3)

/-- what a call leaves alone: all blocks that were there but for one -/
structure Kb (b : Nat) (w w' : World) : Prop where
  os : w'.os = w.os
  tape : w'.tape = w.tape
  output : w'.output = w.output
  size : w.heap.size ≤ w'.heap.size
  block : ∀ x, x < w.heap.size → x ≠ b → w'.heap[x]? = w.heap[x]?
theorem Kb.refl (b : Nat) (w : World) : Kb b w w := ⟨rfl, rfl, rfl, Nat.le_refl _, fun _ _ _ => rfl⟩
theorem Kb.trans {b : Nat} {w w1 w2 : World} (h : Kb b w w1) (h' : Kb b w1 w2) : Kb b w w2 :=
  ⟨h'.os.trans h.os, h'.tape.trans h.tape, h'.output.trans h.output, Nat.le_trans h.size h'.size, fun x hx hn => (h'.block x (Nat.lt_of_lt_of_le hx h.size) hn).trans (h.block x hx hn)⟩
theorem Kb.of_below {b : Nat} {w w' : World} (h : Below w.heap.size w w') : Kb b w w' := ⟨h.os, h.tape, h.output, h.size, fun x hx _ => h.block x hx⟩
theorem Kb.set {b : Nat} (w : World) (j : Nat) (v : Value) : Kb b w (w.setCell ⟨b, j, none⟩ v) :=
  ⟨rfl, rfl, rfl, by simp [World.setCell], fun x _ hn => Below.heap_setCell _ _ _ _ hn⟩
theorem Kb.cell {b : Nat} {w w' : World} (h : Kb b w w') {p : Addr} (hp : p.block < w.heap.size) (hn : p.block ≠ b) : w'.cell? p = w.cell? p := World.cell?_of_block (h.block _ hp hn)
/-- new blocks may be written -/
theorem Kb.next {b : Nat} {w w1 w2 : World} (h : Kb b w w1) (os : w2.os = w1.os) (tape : w2.tape = w1.tape) (output : w2.output = w1.output) (size : w1.heap.size ≤ w2.heap.size) (hk : ∀ x, x < w.heap.size → x ≠ b → w2.heap[x]? = w1.heap[x]?) : Kb b w w2 :=
  ⟨os.trans h.os, tape.trans h.tape, output.trans h.output, Nat.le_trans h.size size, fun x hx hn => (hk x hx hn).trans (h.block x hx hn)⟩
theorem Kb.setNew {b k : Nat} {w w1 : World} (h : Kb b w w1) (hk : w.heap.size ≤ k) (j : Nat) (v : Value) : Kb b w (w1.setCell ⟨k, j, none⟩ v) :=
  h.next rfl rfl rfl (by simp [World.setCell]) fun x hx _ => Below.heap_setCell _ _ _ _ (show x ≠ k by omega)
theorem Kb.alloc {b : Nat} {w w1 : World} (h : Kb b w w1) (o : Obj) : Kb b w (w1.alloc o) :=
  h.trans (Kb.of_below ((Below.refl _ _).alloc (Nat.le_refl _) o))
theorem Kb.drew {b : Nat} {w w1 : World} (h : Kb b w w1) : Kb b w w1.drew := ⟨h.os, h.tape, h.output, h.size, h.block⟩
theorem Kb.und {b B B' : Nat} {og : Option Nat} {w w' : World} (h : Kb b w w') (hb : b < B) (hB : B' ≤ B) : Und (eb w B og) (eb w' B' og) :=
  eb_und h.size fun x hx h1 h2 => ⟨Nat.le_trans hB h1, h2, h.block x hx (by omega)⟩

/-- a row that grows, and things in it -/
structure RowV {α : Type} (w : World) (B e sz : Nat) (v : Value) (C : α → List Value) (P : World → α → Prop) (xs : List α) : Prop where
  own : w.ownsRow B e sz v xs.length (xs.flatMap C)
  all : ∀ x ∈ xs, P (eb w B v.ownBlock) x
def Mono {α : Type} (P : World → α → Prop) : Prop := ∀ W W' x, Und W W' → P W x → P W' x
section
variable {α : Type} {w w' : World} {B e sz b : Nat} {v v' : Value} {C : α → List Value} {P : World → α → Prop} {xs : List α}
theorem own_keep {n : Nat} {ys : List Value} (h : w.ownsRow B e sz v n ys) (hk : ∀ b, v.ownBlock = some b → w'.heap[b]? = w.heap[b]?) : w'.ownsRow B e sz v n ys := by
  refine ⟨h.1, ?_⟩
  rcases h.2 with hn | ⟨g, cap, cur, rfl, hbb, hgg, rest⟩
  · exact .inl hn
  · exact .inr ⟨g, cap, cur, rfl, hbb, (hk g rfl).trans hgg, rest⟩
theorem own_blk {n : Nat} {ys : List Value} (h : w.ownsRow B e sz v n ys) (hb : v.ownBlock = some b) : ∃ cs : Array Value, w.heap[b]? = some (.cells cs e) := by
  rcases h.2 with ⟨rfl, _⟩ | ⟨g, cap, cur, rfl, hbb, hgg, rest⟩
  · cases hb
  · cases hb
    exact ⟨_, hgg⟩
theorem own_lt {n : Nat} {ys : List Value} (h : w.ownsRow B e sz v n ys) (hb : v.ownBlock = some b) : B ≤ b ∧ b < w.heap.size := by
  obtain ⟨_, h1⟩ := own_blk h hb
  exact ⟨(h.lt b hb).1, (Array.getElem?_eq_some_iff.1 h1).1⟩
theorem RowV.nil : RowV w B e sz (.slice none 0 0) C P [] := ⟨World.ownsRow_nil _ _ _ _, fun _ h => by cases h⟩
theorem RowV.keep (h : RowV w B e sz v C P xs) (hP : Mono P) (hk : Kb b w w') (hb : b < B) : RowV w' B e sz v C P xs :=
  ⟨own_keep h.own fun x hx => hk.block x (own_lt h.own hx).2 (by have := (own_lt h.own hx).1; omega), fun x hx => hP _ _ x (hk.und hb (Nat.le_refl _)) (h.all x hx)⟩
/-- one more; x lies in blocks from B1 on, which the row's is not -/
theorem RowV.push (h : RowV w B e sz v C P xs) (hP : Mono P) {x : α} {B1 : Nat} (hB : B ≤ B1) (hx : P (eb w B1 none) x) (hv1 : ∀ b, v.ownBlock = some b → b < B1) (hr : w'.ownsRow B e sz v' (xs.length + 1) (xs.flatMap C ++ C x)) (hg : w.grownBy w' v.ownBlock) (hv : ∀ b, v'.ownBlock = some b → v.ownBlock = some b ∨ w.heap.size ≤ b) : RowV w' B e sz v' C P (xs ++ [x]) := by
  have hne : ∀ b, b < w.heap.size → v.ownBlock ≠ some b → v'.ownBlock ≠ some b := fun b hl hn e => by
    rcases hv b e with h1 | h1
    · exact hn h1
    · omega
  refine ⟨by simpa [List.flatMap_append] using hr, fun y hy => ?_⟩
  rcases List.mem_append.1 hy with hy | hy
  · exact hP _ _ y (eb_und hg.size fun b hl h1 h2 => ⟨h1, hne b hl h2, hg.block b hl fun e => h2 e.symm⟩) (h.all y hy)
  · obtain rfl : y = x := by simpa using hy
    refine hP _ _ y (eb_und hg.size fun b hl h1 _ => ?_) hx
    have hn : v.ownBlock ≠ some b := fun e => by have := hv1 b e; omega
    exact ⟨by omega, hne b hl hn, hg.block b hl fun e => hn e.symm⟩
end
end Go.Proofs.YtggdpgaedmegbaaGreatDoor

namespace Go.Proofs.YtggdpgaedmegbaaGreatDoor
open Go.RowKit

mutual
def erTy : Ty5 → Ty5
  | .mk k nm _ l => .mk k nm h0 (erTys l)
def erTys : List Ty5 → List Ty5
  | [] => []
  | a :: l => erTy a :: erTys l
end
theorem erTys_eq : ∀ l, erTys l = l.map erTy
  | [] => by rw [erTys]; rfl
  | a :: l => by rw [erTys, erTys_eq l]; rfl
def erPl (p : Pl5) : Pl5 := ⟨p.nm, h0, p.path⟩
def erOp (o : Op5) : Op5 := ⟨o.num, o.n, erPl o.p⟩
def erRv (v : Rv5) : Rv5 := ⟨v.k, h0, v.ops.map erOp, erPl v.p, v.nm, v.vr⟩
mutual
def erSt : St5 → St5
  | .mk k pos nm ty p rv op _ th _ el _ ar => .mk k pos nm (erTy ty) (erPl p) (erRv rv) (erOp op) h0 (erSts th) h0 (erSts el) h0 (erArs ar)
def erSts : List St5 → List St5
  | [] => []
  | a :: l => erSt a :: erSts l
def erAr : Ar5 → Ar5
  | .mk vr b _ body => .mk vr b h0 (erSts body)
def erArs : List Ar5 → List Ar5
  | [] => []
  | a :: l => erAr a :: erArs l
end
theorem erSts_eq : ∀ l, erSts l = l.map erSt
  | [] => by rw [erSts]; rfl
  | a :: l => by rw [erSts, erSts_eq l]; rfl
theorem erArs_eq : ∀ l, erArs l = l.map erAr
  | [] => by rw [erArs]; rfl
  | a :: l => by rw [erArs, erArs_eq l]; rfl
def erFd (f : Fd5) : Fd5 := ⟨f.nm, erTy f.ty⟩
def erSu (s : Su5) : Su5 := ⟨s.nm, s.drop, h0, s.fields.map erFd, s.pos⟩
def erEn (s : En5) : En5 := ⟨s.nm, h0, s.vars.map erFd, s.pos⟩
def erFn (s : Fn5) : Fn5 := ⟨s.nm, h0, s.params.map erFd, h0, s.body.map erSt, s.pos⟩
def erSo (s : So5) : So5 := ⟨h0, s.structs.map erSu, h0, s.enums.map erEn, h0, s.fns.map erFn⟩

theorem Row.und {α : Type} {w w' : World} {h : Hd} {sz : Nat} {l : List α} {C : α → List Value} {P Q : α → Prop} (r : Row w h sz l C P) (hu : Und w w') (hq : ∀ x, x ∈ l → P x → Q x) : Row w' h sz l C Q :=
  ⟨r.1, r.2.1, fun h0 => by
    obtain ⟨b, off, h1, h2, h3⟩ := r.2.2.1 h0
    exact ⟨b, off, h1, Nat.lt_of_lt_of_le h2 hu.size, fun i x hx j v hv => hu.cell _ _ (h3 i x hx j v hv)⟩, fun x hx => hq x hx (r.2.2.2 x hx)⟩
theorem Row.nil {α : Type} (w : World) (sz : Nat) (C : α → List Value) (P : α → Prop) : Row w h0 sz [] C P := ⟨Nat.le_refl _, Nat.zero_le _, fun h => absurd h (Nat.lt_irrefl _), fun _ h => by cases h⟩
theorem TyH.und : ∀ (n : Nat), Mono (TyH n)
  | 0, _, _, _, _, h => h.elim
  | n + 1, _, _, .mk _ _ _ _, hu, ⟨h1, h2⟩ => ⟨h1, h2.und hu fun _ _ hx => TyH.und n _ _ _ hu hx⟩
theorem PlH.und : Mono PlH := fun _ _ _ hu h => Row.und h hu fun _ _ _ => trivial
theorem OpH.und : Mono OpH := fun _ _ _ hu h => ⟨h.1, PlH.und _ _ _ hu h.2⟩
theorem RvH.und : Mono RvH := fun _ _ _ hu h => ⟨h.1, h.2.1.und hu fun _ _ hx => OpH.und _ _ _ hu hx, PlH.und _ _ _ hu h.2.2⟩
theorem StAr.und : ∀ (n : Nat), Mono (StH n) ∧ Mono (ArH n)
  | 0 => ⟨by intro _ _ _ _ h; unfold StH at h; exact h.elim, by intro _ _ _ _ h; unfold ArH at h; exact h.elim⟩
  | n + 1 => by
    obtain ⟨i1, i2⟩ := StAr.und n
    constructor
    · intro w w' t hu h
      cases t with
      | mk k pos nm ty p rv op ht th he el ha arms =>
        obtain ⟨h1, h2, h3, h4, h5, h6, h7, h8⟩ := h
        exact ⟨h1, TyH.und _ _ _ _ hu h2, PlH.und _ _ _ hu h3, RvH.und _ _ _ hu h4, OpH.und _ _ _ hu h5, h6.und hu fun _ _ hx => i1 _ _ _ hu hx, h7.und hu fun _ _ hx => i1 _ _ _ hu hx, h8.und hu fun _ _ hx => i2 _ _ _ hu hx⟩
    · intro w w' t hu h
      cases t with
      | mk vr bind hh body => exact Row.und h hu fun _ _ hx => i1 _ _ _ hu hx
theorem StH.und (n : Nat) : Mono (StH n) := (StAr.und n).1
theorem ArH.und (n : Nat) : Mono (ArH n) := (StAr.und n).2
theorem FdH.und (n : Nat) : Mono (FdH n) := fun _ _ _ hu h => TyH.und n _ _ _ hu h
theorem SuH.und (n : Nat) : Mono (SuH n) := fun _ _ _ hu h => Row.und h hu fun _ _ hx => FdH.und n _ _ _ hu hx
theorem EnH.und (n : Nat) : Mono (EnH n) := fun _ _ _ hu h => Row.und h hu fun _ _ hx => FdH.und n _ _ _ hu hx
theorem FnH.und (n : Nat) : Mono (FnH n) := fun _ _ _ hu h => ⟨h.1.und hu fun _ _ hx => FdH.und n _ _ _ hu hx, h.2.und hu fun _ _ hx => StH.und n _ _ _ hu hx⟩
theorem SoH.und (n : Nat) : Mono (SoH n) := fun _ _ _ hu h => ⟨h.1.und hu fun _ _ hx => SuH.und n _ _ _ hu hx, h.2.1.und hu fun _ _ hx => EnH.und n _ _ _ hu hx, h.2.2.und hu fun _ _ hx => FnH.und n _ _ _ hu hx⟩
theorem stepMono : Mono (fun (_ : World) (_ : ByteArray) => True) := fun _ _ _ _ h => h

/-- a value whose parts lie in blocks from a number on: x is what it is with its headers -/
def VOf {α : Type} (val : α → Value) (er : α → α) (P : World → α → Prop) (w : World) (B : Nat) (v : Value) (a : α) : Prop := ∃ x, v = val x ∧ er x = a ∧ P (eb w B none) x
theorem VOf.keep {α : Type} {val : α → Value} {er : α → α} {P : World → α → Prop} (hP : Mono P) {w w' : World} {b B B' : Nat} {v : Value} {a : α} (h : VOf val er P w B v a) (hk : Kb b w w') (hb : b < B) (hB : B' ≤ B) : VOf val er P w' B' v a := by
  obtain ⟨x, h1, h2, h3⟩ := h
  exact ⟨x, h1, h2, hP _ _ _ (hk.und hb hB) h3⟩
def VTy (n : Nat) := VOf tyV erTy (TyH n)
def VPl := VOf plV erPl PlH
def VOp := VOf opV erOp OpH
def VRv := VOf rvV erRv RvH
def VSt (n : Nat) := VOf stV erSt (StH n)
def VAr (n : Nat) := VOf arV erAr (ArH n)
def VFd (n : Nat) := VOf fdV erFd (FdH n)
def VSu (n : Nat) := VOf suV erSu (SuH n)
def VEn (n : Nat) := VOf enV erEn (EnH n)
def VFn (n : Nat) := VOf fnV erFn (FnH n)
def VSo (n : Nat) := VOf soV erSo (SoH n)
/-- strings and numbers have no parts -/
def VStr (_ : World) (_ : Nat) (v : Value) (s : ByteArray) : Prop := v = .string s
def VInt (_ : World) (_ : Nat) (v : Value) (n : Int) : Prop := v = .int .i64 n ∧ I64 n
def VUnit (_ : World) (_ : Nat) (v : Value) (_ : Unit) : Prop := v = .tuple #[]
/-- a list's header: its elements lie there -/
def VRow {α : Type} (sz : Nat) (C : α → List Value) (er : α → α) (P : World → α → Prop) (w : World) (B : Nat) (v : Value) (l : List α) : Prop :=
  ∃ (h : Hd) (xs : List α), v = .slice h.oa xs.length h.cap ∧ xs.map er = l ∧ Row (eb w B none) h sz xs C (P (eb w B none))
theorem VRow.keep {α : Type} {sz : Nat} {C : α → List Value} {er : α → α} {P : World → α → Prop} (hP : Mono P) {w w' : World} {b B B' : Nat} {v : Value} {l : List α} (h : VRow sz C er P w B v l) (hk : Kb b w w') (hb : b < B) (hB : B' ≤ B) : VRow sz C er P w' B' v l := by
  obtain ⟨hd, xs, h1, h2, h3⟩ := h
  exact ⟨hd, xs, h1, h2, h3.und (hk.und hb hB) fun x _ hx => hP _ _ _ (hk.und hb hB) hx⟩
theorem VRow.nil {α : Type} {sz : Nat} {C : α → List Value} {er : α → α} {P : World → α → Prop} (w : World) (B : Nat) : VRow sz C er P w B (.slice none 0 0) [] :=
  ⟨h0, [], rfl, rfl, Nat.le_refl _, Nat.zero_le _, fun h => absurd h (Nat.lt_irrefl _), fun _ h => by cases h⟩
theorem flat_get {α : Type} (C : α → List Value) (sz : Nat) (hC : ∀ x, (C x).length = sz) : ∀ (l : List α) (i j : Nat) (x : α), l[i]? = some x → j < sz → (l.flatMap C)[i * sz + j]? = (C x)[j]?
  | [], i, j, x, h, _ => by simp at h
  | y :: l, 0, j, x, h, hj => by
    simp only [List.length_cons, List.getElem?_cons_zero, Option.some.injEq] at h
    subst h
    simp only [List.flatMap_cons, Nat.zero_mul, Nat.zero_add]
    exact List.getElem?_append_left (by rw [hC]; exact hj)
  | y :: l, i + 1, j, x, h, hj => by
    simp only [List.getElem?_cons_succ] at h
    have := flat_get C sz hC l i j x h hj
    simp only [List.flatMap_cons]
    rw [List.getElem?_append_right (by rw [hC, Nat.add_mul, Nat.one_mul]; omega), ← this, hC]
    congr 1
    rw [Nat.add_mul, Nat.one_mul]
    omega
/-- a row that was built at once -/
theorem row_lit {α : Type} {w : World} {B k sz : Nat} {t : TypeId} {C : α → List Value} {P : α → Prop} {xs : List α} (h : w.heap[k]? = some (.cells (xs.flatMap C).toArray t)) (hC : ∀ x, (C x).length = sz) (hB : B ≤ k) (hm : xs.length ≤ maxLen) (hall : ∀ x, x ∈ xs → P x) : Row (eb w B none) ⟨some ⟨k, 0, none⟩, xs.length⟩ sz xs C P := by
  refine ⟨Nat.le_refl _, hm, fun _ => ⟨k, 0, rfl, ?_, fun i x hx j u hu => ?_⟩, hall⟩
  · rw [eb_size]; exact (Array.getElem?_eq_some_iff.1 h).1
  · refine eb_cell_mk hB (by simp) ?_
    have hj : j < sz := by rw [← hC x]; exact (List.getElem?_eq_some_iff.1 hu).1
    have hfl := flat_get C sz hC xs i j x hx hj
    rw [hu] at hfl
    rw [Nat.zero_add]
    simp only [World.cell?, h]
    simpa using hfl
/-- a row that has grown is a list -/
theorem RowV.row {α : Type} {w : World} {B e sz : Nat} {v : Value} {C : α → List Value} {P : World → α → Prop} {xs : List α} (h : RowV w B e sz v C P xs) (hC : ∀ x, (C x).length = sz) (hP : Mono P) (er : α → α) : VRow sz C er P w B v (xs.map er) := by
  have hu : Und (eb w B v.ownBlock) (eb w B none) := eb_und (Nat.le_refl _) fun b _ h1 _ => ⟨h1, by simp, rfl⟩
  have hall : ∀ x, x ∈ xs → P (eb w B none) x := fun x hx => hP _ _ x hu (h.all x hx)
  have ho := h.own
  rcases ho.2 with ⟨rfl, h0⟩ | ⟨g, cap, cur, rfl, hbb, hgg, h1, h2, h3, h4⟩
  · obtain rfl : xs = [] := List.length_eq_zero_iff.1 h0
    exact VRow.nil _ _
  · refine ⟨⟨some ⟨g, 0, none⟩, cap⟩, xs, rfl, rfl, h1, h2, fun _ => ⟨g, 0, rfl, ?_, fun i x hx j u hu => ?_⟩, hall⟩
    · rw [eb_size]; exact (Array.getElem?_eq_some_iff.1 hgg).1
    · have hj : j < sz := by rw [← hC x]; exact (List.getElem?_eq_some_iff.1 hu).1
      refine eb_cell_mk hbb (by simp) ?_
      have hfl := flat_get C sz hC xs i j x hx hj
      rw [hu] at hfl
      have hi : i * sz + j < xs.length * sz := by
        have hi' := (List.getElem?_eq_some_iff.1 hx).1
        have : (i + 1) * sz ≤ xs.length * sz := Nat.mul_le_mul_right _ hi'
        rw [Nat.add_mul, Nat.one_mul] at this
        omega
      rw [← h4, List.getElem?_take_of_lt hi] at hfl
      rw [Nat.zero_add]
      simp only [World.cell?, hgg]
      simpa using hfl
theorem tyC_len (x : Ty5) : (tyC x).length = 3 := by cases x; rfl
theorem plC_len (x : Pl5) : (plC x).length = 2 := rfl
theorem opC_len (x : Op5) : (opC x).length = 4 := rfl
theorem rvC_len (x : Rv5) : (rvC x).length = 6 := rfl
theorem stC_len (x : St5) : (stC x).length = 21 := by cases x with | mk k pos nm ty p rv op ht th he el ha arms => cases ty; rfl
theorem arC_len (x : Ar5) : (arC x).length = 3 := by cases x; rfl
theorem fdC_len (x : Fd5) : (fdC x).length = 4 := by cases x with | mk nm ty => cases ty; rfl
theorem suC_len (x : Su5) : (suC x).length = 4 := rfl
theorem enC_len (x : En5) : (enC x).length = 3 := rfl
theorem fnC_len (x : Fn5) : (fnC x).length = 4 := rfl
theorem stepC_len (x : ByteArray) : (stepC x).length = 1 := rfl
end Go.Proofs.YtggdpgaedmegbaaGreatDoor

namespace Go.Proofs.YtggdpgaedmegbaaGreatDoor

theorem foldl_num (l : List UInt8) (a : Nat) : l.foldl (fun a (c : UInt8) => a * 10 + (c.toNat - 48)) a = a * 10 ^ l.length + numV l := by
  induction l generalizing a with
  | nil => simp [numV]
  | cons c r ih =>
    rw [List.foldl_cons, ih]
    have : numV (c :: r) = (c.toNat - 48) * 10 ^ r.length + numV r := by
      rw [numV, List.foldl_cons, ih]
      simp
    rw [this, List.length_cons, Nat.pow_succ, Nat.add_mul, Nat.mul_assoc, Nat.mul_comm 10, Nat.add_assoc]

theorem numV_cons (c : UInt8) (r : List UInt8) : numV (c :: r) = (c.toNat - 48) * 10 ^ r.length + numV r := by
  rw [numV, List.foldl_cons, foldl_num]
  simp

theorem numV_append (a b : List UInt8) : numV (a ++ b) = numV a * 10 ^ b.length + numV b := by
  rw [numV, List.foldl_append, foldl_num]
  rfl

theorem numV_snoc (a : List UInt8) (c : UInt8) : numV (a ++ [c]) = numV a * 10 + (c.toNat - 48) := by
  rw [numV_append]
  simp [numV]

theorem numV_zeros (z : Nat) (l : List UInt8) : numV (List.replicate z 48 ++ l) = numV l := by
  induction z with
  | zero => rfl
  | succ z ih => rw [List.replicate_succ, List.cons_append, numV_cons, ih]; simp

theorem numV_take (l : List UInt8) (i : Nat) : numV (l.take i) ≤ numV l := by
  conv => rhs; rw [← List.take_append_drop i l, numV_append]
  have := Nat.one_le_pow (l.drop i).length 10 (by omega)
  exact Nat.le_trans (Nat.le_mul_of_pos_right _ this) (Nat.le_add_right _ _)

theorem spanN_all {f : UInt8 → Bool} {l : List UInt8} (h : ∀ c ∈ l, f c = true) : spanN f l = l.length := by
  induction l with
  | nil => rfl
  | cons c r ih => simp [spanN, h c (by simp), ih (fun x hx => h x (by simp [hx]))]

theorem spanN_take {f : UInt8 → Bool} (l : List UInt8) : ∀ c ∈ l.take (spanN f l), f c = true := by
  induction l with
  | nil => intro c hc; simp at hc
  | cons a r ih =>
    intro c hc
    cases ha : f a
    · simp [spanN, ha] at hc
    · simp only [spanN, ha, if_true, List.take_succ_cons, List.mem_cons] at hc
      rcases hc with rfl | hc
      · exact ha
      · exact ih c hc

theorem digit_not_letter {c : UInt8} (h : digitB c = true) : letterB c = false := by
  simp only [digitB, decide_eq_true_eq] at h
  simp only [letterB, Bool.or_eq_false_iff, decide_eq_false_iff_not]
  omega

theorem digit_not_blank {c : UInt8} (h : digitB c = true) : blankB c = false := by
  simp only [digitB, decide_eq_true_eq] at h
  simp only [blankB, Bool.or_eq_false_iff, decide_eq_false_iff_not]
  omega

theorem digit_not_slash {c : UInt8} {r : List UInt8} (h : digitB c = true) : slashes (c :: r) = false := by
  simp only [digitB, decide_eq_true_eq] at h
  cases h2 : slashes (c :: r) with
  | false => rfl
  | true =>
    obtain ⟨r', hr⟩ := slashes_cons h2
    cases hr
    simp at h

theorem lexL_number {l : List UInt8} (h0 : l ≠ []) (h : ∀ c ∈ l, digitB c = true) (hv : numV l < 9223372036854775808) (hl : l.length ≤ 65536) : lexL l = .good [⟨2, l, numV l, 0⟩] := by
  cases l with
  | nil => exact absurd rfl h0
  | cons c r =>
    have hs := spanN_all h
    have hc := h c (by simp)
    have ht : tokR (c :: r) = .tok 2 (c :: r).length (numV (c :: r)) := by
      simp only [tokR, digit_not_letter hc, hc, hs, List.take_length, hv, Bool.false_eq_true, if_false, if_true]
    rw [lexL, if_pos hl, lexT_tok _ _ (passN_zero (digit_not_blank hc) (digit_not_slash hc)), lexQ_tok ht]
    rw [List.drop_length, List.take_length]
    rfl

theorem parse_digits : ∀ (l : List UInt8) (acc : Nat), acc < 18446744073709551616 → (∀ c ∈ l, digitB c = true) → Lib.parseUint10 acc l = if acc * 10 ^ l.length + numV l < 18446744073709551616 then .ok (acc * 10 ^ l.length + numV l) else .range
  | [], acc, ha, _ => by simp [Lib.parseUint10, numV, ha]
  | c :: r, acc, ha, h => by
    have hc := h c (by simp)
    simp only [digitB, decide_eq_true_eq] at hc
    have e : (acc * 10 + (c.toNat - 48)) * 10 ^ r.length + numV r = acc * 10 ^ (c :: r).length + numV (c :: r) := by
      rw [numV_cons, List.length_cons, Nat.pow_succ, Nat.add_mul, Nat.mul_assoc, Nat.mul_comm 10, Nat.add_assoc]
    have hp := Nat.one_le_pow r.length 10 (by omega)
    have hge : acc * 10 + (c.toNat - 48) ≤ acc * 10 ^ (c :: r).length + numV (c :: r) := by
      rw [← e]
      exact Nat.le_trans (Nat.le_mul_of_pos_right _ hp) (Nat.le_add_right _ _)
    rw [Lib.parseUint10, if_pos hc]
    by_cases h1 : 1844674407370955162 ≤ acc
    · rw [if_pos h1, if_neg (by omega)]
    · rw [if_neg h1]
      by_cases h2 : 18446744073709551616 ≤ acc * 10 + (c.toNat - 48)
      · rw [if_pos h2, if_neg (by omega)]
      · rw [if_neg h2, parse_digits r _ (by omega) (fun x hx => h x (by simp [hx])), e]

theorem atoi_digits {l : List UInt8} (h0 : l ≠ []) (h : ∀ c ∈ l, digitB c = true) : Lib.atoiAll l = if numV l < 9223372036854775808 then .ok (numV l : Int) else .range := by
  cases l with
  | nil => exact absurd rfl h0
  | cons c r =>
    have hc := h c (by simp)
    have hc' := hc
    simp only [digitB, decide_eq_true_eq] at hc'
    have hp := parse_digits (c :: r) 0 (by omega) h
    simp only [Nat.zero_mul, Nat.zero_add] at hp
    have e1 : ¬ c.toNat = 43 := by omega
    have e2 : ¬ c.toNat = 45 := by omega
    simp only [Lib.atoiAll, e1, e2, or_self, Lib.parseMag, reduceCtorEq, if_false, hp, not_false_eq_true, true_and, false_and]
    by_cases h1 : numV (c :: r) < 18446744073709551616
    · rw [if_pos h1]
      by_cases h2 : numV (c :: r) < 9223372036854775808
      · rw [if_pos h2]; simp only; rw [if_neg (by omega)]
      · rw [if_neg h2]; simp only; rw [if_pos (by omega)]
    · rw [if_neg h1, if_neg (by omega)]

end Go.Proofs.YtggdpgaedmegbaaGreatDoor
