/-
  Bodies as plain things, and how they lie in the heap. No conditions: definitions and lemmas.
-/
import Derived.Test.YtghkbihgdabamaaGreatDoorKLScan
namespace Go.Proofs.YtghkbihgdabamaaGreatDoor
open Go.RowKit

structure Sp where
  loc : Int
  h : Hd
  path : List Int
structure Us where
  num : Bool
  n : Int
  mv : Bool
  s : Sp
structure Va where
  k : Int
  h : Hd
  uses : List Us
  s : Sp
  which : Int
  tag : Int
structure Si where
  k : Int
  pos : Int
  s : Sp
  v : Va
  u : Us
structure Tn where
  k : Int
  pos : Int
  s : Sp
  v : Va
  u : Us
  h : Hd
  to : List Int
structure Bl where
  h : Hd
  ins : List Si
  tm : Tn
structure Lo where
  nm : ByteArray
  ty : Ty5
structure Bo where
  nm : ByteArray
  params : Int
  hl : Hd
  locals : List Lo
  hb : Hd
  blocks : List Bl

def intC (z : Int) : List Value := [.int .i64 z]
def spC : Sp → List Value
  | ⟨loc, h, path⟩ => [.int .i64 loc, .slice h.oa path.length h.cap]
def usC : Us → List Value
  | ⟨num, n, mv, s⟩ => [.bool num, .int .i64 n, .bool mv] ++ spC s
def vaC : Va → List Value
  | ⟨k, h, uses, s, which, tag⟩ => [.int .i64 k, .slice h.oa uses.length h.cap] ++ spC s ++ [.int .i64 which, .int .i64 tag]
def siC : Si → List Value
  | ⟨k, pos, s, v, u⟩ => [.int .i64 k, .int .i64 pos] ++ spC s ++ vaC v ++ usC u
def tnC : Tn → List Value
  | ⟨k, pos, s, v, u, h, to⟩ => [.int .i64 k, .int .i64 pos] ++ spC s ++ vaC v ++ usC u ++ [.slice h.oa to.length h.cap]
def blC : Bl → List Value
  | ⟨h, ins, tm⟩ => .slice h.oa ins.length h.cap :: tnC tm
def loC : Lo → List Value
  | ⟨nm, ty⟩ => .string nm :: tyC ty
def boC : Bo → List Value
  | ⟨nm, params, hl, locals, hb, blocks⟩ => [.string nm, .int .i64 params, .slice hl.oa locals.length hl.cap, .slice hb.oa blocks.length hb.cap]
def spV (x : Sp) : Value := .agg (spC x).toArray
def usV (x : Us) : Value := .agg (usC x).toArray
def vaV (x : Va) : Value := .agg (vaC x).toArray
def siV (x : Si) : Value := .agg (siC x).toArray
def tnV (x : Tn) : Value := .agg (tnC x).toArray
def blV (x : Bl) : Value := .agg (blC x).toArray
def loV (x : Lo) : Value := .agg (loC x).toArray
def boV (x : Bo) : Value := .agg (boC x).toArray
theorem siC_len : ∀ x, (siC x).length = 15 := fun x => by
  obtain ⟨k, pos, ⟨a, b, c⟩, ⟨d, e, f, ⟨a2, b2, c2⟩, g, h⟩, ⟨i, j, l, ⟨a3, b3, c3⟩⟩⟩ := x
  rfl
theorem tnC_len : ∀ x, (tnC x).length = 16 := fun x => by
  obtain ⟨k, pos, ⟨a, b, c⟩, ⟨d, e, f, ⟨a2, b2, c2⟩, g, h⟩, ⟨i, j, l, ⟨a3, b3, c3⟩⟩, hh, to⟩ := x
  rfl
theorem blC_len : ∀ x, (blC x).length = 17 := fun x => by
  obtain ⟨h0, ins, ⟨k, pos, ⟨a, b, c⟩, ⟨d, e, f, ⟨a2, b2, c2⟩, g, h⟩, ⟨i, j, l, ⟨a3, b3, c3⟩⟩, hh, to⟩⟩ := x
  rfl
theorem loC_len : ∀ x, (loC x).length = 4 := fun x => by
  obtain ⟨nm, ⟨k, n2, h, l⟩⟩ := x
  rfl
def SpH (w : World) (x : Sp) : Prop := I64 x.loc ∧ Row w x.h 1 x.path intC I64
def UsH (w : World) (x : Us) : Prop := I64 x.n ∧ SpH w x.s
def VaH (w : World) (x : Va) : Prop := I64 x.k ∧ Row w x.h 5 x.uses usC (UsH w) ∧ SpH w x.s ∧ I64 x.which ∧ I64 x.tag
def SiH (w : World) (x : Si) : Prop := I64 x.k ∧ I64 x.pos ∧ SpH w x.s ∧ VaH w x.v ∧ UsH w x.u
def TnH (w : World) (x : Tn) : Prop := I64 x.k ∧ I64 x.pos ∧ SpH w x.s ∧ VaH w x.v ∧ UsH w x.u ∧ Row w x.h 1 x.to intC I64
def BlH (w : World) (x : Bl) : Prop := Row w x.h 15 x.ins siC (SiH w) ∧ TnH w x.tm
def LoH (n : Nat) (w : World) (x : Lo) : Prop := TyH n w x.ty
def BoH (n : Nat) (w : World) (x : Bo) : Prop := I64 x.params ∧ Row w x.hl 4 x.locals loC (LoH n w) ∧ Row w x.hb 17 x.blocks blC (BlH w)

theorem SpH.und : Mono SpH := fun _ _ _ hu h => ⟨h.1, h.2.und hu fun _ _ hx => hx⟩
theorem UsH.und : Mono UsH := fun _ _ _ hu h => ⟨h.1, SpH.und _ _ _ hu h.2⟩
theorem VaH.und : Mono VaH := fun _ _ _ hu h => ⟨h.1, h.2.1.und hu fun _ _ hx => UsH.und _ _ _ hu hx, SpH.und _ _ _ hu h.2.2.1, h.2.2.2⟩
theorem SiH.und : Mono SiH := fun _ _ _ hu h => ⟨h.1, h.2.1, SpH.und _ _ _ hu h.2.2.1, VaH.und _ _ _ hu h.2.2.2.1, UsH.und _ _ _ hu h.2.2.2.2⟩
theorem TnH.und : Mono TnH := fun _ _ _ hu h => ⟨h.1, h.2.1, SpH.und _ _ _ hu h.2.2.1, VaH.und _ _ _ hu h.2.2.2.1, UsH.und _ _ _ hu h.2.2.2.2.1, h.2.2.2.2.2.und hu fun _ _ hx => hx⟩
theorem BlH.und : Mono BlH := fun _ _ _ hu h => ⟨h.1.und hu fun _ _ hx => SiH.und _ _ _ hu hx, TnH.und _ _ _ hu h.2⟩
theorem LoH.und (n : Nat) : Mono (LoH n) := fun _ _ _ hu h => TyH.und n _ _ _ hu h
theorem BoH.und (n : Nat) : Mono (BoH n) := fun _ _ _ hu h => ⟨h.1, h.2.1.und hu fun _ _ hx => LoH.und n _ _ _ hu hx, h.2.2.und hu fun _ _ hx => BlH.und _ _ _ hu hx⟩
theorem Und.of_below {w w' : World} (h : Below w.heap.size w w') : Und w w' := ⟨h.size, fun p v hv => (h.cell (World.block_lt_of_cell? w p hv)).trans hv⟩
theorem SpH.below {w w' : World} {x : Sp} (h : SpH w x) (hb : Below w.heap.size w w') : SpH w' x := SpH.und _ _ _ (Und.of_below hb) h
theorem UsH.below {w w' : World} {x : Us} (h : UsH w x) (hb : Below w.heap.size w w') : UsH w' x := UsH.und _ _ _ (Und.of_below hb) h
theorem VaH.below {w w' : World} {x : Va} (h : VaH w x) (hb : Below w.heap.size w w') : VaH w' x := VaH.und _ _ _ (Und.of_below hb) h
theorem SiH.below {w w' : World} {x : Si} (h : SiH w x) (hb : Below w.heap.size w w') : SiH w' x := SiH.und _ _ _ (Und.of_below hb) h
theorem TnH.below {w w' : World} {x : Tn} (h : TnH w x) (hb : Below w.heap.size w w') : TnH w' x := TnH.und _ _ _ (Und.of_below hb) h
theorem BlH.below {w w' : World} {x : Bl} (h : BlH w x) (hb : Below w.heap.size w w') : BlH w' x := BlH.und _ _ _ (Und.of_below hb) h
theorem LoH.below {n : Nat} {w w' : World} {x : Lo} (h : LoH n w x) (hb : Below w.heap.size w w') : LoH n w' x := LoH.und n _ _ _ (Und.of_below hb) h
theorem BoH.below {n : Nat} {w w' : World} {x : Bo} (h : BoH n w x) (hb : Below w.heap.size w w') : BoH n w' x := BoH.und n _ _ _ (Und.of_below hb) h
theorem BoH.le {n m : Nat} (hnm : n ≤ m) {w : World} {x : Bo} (h : BoH n w x) : BoH m w x := ⟨h.1, h.2.1.mono fun _ _ hx => TyH.le hnm hx, h.2.2⟩

end Go.Proofs.YtghkbihgdabamaaGreatDoor
