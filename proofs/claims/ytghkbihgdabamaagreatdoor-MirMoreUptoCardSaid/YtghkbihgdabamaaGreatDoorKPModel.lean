/-
  Several texts of the proof in one: TModel, LModel, LPlain, PText, PModel. No conditions of their own: each lemma states its own.
-/
import Derived.WalkKit
import Derived.Below
import Derived.Lib.Strings
namespace Go.Proofs.YtghkbihgdabamaaGreatDoor
theorem qA {α : Type _} (l : List α) (i : Nat) (a : α) : l.toArray.setIfInBounds i a = (l.set i a).toArray := List.setIfInBounds_toArray ..
theorem qB {α : Type _} {x y : α} {l : List α} : (x :: l).set 0 y = y :: l := rfl
theorem qC {α : Type _} {x y : α} {l : List α} {n : Nat} : (x :: l).set (n + 1) y = x :: l.set n y := rfl
open Go.RowKit

/-- A slice's header without its length. -/
structure Hd where
  oa : Option Addr
  cap : Nat

/-- Types: kind, name, header, list. -/
inductive Ty5 where
  | mk (k : Int) (nm : ByteArray) (h : Hd) (l : List Ty5)
/-- Places. -/
structure Pl5 where
  nm : ByteArray
  h : Hd
  path : List ByteArray
/-- Operands. -/
structure Op5 where
  num : Bool
  n : Int
  p : Pl5
/-- What is set. -/
structure Rv5 where
  k : Int
  h : Hd
  ops : List Op5
  p : Pl5
  nm : ByteArray
  vr : ByteArray
mutual
/-- Statements. -/
inductive St5 where
  | mk (k pos : Int) (nm : ByteArray) (ty : Ty5) (p : Pl5) (rv : Rv5) (op : Op5) (ht : Hd) (th : List St5) (he : Hd) (el : List St5) (ha : Hd) (arms : List Ar5)
/-- Arms. -/
inductive Ar5 where
  | mk (vr bind : ByteArray) (h : Hd) (body : List St5)
end
/-- Fields, parameters, variants. -/
structure Fd5 where
  nm : ByteArray
  ty : Ty5
structure Su5 where
  nm : ByteArray
  drop : Bool
  h : Hd
  fields : List Fd5
  pos : Int
structure En5 where
  nm : ByteArray
  h : Hd
  vars : List Fd5
  pos : Int
structure Fn5 where
  nm : ByteArray
  hp : Hd
  params : List Fd5
  hb : Hd
  body : List St5
  pos : Int
structure So5 where
  hs : Hd
  structs : List Su5
  he : Hd
  enums : List En5
  hf : Hd
  fns : List Fn5

/-! ### As values, and az cells -/
def stepC (s : ByteArray) : List Value := [.string s]
def tyC : Ty5 → List Value
  | .mk k nm h l => [.int .i64 k, .string nm, .slice h.oa l.length h.cap]
def tyV (x : Ty5) : Value := .agg (tyC x).toArray
def plC : Pl5 → List Value
  | ⟨nm, h, path⟩ => [.string nm, .slice h.oa path.length h.cap]
def opC : Op5 → List Value
  | ⟨num, n, p⟩ => [.bool num, .int .i64 n] ++ plC p
def rvC : Rv5 → List Value
  | ⟨k, h, ops, p, nm, vr⟩ => [.int .i64 k, .slice h.oa ops.length h.cap] ++ plC p ++ [.string nm, .string vr]
def stC : St5 → List Value
  | .mk k pos nm ty p rv op ht th he el ha arms => [.int .i64 k, .int .i64 pos, .string nm] ++ tyC ty ++ plC p ++ rvC rv ++ opC op ++ [.slice ht.oa th.length ht.cap, .slice he.oa el.length he.cap, .slice ha.oa arms.length ha.cap]
def arC : Ar5 → List Value
  | .mk vr bind h body => [.string vr, .string bind, .slice h.oa body.length h.cap]
def fdC : Fd5 → List Value
  | ⟨nm, ty⟩ => .string nm :: tyC ty
def fdV (x : Fd5) : Value := .agg (fdC x).toArray
def suC : Su5 → List Value
  | ⟨nm, drop, h, fields, pos⟩ => [.string nm, .bool drop, .slice h.oa fields.length h.cap, .int .i64 pos]
def suV (x : Su5) : Value := .agg (suC x).toArray
def enC : En5 → List Value
  | ⟨nm, h, vars, pos⟩ => [.string nm, .slice h.oa vars.length h.cap, .int .i64 pos]
def enV (x : En5) : Value := .agg (enC x).toArray
def fnC : Fn5 → List Value
  | ⟨nm, hp, params, hb, body, pos⟩ => [.string nm, .slice hp.oa params.length hp.cap, .slice hb.oa body.length hb.cap, .int .i64 pos]
def fnV (x : Fn5) : Value := .agg (fnC x).toArray
def soV : So5 → Value
  | ⟨hs, structs, he, enums, hf, fns⟩ => .agg #[.slice hs.oa structs.length hs.cap, .slice he.oa enums.length he.cap, .slice hf.oa fns.length hf.cap]

/-! ### How they lie -/
/-- A slice's elements: the cells of each, one behind the other; and what holds of each. -/
def Row {α : Type} (w : World) (h : Hd) (sz : Nat) (l : List α) (C : α → List Value) (P : α → Prop) : Prop :=
  l.length ≤ h.cap ∧ h.cap ≤ maxLen ∧
    (0 < l.length → ∃ b off, h.oa = some ⟨b, off, none⟩ ∧ b < w.heap.size ∧ ∀ (i : Nat) (x : α), l[i]? = some x → ∀ (j : Nat) (v : Value), (C x)[j]? = some v → w.cell? ⟨b, off + i * sz + j, none⟩ = some v) ∧
    ∀ x, x ∈ l → P x
def I64 (z : Int) : Prop := -9223372036854775808 ≤ z ∧ z ≤ 9223372036854775807

def TyH : Nat → World → Ty5 → Prop
  | 0, _, _ => False
  | n + 1, w, .mk k _ h l => I64 k ∧ Row w h 3 l tyC (TyH n w)
def PlH (w : World) (p : Pl5) : Prop := Row w p.h 1 p.path stepC (fun _ => True)
def OpH (w : World) (o : Op5) : Prop := I64 o.n ∧ PlH w o.p
def RvH (w : World) (v : Rv5) : Prop := I64 v.k ∧ Row w v.h 4 v.ops opC (OpH w) ∧ PlH w v.p
mutual
def StH : Nat → World → St5 → Prop
  | 0, _, _ => False
  | n + 1, w, .mk k _ _ ty p rv op ht th he el ha arms => I64 k ∧ TyH n w ty ∧ PlH w p ∧ RvH w rv ∧ OpH w op ∧ Row w ht 21 th stC (StH n w) ∧ Row w he 21 el stC (StH n w) ∧ Row w ha 3 arms arC (ArH n w)
def ArH : Nat → World → Ar5 → Prop
  | 0, _, _ => False
  | n + 1, w, .mk _ _ h body => Row w h 21 body stC (StH n w)
end
def FdH (n : Nat) (w : World) (f : Fd5) : Prop := TyH n w f.ty
def SuH (n : Nat) (w : World) (s : Su5) : Prop := Row w s.h 4 s.fields fdC (FdH n w)
def EnH (n : Nat) (w : World) (s : En5) : Prop := Row w s.h 4 s.vars fdC (FdH n w)
def FnH (n : Nat) (w : World) (s : Fn5) : Prop := Row w s.hp 4 s.params fdC (FdH n w) ∧ Row w s.hb 21 s.body stC (StH n w)
def SoH (n : Nat) (w : World) (s : So5) : Prop := Row w s.hs 4 s.structs suC (SuH n w) ∧ Row w s.he 3 s.enums enC (EnH n w) ∧ Row w s.hf 4 s.fns fnC (FnH n w)

theorem Row.mono {α : Type} {w : World} {h : Hd} {sz : Nat} {l : List α} {C : α → List Value} {P Q : α → Prop} (r : Row w h sz l C P) (hq : ∀ x, x ∈ l → P x → Q x) : Row w h sz l C Q :=
  ⟨r.1, r.2.1, r.2.2.1, fun x hx => hq x hx (r.2.2.2 x hx)⟩
theorem Row.below {α : Type} {w w' : World} {h : Hd} {sz : Nat} {l : List α} {C : α → List Value} {P Q : α → Prop} (r : Row w h sz l C P) (hb : Below w.heap.size w w') (hq : ∀ x, x ∈ l → P x → Q x) : Row w' h sz l C Q :=
  ⟨r.1, r.2.1, fun h0 => by
    obtain ⟨b, off, h1, h2, h3⟩ := r.2.2.1 h0
    exact ⟨b, off, h1, Nat.lt_of_lt_of_le h2 hb.size, fun i x hx j v hv => (hb.cell (p := ⟨b, off + i * sz + j, none⟩) h2).trans (h3 i x hx j v hv)⟩, fun x hx => hq x hx (r.2.2.2 x hx)⟩

theorem TyH.below : ∀ (n : Nat) {w w' : World} {t : Ty5}, TyH n w t → Below w.heap.size w w' → TyH n w' t
  | 0, _, _, _, h, _ => h.elim
  | n + 1, _, _, .mk _ _ _ _, ⟨h1, h2⟩, hb => ⟨h1, h2.below hb fun _ _ hx => TyH.below n hx hb⟩
theorem TyH.succ : ∀ (n : Nat) {w : World} {t : Ty5}, TyH n w t → TyH (n + 1) w t
  | 0, _, _, h => h.elim
  | n + 1, _, .mk _ _ _ _, ⟨h1, h2⟩ => ⟨h1, h2.mono fun _ _ hx => TyH.succ n hx⟩
theorem TyH.le {n m : Nat} (hnm : n ≤ m) {w : World} {t : Ty5} (h : TyH n w t) : TyH m w t := by
  induction hnm with
  | refl => exact h
  | step _ ih => exact TyH.succ _ ih
theorem PlH.below {w w' : World} {p : Pl5} (h : PlH w p) (hb : Below w.heap.size w w') : PlH w' p := Row.below h hb fun _ _ _ => trivial
theorem OpH.below {w w' : World} {p : Op5} (h : OpH w p) (hb : Below w.heap.size w w') : OpH w' p := ⟨h.1, h.2.below hb⟩
theorem RvH.below {w w' : World} {p : Rv5} (h : RvH w p) (hb : Below w.heap.size w w') : RvH w' p := ⟨h.1, h.2.1.below hb fun _ _ hx => OpH.below hx hb, h.2.2.below hb⟩
theorem StAr.below : ∀ (n : Nat), (∀ {w w' : World} {t : St5}, StH n w t → Below w.heap.size w w' → StH n w' t) ∧ (∀ {w w' : World} {t : Ar5}, ArH n w t → Below w.heap.size w w' → ArH n w' t)
  | 0 => ⟨by intro _ _ _ h _; unfold StH at h; exact h.elim, by intro _ _ _ h _; unfold ArH at h; exact h.elim⟩
  | n + 1 => by
    obtain ⟨i1, i2⟩ := StAr.below n
    constructor
    · intro w w' t h hb
      cases t with
      | mk k pos nm ty p rv op ht th he el ha arms =>
        obtain ⟨h1, h2, h3, h4, h5, h6, h7, h8⟩ := h
        exact ⟨h1, h2.below _ hb, h3.below hb, h4.below hb, h5.below hb, h6.below hb fun _ _ hx => i1 hx hb, h7.below hb fun _ _ hx => i1 hx hb, h8.below hb fun _ _ hx => i2 hx hb⟩
    · intro w w' t h hb
      cases t with
      | mk vr bind hh body => exact Row.below h hb fun _ _ hx => i1 hx hb
theorem StH.below {n : Nat} {w w' : World} {t : St5} (h : StH n w t) (hb : Below w.heap.size w w') : StH n w' t := (StAr.below n).1 h hb
theorem ArH.below {n : Nat} {w w' : World} {t : Ar5} (h : ArH n w t) (hb : Below w.heap.size w w') : ArH n w' t := (StAr.below n).2 h hb
theorem StAr.succ : ∀ (n : Nat), (∀ {w : World} {t : St5}, StH n w t → StH (n + 1) w t) ∧ (∀ {w : World} {t : Ar5}, ArH n w t → ArH (n + 1) w t)
  | 0 => ⟨by intro _ _ h; unfold StH at h; exact h.elim, by intro _ _ h; unfold ArH at h; exact h.elim⟩
  | n + 1 => by
    obtain ⟨i1, i2⟩ := StAr.succ n
    constructor
    · intro w t h
      cases t with
      | mk k pos nm ty p rv op ht th he el ha arms =>
        obtain ⟨h1, h2, h3, h4, h5, h6, h7, h8⟩ := h
        exact ⟨h1, h2.succ, h3, h4, h5, h6.mono fun _ _ hx => i1 hx, h7.mono fun _ _ hx => i1 hx, h8.mono fun _ _ hx => i2 hx⟩
    · intro w t h
      cases t with
      | mk vr bind hh body => exact Row.mono h fun _ _ hx => i1 hx
theorem StH.le {n m : Nat} (hnm : n ≤ m) {w : World} {t : St5} (h : StH n w t) : StH m w t := by
  induction hnm with
  | refl => exact h
  | step _ ih => exact (StAr.succ _).1 ih
theorem ArH.le {n m : Nat} (hnm : n ≤ m) {w : World} {t : Ar5} (h : ArH n w t) : ArH m w t := by
  induction hnm with
  | refl => exact h
  | step _ ih => exact (StAr.succ _).2 ih
theorem FdH.below {n : Nat} {w w' : World} {p : Fd5} (h : FdH n w p) (hb : Below w.heap.size w w') : FdH n w' p := TyH.below n h hb
theorem SuH.below {n : Nat} {w w' : World} {p : Su5} (h : SuH n w p) (hb : Below w.heap.size w w') : SuH n w' p := Row.below h hb fun _ _ hx => FdH.below hx hb
theorem EnH.below {n : Nat} {w w' : World} {p : En5} (h : EnH n w p) (hb : Below w.heap.size w w') : EnH n w' p := Row.below h hb fun _ _ hx => FdH.below hx hb
theorem FnH.below {n : Nat} {w w' : World} {p : Fn5} (h : FnH n w p) (hb : Below w.heap.size w w') : FnH n w' p := ⟨h.1.below hb fun _ _ hx => FdH.below hx hb, h.2.below hb fun _ _ hx => StH.below hx hb⟩
theorem SoH.below {n : Nat} {w w' : World} {p : So5} (h : SoH n w p) (hb : Below w.heap.size w w') : SoH n w' p :=
  ⟨h.1.below hb fun _ _ hx => SuH.below hx hb, h.2.1.below hb fun _ _ hx => EnH.below hx hb, h.2.2.below hb fun _ _ hx => FnH.below hx hb⟩

/-! ### Sameness -/
def eqL {α : Type} (g : α → α → Bool) : List α → List α → Bool
  | [], [] => true
  | a :: az, b :: bz => g a b && eqL g az bz
  | _, _ => false
theorem eqL_len {α : Type} (g : α → α → Bool) : ∀ {a b : List α}, a.length ≠ b.length → eqL g a b = false
  | [], [], h => absurd rfl h
  | [], _ :: _, _ => rfl
  | _ :: _, [], _ => rfl
  | x :: a, y :: b, h => by rw [eqL, eqL_len g (a := a) (b := b) (by simpa using h), Bool.and_false]
mutual
def tyEq : Ty5 → Ty5 → Bool
  | .mk k nm _ l, .mk k' nm' _ l' => decide (k = k') && decide (nm = nm') && tysEq l l'
def tysEq : List Ty5 → List Ty5 → Bool
  | [], [] => true
  | a :: az, b :: bz => tyEq a b && tysEq az bz
  | _, _ => false
end
theorem tysEq_eq : ∀ a b, tysEq a b = eqL tyEq a b
  | [], [] => rfl
  | [], _ :: _ => rfl
  | _ :: _, [] => rfl
  | a :: az, b :: bz => by rw [tysEq, eqL, tysEq_eq az bz]
end Go.Proofs.YtghkbihgdabamaaGreatDoor

namespace Go.Proofs.YtghkbihgdabamaaGreatDoor

structure Tok where
  k : Int
  text : List UInt8
  n : Nat
  pos : Nat
  deriving DecidableEq

inductive Res where
  | bad (e : Int) (pos : Nat)
  | good (ts : List Tok)

def Res.pre (ts : List Tok) : Res → Res
  | .bad e p => .bad e p
  | .good us => .good (ts ++ us)

end Go.Proofs.YtghkbihgdabamaaGreatDoor

namespace Go.Proofs.YtghkbihgdabamaaGreatDoor

end Go.Proofs.YtghkbihgdabamaaGreatDoor

namespace Go.Proofs.YtghkbihgdabamaaGreatDoor
open Go.RowKit

abbrev bs (s : ByteArray) : List UInt8 := s.data.toList
/-- A piece of a text as a string. -/
def strB (l : List UInt8) : ByteArray := ⟨l.toArray⟩
theorem strB_of (s : ByteArray) : strB (bs s) = s := by cases s; simp [bs, strB]
/-- A row of tokens in the heap. -/
def ToksAt (w : World) (g : Nat) (ts : List Tok) : Prop := g < w.heap.size ∧ ∀ i t, ts[i]? = some t →
  w.cell? ⟨g, i * 4, none⟩ = some (.int .i64 t.k) ∧ w.cell? ⟨g, i * 4 + 1, none⟩ = some (.string (strB t.text)) ∧ w.cell? ⟨g, i * 4 + 2, none⟩ = some (.int .i64 t.n) ∧ w.cell? ⟨g, i * 4 + 3, none⟩ = some (.int .i64 t.pos)

theorem ToksAt.below {w w' : World} {g : Nat} {ts : List Tok} (h : ToksAt w g ts) (hb : Below w.heap.size w w') : ToksAt w' g ts :=
  ⟨Nat.lt_of_lt_of_le h.1 hb.size, fun i t ht => by
    obtain ⟨a, b, c, d⟩ := h.2 i t ht
    exact ⟨(hb.cell h.1).trans a, (hb.cell h.1).trans b, (hb.cell h.1).trans c, (hb.cell h.1).trans d⟩⟩

end Go.Proofs.YtghkbihgdabamaaGreatDoor

namespace Go.Proofs.YtghkbihgdabamaaGreatDoor
open Go.RowKit

/-- what a rule comes to: a thing, and the rest; or a fault, and where -/
inductive Rs (α : Type) where
  | ok (a : α) (l : List Tok)
  | no (e : Int) (p : Nat)
abbrev Rd (α : Type) := List Tok → Rs α
def lastT : Tok := ⟨0, [], 0, 0⟩
def hd (l : List Tok) : Tok := l.headD lastT

def pureR {α : Type} (a : α) : Rd α := fun l => .ok a l
def bindR {α β : Type} (r : Rd α) (f : α → Rd β) : Rd β := fun l => match r l with
  | .ok a l' => f a l'
  | .no e p => .no e p
def mapR {α β : Type} (r : Rd α) (f : α → β) : Rd β := bindR r fun a => pureR (f a)
/-- what the next token is decides -/
def isR {α : Type} (f : Tok → Bool) (yes no : Rd α) : Rd α := fun l => if f (hd l) then yes l else no l
/-- where the next token begins is told -/
def atR {α : Type} (f : Nat → Rd α) : Rd α := fun l => f (hd l).pos l

def h0 : Hd := ⟨none, 0⟩
def nil5 : ByteArray := ⟨#[]⟩
def ty0 : Ty5 := .mk 0 nil5 h0 []
end Go.Proofs.YtghkbihgdabamaaGreatDoor
