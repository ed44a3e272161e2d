/-
  Several texts of the proof in one: TModel, LModel, LPlain, PText. No conditions of their own: each lemma states its own.
-/
import Derived.WalkKit
import Derived.Below
import Derived.Lib.Strings
namespace Go.Proofs.YtggdpgaedmegbaaGreatDoor
open Go.RowKit

/-- A slice's header without its length. -/
structure Hd where
  oa : Option Addr
  cap : Nat

/-- Types: kind, name, header, list. -/
inductive Ty5 where
  | mk (k : Int) (nm : ByteArray) (h : Hd) (l : List Ty5)
/-- Places. -/
structure Pl5 where
  nm : ByteArray
  h : Hd
  path : List ByteArray
/-- Operands. -/
structure Op5 where
  num : Bool
  n : Int
  p : Pl5
/-- What is set. -/
structure Rv5 where
  k : Int
  h : Hd
  ops : List Op5
  p : Pl5
  nm : ByteArray
  vr : ByteArray
mutual
/-- Statements. -/
inductive St5 where
  | mk (k pos : Int) (nm : ByteArray) (ty : Ty5) (p : Pl5) (rv : Rv5) (op : Op5) (ht : Hd) (th : List St5) (he : Hd) (el : List St5) (ha : Hd) (arms : List Ar5)
/-- Arms. -/
inductive Ar5 where
  | mk (vr bind : ByteArray) (h : Hd) (body : List St5)
end
/-- Fields, parameters, variants. -/
structure Fd5 where
  nm : ByteArray
  ty : Ty5
structure Su5 where
  nm : ByteArray
  drop : Bool
  h : Hd
  fields : List Fd5
  pos : Int
structure En5 where
  nm : ByteArray
  h : Hd
  vars : List Fd5
  pos : Int
structure Fn5 where
  nm : ByteArray
  hp : Hd
  params : List Fd5
  hb : Hd
  body : List St5
  pos : Int
structure So5 where
  hs : Hd
  structs : List Su5
  he : Hd
  enums : List En5
  hf : Hd
  fns : List Fn5

/-! ### As values, and az cells -/
def stepC (s : ByteArray) : List Value := [.string s]
def stepV (x : ByteArray) : Value := .agg (stepC x).toArray
def tyC : Ty5 → List Value
  | .mk k nm h l => [.int .i64 k, .string nm, .slice h.oa l.length h.cap]
def tyV (x : Ty5) : Value := .agg (tyC x).toArray
def plC : Pl5 → List Value
  | ⟨nm, h, path⟩ => [.string nm, .slice h.oa path.length h.cap]
def plV (x : Pl5) : Value := .agg (plC x).toArray
def opC : Op5 → List Value
  | ⟨num, n, p⟩ => [.bool num, .int .i64 n] ++ plC p
def opV (x : Op5) : Value := .agg (opC x).toArray
def rvC : Rv5 → List Value
  | ⟨k, h, ops, p, nm, vr⟩ => [.int .i64 k, .slice h.oa ops.length h.cap] ++ plC p ++ [.string nm, .string vr]
def rvV (x : Rv5) : Value := .agg (rvC x).toArray
def stC : St5 → List Value
  | .mk k pos nm ty p rv op ht th he el ha arms => [.int .i64 k, .int .i64 pos, .string nm] ++ tyC ty ++ plC p ++ rvC rv ++ opC op ++ [.slice ht.oa th.length ht.cap, .slice he.oa el.length he.cap, .slice ha.oa arms.length ha.cap]
def stV (x : St5) : Value := .agg (stC x).toArray
def arC : Ar5 → List Value
  | .mk vr bind h body => [.string vr, .string bind, .slice h.oa body.length h.cap]
def arV (x : Ar5) : Value := .agg (arC x).toArray
def fdC : Fd5 → List Value
  | ⟨nm, ty⟩ => .string nm :: tyC ty
def fdV (x : Fd5) : Value := .agg (fdC x).toArray
def suC : Su5 → List Value
  | ⟨nm, drop, h, fields, pos⟩ => [.string nm, .bool drop, .slice h.oa fields.length h.cap, .int .i64 pos]
def suV (x : Su5) : Value := .agg (suC x).toArray
def enC : En5 → List Value
  | ⟨nm, h, vars, pos⟩ => [.string nm, .slice h.oa vars.length h.cap, .int .i64 pos]
def enV (x : En5) : Value := .agg (enC x).toArray
def fnC : Fn5 → List Value
  | ⟨nm, hp, params, hb, body, pos⟩ => [.string nm, .slice hp.oa params.length hp.cap, .slice hb.oa body.length hb.cap, .int .i64 pos]
def fnV (x : Fn5) : Value := .agg (fnC x).toArray
def soV : So5 → Value
  | ⟨hs, structs, he, enums, hf, fns⟩ => .agg #[.slice hs.oa structs.length hs.cap, .slice he.oa enums.length he.cap, .slice hf.oa fns.length hf.cap]

/-! ### How they lie -/
/-- A slice's elements: the cells of each, one behind the other; and what holds of each. -/
def Row {α : Type} (w : World) (h : Hd) (sz : Nat) (l : List α) (C : α → List Value) (P : α → Prop) : Prop :=
  l.length ≤ h.cap ∧ h.cap ≤ maxLen ∧
    (0 < l.length → ∃ b off, h.oa = some ⟨b, off, none⟩ ∧ b < w.heap.size ∧ ∀ (i : Nat) (x : α), l[i]? = some x → ∀ (j : Nat) (v : Value), (C x)[j]? = some v → w.cell? ⟨b, off + i * sz + j, none⟩ = some v) ∧
    ∀ x, x ∈ l → P x
def I64 (z : Int) : Prop := -9223372036854775808 ≤ z ∧ z ≤ 9223372036854775807

def TyH : Nat → World → Ty5 → Prop
  | 0, _, _ => False
  | n + 1, w, .mk k _ h l => I64 k ∧ Row w h 3 l tyC (TyH n w)
def PlH (w : World) (p : Pl5) : Prop := Row w p.h 1 p.path stepC (fun _ => True)
def OpH (w : World) (o : Op5) : Prop := I64 o.n ∧ PlH w o.p
def RvH (w : World) (v : Rv5) : Prop := I64 v.k ∧ Row w v.h 4 v.ops opC (OpH w) ∧ PlH w v.p
mutual
def StH : Nat → World → St5 → Prop
  | 0, _, _ => False
  | n + 1, w, .mk k _ _ ty p rv op ht th he el ha arms => I64 k ∧ TyH n w ty ∧ PlH w p ∧ RvH w rv ∧ OpH w op ∧ Row w ht 21 th stC (StH n w) ∧ Row w he 21 el stC (StH n w) ∧ Row w ha 3 arms arC (ArH n w)
def ArH : Nat → World → Ar5 → Prop
  | 0, _, _ => False
  | n + 1, w, .mk _ _ h body => Row w h 21 body stC (StH n w)
end
def FdH (n : Nat) (w : World) (f : Fd5) : Prop := TyH n w f.ty
def SuH (n : Nat) (w : World) (s : Su5) : Prop := Row w s.h 4 s.fields fdC (FdH n w)
def EnH (n : Nat) (w : World) (s : En5) : Prop := Row w s.h 4 s.vars fdC (FdH n w)
def FnH (n : Nat) (w : World) (s : Fn5) : Prop := Row w s.hp 4 s.params fdC (FdH n w) ∧ Row w s.hb 21 s.body stC (StH n w)
def SoH (n : Nat) (w : World) (s : So5) : Prop := Row w s.hs 4 s.structs suC (SuH n w) ∧ Row w s.he 3 s.enums enC (EnH n w) ∧ Row w s.hf 4 s.fns fnC (FnH n w)

theorem Row.mono {α : Type} {w : World} {h : Hd} {sz : Nat} {l : List α} {C : α → List Value} {P Q : α → Prop} (r : Row w h sz l C P) (hq : ∀ x, x ∈ l → P x → Q x) : Row w h sz l C Q :=
  ⟨r.1, r.2.1, r.2.2.1, fun x hx => hq x hx (r.2.2.2 x hx)⟩
theorem Row.below {α : Type} {w w' : World} {h : Hd} {sz : Nat} {l : List α} {C : α → List Value} {P Q : α → Prop} (r : Row w h sz l C P) (hb : Below w.heap.size w w') (hq : ∀ x, x ∈ l → P x → Q x) : Row w' h sz l C Q :=
  ⟨r.1, r.2.1, fun h0 => by
    obtain ⟨b, off, h1, h2, h3⟩ := r.2.2.1 h0
    exact ⟨b, off, h1, Nat.lt_of_lt_of_le h2 hb.size, fun i x hx j v hv => (hb.cell (p := ⟨b, off + i * sz + j, none⟩) h2).trans (h3 i x hx j v hv)⟩, fun x hx => hq x hx (r.2.2.2 x hx)⟩

theorem TyH.below : ∀ (n : Nat) {w w' : World} {t : Ty5}, TyH n w t → Below w.heap.size w w' → TyH n w' t
  | 0, _, _, _, h, _ => h.elim
  | n + 1, _, _, .mk _ _ _ _, ⟨h1, h2⟩, hb => ⟨h1, h2.below hb fun _ _ hx => TyH.below n hx hb⟩
theorem TyH.succ : ∀ (n : Nat) {w : World} {t : Ty5}, TyH n w t → TyH (n + 1) w t
  | 0, _, _, h => h.elim
  | n + 1, _, .mk _ _ _ _, ⟨h1, h2⟩ => ⟨h1, h2.mono fun _ _ hx => TyH.succ n hx⟩
theorem TyH.le {n m : Nat} (hnm : n ≤ m) {w : World} {t : Ty5} (h : TyH n w t) : TyH m w t := by
  induction hnm with
  | refl => exact h
  | step _ ih => exact TyH.succ _ ih
theorem PlH.below {w w' : World} {p : Pl5} (h : PlH w p) (hb : Below w.heap.size w w') : PlH w' p := Row.below h hb fun _ _ _ => trivial
theorem OpH.below {w w' : World} {p : Op5} (h : OpH w p) (hb : Below w.heap.size w w') : OpH w' p := ⟨h.1, h.2.below hb⟩
theorem RvH.below {w w' : World} {p : Rv5} (h : RvH w p) (hb : Below w.heap.size w w') : RvH w' p := ⟨h.1, h.2.1.below hb fun _ _ hx => OpH.below hx hb, h.2.2.below hb⟩
theorem StAr.below : ∀ (n : Nat), (∀ {w w' : World} {t : St5}, StH n w t → Below w.heap.size w w' → StH n w' t) ∧ (∀ {w w' : World} {t : Ar5}, ArH n w t → Below w.heap.size w w' → ArH n w' t)
  | 0 => ⟨by intro _ _ _ h _; unfold StH at h; exact h.elim, by intro _ _ _ h _; unfold ArH at h; exact h.elim⟩
  | n + 1 => by
    obtain ⟨i1, i2⟩ := StAr.below n
    constructor
    · intro w w' t h hb
      cases t with
      | mk k pos nm ty p rv op ht th he el ha arms =>
        obtain ⟨h1, h2, h3, h4, h5, h6, h7, h8⟩ := h
        exact ⟨h1, h2.below _ hb, h3.below hb, h4.below hb, h5.below hb, h6.below hb fun _ _ hx => i1 hx hb, h7.below hb fun _ _ hx => i1 hx hb, h8.below hb fun _ _ hx => i2 hx hb⟩
    · intro w w' t h hb
      cases t with
      | mk vr bind hh body => exact Row.below h hb fun _ _ hx => i1 hx hb
theorem StH.below {n : Nat} {w w' : World} {t : St5} (h : StH n w t) (hb : Below w.heap.size w w') : StH n w' t := (StAr.below n).1 h hb
theorem ArH.below {n : Nat} {w w' : World} {t : Ar5} (h : ArH n w t) (hb : Below w.heap.size w w') : ArH n w' t := (StAr.below n).2 h hb
theorem StAr.succ : ∀ (n : Nat), (∀ {w : World} {t : St5}, StH n w t → StH (n + 1) w t) ∧ (∀ {w : World} {t : Ar5}, ArH n w t → ArH (n + 1) w t)
  | 0 => ⟨by intro _ _ h; unfold StH at h; exact h.elim, by intro _ _ h; unfold ArH at h; exact h.elim⟩
  | n + 1 => by
    obtain ⟨i1, i2⟩ := StAr.succ n
    constructor
    · intro w t h
      cases t with
      | mk k pos nm ty p rv op ht th he el ha arms =>
        obtain ⟨h1, h2, h3, h4, h5, h6, h7, h8⟩ := h
        exact ⟨h1, h2.succ, h3, h4, h5, h6.mono fun _ _ hx => i1 hx, h7.mono fun _ _ hx => i1 hx, h8.mono fun _ _ hx => i2 hx⟩
    · intro w t h
      cases t with
      | mk vr bind hh body => exact Row.mono h fun _ _ hx => i1 hx
theorem StH.le {n m : Nat} (hnm : n ≤ m) {w : World} {t : St5} (h : StH n w t) : StH m w t := by
  induction hnm with
  | refl => exact h
  | step _ ih => exact (StAr.succ _).1 ih
theorem ArH.le {n m : Nat} (hnm : n ≤ m) {w : World} {t : Ar5} (h : ArH n w t) : ArH m w t := by
  induction hnm with
  | refl => exact h
  | step _ ih => exact (StAr.succ _).2 ih
theorem FdH.below {n : Nat} {w w' : World} {p : Fd5} (h : FdH n w p) (hb : Below w.heap.size w w') : FdH n w' p := TyH.below n h hb
theorem SuH.below {n : Nat} {w w' : World} {p : Su5} (h : SuH n w p) (hb : Below w.heap.size w w') : SuH n w' p := Row.below h hb fun _ _ hx => FdH.below hx hb
theorem EnH.below {n : Nat} {w w' : World} {p : En5} (h : EnH n w p) (hb : Below w.heap.size w w') : EnH n w' p := Row.below h hb fun _ _ hx => FdH.below hx hb
theorem FnH.below {n : Nat} {w w' : World} {p : Fn5} (h : FnH n w p) (hb : Below w.heap.size w w') : FnH n w' p := ⟨h.1.below hb fun _ _ hx => FdH.below hx hb, h.2.below hb fun _ _ hx => StH.below hx hb⟩
theorem SoH.below {n : Nat} {w w' : World} {p : So5} (h : SoH n w p) (hb : Below w.heap.size w w') : SoH n w' p :=
  ⟨h.1.below hb fun _ _ hx => SuH.below hx hb, h.2.1.below hb fun _ _ hx => EnH.below hx hb, h.2.2.below hb fun _ _ hx => FnH.below hx hb⟩

/-! ### Sameness -/
def eqL {α : Type} (g : α → α → Bool) : List α → List α → Bool
  | [], [] => true
  | a :: az, b :: bz => g a b && eqL g az bz
  | _, _ => false
theorem eqL_len {α : Type} (g : α → α → Bool) : ∀ {a b : List α}, a.length ≠ b.length → eqL g a b = false
  | [], [], h => absurd rfl h
  | [], _ :: _, _ => rfl
  | _ :: _, [], _ => rfl
  | x :: a, y :: b, h => by rw [eqL, eqL_len g (a := a) (b := b) (by simpa using h), Bool.and_false]
def stepEq (a b : ByteArray) : Bool := decide (a = b)
def plEq (a b : Pl5) : Bool := decide (a.nm = b.nm) && eqL stepEq a.path b.path
mutual
def tyEq : Ty5 → Ty5 → Bool
  | .mk k nm _ l, .mk k' nm' _ l' => decide (k = k') && decide (nm = nm') && tysEq l l'
def tysEq : List Ty5 → List Ty5 → Bool
  | [], [] => true
  | a :: az, b :: bz => tyEq a b && tysEq az bz
  | _, _ => false
end
theorem tysEq_eq : ∀ a b, tysEq a b = eqL tyEq a b
  | [], [] => rfl
  | [], _ :: _ => rfl
  | _ :: _, [] => rfl
  | a :: az, b :: bz => by rw [tysEq, eqL, tysEq_eq az bz]
def opEq (a b : Op5) : Bool := decide (a.num = b.num) && decide (a.n = b.n) && plEq a.p b.p
def rvEq (a b : Rv5) : Bool := decide (a.k = b.k) && decide (a.nm = b.nm) && decide (a.vr = b.vr) && plEq a.p b.p && eqL opEq a.ops b.ops
mutual
def stEq : St5 → St5 → Bool
  | .mk k _ nm ty p rv op _ th _ el _ ar, .mk k' _ nm' ty' p' rv' op' _ th' _ el' _ ar' =>
    decide (k = k') && decide (nm = nm') && tyEq ty ty' && plEq p p' && rvEq rv rv' && opEq op op' && stsEq th th' && stsEq el el' && arsEq ar ar'
def stsEq : List St5 → List St5 → Bool
  | [], [] => true
  | a :: az, b :: bz => stEq a b && stsEq az bz
  | _, _ => false
def arEq : Ar5 → Ar5 → Bool
  | .mk vr bi _ body, .mk vr' bi' _ body' => decide (vr = vr') && decide (bi = bi') && stsEq body body'
def arsEq : List Ar5 → List Ar5 → Bool
  | [], [] => true
  | a :: az, b :: bz => arEq a b && arsEq az bz
  | _, _ => false
end
theorem stsEq_eq : ∀ a b, stsEq a b = eqL stEq a b
  | [], [] => by rw [stsEq]; rfl
  | [], _ :: _ => by rw [stsEq]; rfl; all_goals simp
  | _ :: _, [] => by rw [stsEq]; rfl; all_goals simp
  | a :: az, b :: bz => by rw [stsEq, eqL, stsEq_eq az bz]
theorem arsEq_eq : ∀ a b, arsEq a b = eqL arEq a b
  | [], [] => by rw [arsEq]; rfl
  | [], _ :: _ => by rw [arsEq]; rfl; all_goals simp
  | _ :: _, [] => by rw [arsEq]; rfl; all_goals simp
  | a :: az, b :: bz => by rw [arsEq, eqL, arsEq_eq az bz]
def fdEq (a b : Fd5) : Bool := decide (a.nm = b.nm) && tyEq a.ty b.ty
def suEq (a b : Su5) : Bool := decide (a.nm = b.nm) && decide (a.drop = b.drop) && eqL fdEq a.fields b.fields
def enEq (a b : En5) : Bool := decide (a.nm = b.nm) && eqL fdEq a.vars b.vars
def fnEq (a b : Fn5) : Bool := decide (a.nm = b.nm) && eqL fdEq a.params b.params && eqL stEq a.body b.body
def soEq (a b : So5) : Bool := eqL suEq a.structs b.structs && eqL enEq a.enums b.enums && eqL fnEq a.fns b.fns
end Go.Proofs.YtggdpgaedmegbaaGreatDoor

namespace Go.Proofs.YtggdpgaedmegbaaGreatDoor

def letterB (c : UInt8) : Bool := decide (97 ≤ c.toNat ∧ c.toNat ≤ 122) || decide (65 ≤ c.toNat ∧ c.toNat ≤ 90)
def greatB (c : UInt8) : Bool := decide (65 ≤ c.toNat ∧ c.toNat ≤ 90)
def digitB (c : UInt8) : Bool := decide (48 ≤ c.toNat ∧ c.toNat ≤ 57)
def nameB (c : UInt8) : Bool := letterB c || digitB c || decide (c.toNat = 95)
def blankB (c : UInt8) : Bool := decide (c.toNat = 32) || decide (c.toNat = 9) || decide (c.toNat = 10)
def lineB (c : UInt8) : Bool := !decide (c.toNat = 10)

def spanN (f : UInt8 → Bool) : List UInt8 → Nat
  | [] => 0
  | c :: r => if f c then spanN f r + 1 else 0

def slashes (l : List UInt8) : Bool := decide (l.take 2 = [47, 47])

/-- How many bytes are passed (true: in a remark). -/
def passN : Bool → List UInt8 → Nat
  | _, [] => 0
  | true, c :: r => if lineB c then passN true r + 1 else passN false r + 1
  | false, c :: r => if blankB c then passN false r + 1 else if slashes (c :: r) then passN true r + 1 else 0

def numV (l : List UInt8) : Nat := l.foldl (fun a c => a * 10 + (c.toNat - 48)) 0

def longL : List (List UInt8) := [[58, 58], [61, 61], [61, 62], [45, 62]]
def shortL : List UInt8 := [123, 125, 40, 41, 44, 59, 58, 46, 42, 38, 61, 43, 45, 60]

def signN (l : List UInt8) : Nat :=
  if l.take 2 ∈ longL then 2 else
  match l with
  | [] => 0
  | c :: _ => if c ∈ shortL then 1 else 0

structure Tok where
  k : Int
  text : List UInt8
  n : Nat
  pos : Nat
  deriving DecidableEq

inductive TokR where
  | err (e : Int)
  | tok (k : Int) (m : Nat) (n : Nat)

def tokR : List UInt8 → TokR
  | [] => .err 40
  | c :: r =>
    if letterB c then (if spanN nameB r + 1 ≤ 24 then .tok 1 (spanN nameB r + 1) 0 else .err 42)
    else if digitB c then (if numV ((c :: r).take (spanN digitB (c :: r))) < 9223372036854775808 then .tok 2 (spanN digitB (c :: r)) (numV ((c :: r).take (spanN digitB (c :: r)))) else .err 41)
    else if signN (c :: r) = 0 then .err 40 else .tok 3 (signN (c :: r)) 0

inductive Res where
  | bad (e : Int) (pos : Nat)
  | good (ts : List Tok)

def Res.pre (ts : List Tok) : Res → Res
  | .bad e p => .bad e p
  | .good us => .good (ts ++ us)

theorem Res.pre_nil (r : Res) : r.pre [] = r := by cases r <;> rfl
theorem Res.pre_pre (a b : List Tok) (r : Res) : (r.pre b).pre a = r.pre (a ++ b) := by cases r <;> simp [Res.pre]

def lexP : Nat → Nat → List UInt8 → Res
  | 0, _, _ => .good []
  | _ + 1, _, [] => .good []
  | f + 1, p, c :: r =>
    match tokR (c :: r) with
    | .err e => .bad e p
    | .tok k m n => (lexP f (p + m + passN false ((c :: r).drop m)) (((c :: r).drop m).drop (passN false ((c :: r).drop m)))).pre [⟨k, (c :: r).take m, n, p⟩]

def lexQ (p : Nat) (l : List UInt8) : Res := lexP (l.length + 1) p l

/-- The tokens of a piece of a text that begins at p. -/
def lexT (p : Nat) (l : List UInt8) : Res := lexQ (p + passN false l) (l.drop (passN false l))

def lexL (l : List UInt8) : Res := if l.length ≤ 65536 then lexT 0 l else .bad 43 0

theorem spanN_le (f : UInt8 → Bool) : ∀ l, spanN f l ≤ l.length
  | [] => Nat.le_refl _
  | c :: r => by
    unfold spanN
    split
    · simpa using spanN_le f r
    · simp

theorem passN_le : ∀ b l, passN b l ≤ l.length
  | true, [] => by simp [passN]
  | false, [] => by simp [passN]
  | true, c :: r => by
    unfold passN
    have := passN_le true r
    have := passN_le false r
    split <;> simp <;> omega
  | false, c :: r => by
    unfold passN
    have := passN_le true r
    have := passN_le false r
    split
    · simp; omega
    · split <;> simp <;> omega

theorem signN_le (l : List UInt8) : signN l ≤ l.length := by
  unfold signN
  split
  · rename_i h
    have : (l.take 2).length = 2 := by
      simp [longL] at h
      rcases h with h | h | h | h <;> rw [h] <;> rfl
    simp at this
    omega
  · cases l with
    | nil => simp
    | cons c r =>
      have : (if c ∈ shortL then 1 else 0) ≤ 1 := by split <;> omega
      simp only [List.length_cons]
      omega

theorem tokR_len {l : List UInt8} {k : Int} {m n : Nat} (h : tokR l = .tok k m n) : 1 ≤ m ∧ m ≤ l.length := by
  cases l with
  | nil => simp [tokR] at h
  | cons c r =>
    simp only [tokR] at h
    split at h
    · split at h
      · cases h
        have := spanN_le nameB r
        simp; omega
      · cases h
    · split at h
      · rename_i hd
        split at h
        · cases h
          refine ⟨?_, spanN_le _ _⟩
          simp [spanN, hd]
        · cases h
      · split at h
        · cases h
        · cases h
          exact ⟨by omega, signN_le _⟩

theorem lexP_fuel : ∀ (f g p : Nat) (l : List UInt8), l.length < f → l.length < g → lexP f p l = lexP g p l
  | 0, _, _, _, h, _ => by omega
  | _, 0, _, _, _, h => by omega
  | f + 1, g + 1, p, [], _, _ => rfl
  | f + 1, g + 1, p, c :: r, hf, hg => by
    simp only [lexP]
    split
    · rfl
    · rename_i k m n h
      have := tokR_len h
      rw [lexP_fuel f g]
      · simp at hf ⊢; omega
      · simp at hg ⊢; omega

theorem lexQ_nil (p : Nat) : lexQ p [] = .good [] := rfl

theorem lexQ_err {p : Nat} {l : List UInt8} {e : Int} (hl : l ≠ []) (h : tokR l = .err e) : lexQ p l = .bad e p := by
  cases l with
  | nil => exact absurd rfl hl
  | cons c r => simp only [lexQ, lexP, h]

theorem lexQ_tok {p : Nat} {l : List UInt8} {k : Int} {m n : Nat} (h : tokR l = .tok k m n) : lexQ p l = (lexT (p + m) (l.drop m)).pre [⟨k, l.take m, n, p⟩] := by
  cases l with
  | nil => simp [tokR] at h
  | cons c r =>
    have := tokR_len h
    simp only [lexT, lexQ, lexP, h, List.length_cons]
    rw [lexP_fuel (r.length + 1) (((((c :: r).drop m).drop (passN false ((c :: r).drop m)))).length + 1)]
    · simp at this ⊢; omega
    · omega

/-- One more blank. -/
theorem lexT_blank (p : Nat) (c : UInt8) (r : List UInt8) (h : blankB c = true) : lexT p (c :: r) = lexT (p + 1) r := by
  simp only [lexT, passN, h, if_true, List.drop_succ_cons]
  congr 1
  omega

theorem passN_true (l : List UInt8) : passN true l = spanN lineB l + passN false (l.drop (spanN lineB l)) := by
  induction l with
  | nil => rfl
  | cons c r ih =>
    cases h : lineB c
    · have hb : blankB c = true := by
        simp [lineB] at h
        simp [blankB, h]
      simp [passN, spanN, h, hb]
    · simp only [passN, spanN, h, if_true, List.drop_succ_cons, ih]
      omega

theorem slashes_cons {l : List UInt8} (h : slashes l = true) : ∃ r, l = 47 :: 47 :: r := by
  simp [slashes] at h
  match l, h with
  | a :: b :: r, h =>
    simp at h
    exact ⟨r, by rw [h.1, h.2]⟩

/-- A remark is passed to its line's end. -/
theorem passN_remark (l : List UInt8) (h : slashes l = true) : passN false l = spanN lineB l + passN false (l.drop (spanN lineB l)) := by
  obtain ⟨r, rfl⟩ := slashes_cons h
  rw [← passN_true]
  simp [passN, blankB, slashes, lineB]

theorem lexT_remark (p : Nat) (l : List UInt8) (h : slashes l = true) : lexT p l = lexT (p + spanN lineB l) (l.drop (spanN lineB l)) := by
  simp only [lexT, List.drop_drop]
  rw [passN_remark l h, Nat.add_assoc]

theorem lexT_tok (p : Nat) (l : List UInt8) (h : passN false l = 0) : lexT p l = lexQ p l := by
  simp [lexT, h]

theorem passN_zero {c : UInt8} {r : List UInt8} (h1 : blankB c = false) (h2 : slashes (c :: r) = false) : passN false (c :: r) = 0 := by
  simp [passN, h1, h2]

/-- What is passed ends ahead of a token, or at the text's end. -/
theorem passN_stop : ∀ (b : Bool) (l : List UInt8), passN false (l.drop (passN b l)) = 0
  | b, [] => by simp [passN]
  | true, c :: r => by
    cases h : lineB c
    · simp only [passN, h, Bool.false_eq_true, if_false, List.drop_succ_cons]
      exact passN_stop false r
    · simp only [passN, h, if_true, List.drop_succ_cons]
      exact passN_stop true r
  | false, c :: r => by
    cases h : blankB c
    · cases h2 : slashes (c :: r)
      · rw [passN_zero h h2]
        exact passN_zero h h2
      · simp only [passN, h, h2, Bool.false_eq_true, if_false, if_true, List.drop_succ_cons]
        exact passN_stop true r
    · simp only [passN, h, if_true, List.drop_succ_cons]
      exact passN_stop false r

/-- A blank's run. -/
theorem passN_blanks (l : List UInt8) : passN false l = spanN blankB l + passN false (l.drop (spanN blankB l)) := by
  induction l with
  | nil => rfl
  | cons c r ih =>
    cases h : blankB c
    · simp [spanN, h]
    · simp only [passN, spanN, h, if_true, List.drop_succ_cons, ih]
      omega

theorem spanN_head {f : UInt8 → Bool} {l : List UInt8} {c : UInt8} {r : List UInt8} (h : l.drop (spanN f l) = c :: r) : f c = false := by
  induction l with
  | nil => simp at h
  | cons a t ih =>
    cases ha : f a
    · simp [spanN, ha] at h
      rw [← h.1]; exact ha
    · simp only [spanN, ha, if_true, List.drop_succ_cons] at h
      exact ih h

end Go.Proofs.YtggdpgaedmegbaaGreatDoor

namespace Go.Proofs.YtggdpgaedmegbaaGreatDoor

/-- What a piece's tokens are, one step. -/
theorem lexT_cases (p : Nat) (l : List UInt8) :
    (l.drop (passN false l) = [] ∧ lexT p l = .good []) ∨
    (∃ e, l.drop (passN false l) ≠ [] ∧ tokR (l.drop (passN false l)) = .err e ∧ lexT p l = .bad e (p + passN false l)) ∨
    (∃ k m n, 1 ≤ m ∧ passN false l + m ≤ l.length ∧ tokR (l.drop (passN false l)) = .tok k m n ∧
      lexT p l = (lexT (p + passN false l + m) (l.drop (passN false l + m))).pre [⟨k, (l.drop (passN false l)).take m, n, p + passN false l⟩]) := by
  have hle := passN_le false l
  cases h : l.drop (passN false l) with
  | nil => exact .inl ⟨rfl, by simp only [lexT, h]; rfl⟩
  | cons c r =>
    cases ht : tokR (c :: r) with
    | err e =>
      refine .inr (.inl ⟨e, by simp, rfl, ?_⟩)
      simp only [lexT, h]
      exact lexQ_err (by simp) ht
    | tok k m n =>
      have hm := tokR_len ht
      have hl : (l.drop (passN false l)).length = (c :: r).length := by rw [h]
      simp only [List.length_drop] at hl
      refine .inr (.inr ⟨k, m, n, hm.1, by omega, rfl, ?_⟩)
      rw [← List.drop_drop, h]
      conv => lhs; rw [lexT, h]
      exact lexQ_tok ht

theorem lexT_bad {p : Nat} {l : List UInt8} {e : Int} {q : Nat} (h : lexT p l = .bad e q) : p ≤ q ∧ q < p + l.length ∧ e ≠ 0 := by
  have hle := passN_le false l
  rcases lexT_cases p l with ⟨_, h1⟩ | ⟨f, h0, h2, h1⟩ | ⟨k, m, n, h2, h3, _, h1⟩
  · rw [h1] at h; cases h
  · rw [h1] at h
    cases h
    have : (l.drop (passN false l)).length ≠ 0 := fun e => h0 (List.length_eq_zero_iff.1 e)
    simp only [List.length_drop] at this
    refine ⟨by omega, by omega, ?_⟩
    cases hd : l.drop (passN false l) with
    | nil => exact absurd hd h0
    | cons c r =>
      rw [hd] at h2
      simp only [tokR] at h2
      split at h2
      · split at h2
        · cases h2
        · cases h2; decide
      · split at h2
        · split at h2
          · cases h2
          · cases h2; decide
        · split at h2
          · cases h2; decide
          · cases h2
  · rw [h1] at h
    cases h4 : lexT (p + passN false l + m) (l.drop (passN false l + m)) with
    | good us => rw [h4] at h; cases h
    | bad f q' =>
      rw [h4] at h
      cases h
      have := lexT_bad h4
      simp only [List.length_drop] at this
      omega
termination_by l.length
decreasing_by simp only [List.length_drop]; omega

theorem tokR_k {l : List UInt8} {k : Int} {m n : Nat} (h : tokR l = .tok k m n) : k = 1 ∨ k = 2 ∨ k = 3 := by
  cases l with
  | nil => cases h
  | cons c r =>
    simp only [tokR] at h
    split at h
    · split at h <;> cases h; simp
    · split at h
      · split at h <;> cases h; simp
      · split at h <;> cases h; simp

/-- The first of a piece's tokens. -/
theorem lexT_good {p : Nat} {l : List UInt8} {ts : List Tok} (h : lexT p l = .good ts) :
    (ts = [] ∧ passN false l = l.length) ∨
    (∃ t us, ts = t :: us ∧ t.pos = p + passN false l ∧ 1 ≤ t.text.length ∧ passN false l + t.text.length ≤ l.length ∧ t.text = (l.drop (passN false l)).take t.text.length ∧ (t.k = 1 ∨ t.k = 2 ∨ t.k = 3) ∧ tokR (l.drop (passN false l)) = .tok t.k t.text.length t.n ∧
      lexT (p + passN false l + t.text.length) (l.drop (passN false l + t.text.length)) = .good us) := by
  have hle := passN_le false l
  rcases lexT_cases p l with ⟨h0, h1⟩ | ⟨f, h0, h2, h1⟩ | ⟨k, m, n, h2, h3, h4, h1⟩
  · rw [h1] at h
    cases h
    have : (l.drop (passN false l)).length = 0 := by rw [h0]; rfl
    simp only [List.length_drop] at this
    exact .inl ⟨rfl, by omega⟩
  · rw [h1] at h; cases h
  · rw [h1] at h
    have hlen : ((l.drop (passN false l)).take m).length = m := by simp only [List.length_take, List.length_drop]; omega
    cases h5 : lexT (p + passN false l + m) (l.drop (passN false l + m)) with
    | bad f q' => rw [h5] at h; cases h
    | good us =>
      rw [h5] at h
      cases h
      refine .inr ⟨_, us, rfl, rfl, ?_⟩
      simp only [hlen]
      exact ⟨h2, h3, by trivial, tokR_k h4, h4, h5⟩

/-- What is passed, by itself. -/
theorem passN_gap : ∀ (b : Bool) (l : List UInt8), passN b (l.take (passN b l) ++ [10]) = passN b l + 1
  | true, [] => by decide
  | false, [] => by decide
  | true, c :: r => by
    cases h : lineB c
    · simp only [passN, h, Bool.false_eq_true, if_false, List.take_succ_cons, List.cons_append, passN_gap false r]
    · simp only [passN, h, if_true, List.take_succ_cons, List.cons_append, passN_gap true r]
  | false, c :: r => by
    cases h : blankB c
    · cases h2 : slashes (c :: r)
      · rw [passN_zero h h2]
        simp [passN, blankB]
      · obtain ⟨r', hr⟩ := slashes_cons h2
        cases hr
        have h3 : ∀ x, slashes (47 :: 47 :: x) = true := fun x => by simp [slashes]
        have h4 := passN_gap true (47 :: r')
        have e1 : passN true (47 :: r') = passN true r' + 1 := by simp [passN, lineB]
        rw [e1] at h4
        simp only [List.take_succ_cons, List.cons_append] at h4
        have e2 : passN false (47 :: 47 :: r') = passN true r' + 1 + 1 := by simp [passN, h, h3, lineB]
        rw [e2]
        simp only [List.take_succ_cons, List.cons_append]
        rw [passN]
        simp only [h, h3, h4, Bool.false_eq_true, if_false, if_true]
    · simp only [passN, h, if_true, List.take_succ_cons, List.cons_append, passN_gap false r]

theorem lexT_gap (p : Nat) (l : List UInt8) : lexT p (l.take (passN false l) ++ [10]) = .good [] := by
  have h := passN_gap false l
  have hl : (l.take (passN false l) ++ [10]).length = passN false l + 1 := by
    have := passN_le false l
    simp only [List.length_append, List.length_take, List.length_singleton]
    omega
  rw [lexT, h, List.drop_eq_nil_of_le (by omega)]
  rfl

/-- Two texts with a newline between. -/
theorem passN_glue : ∀ (b : Bool) (x y : List UInt8), passN b (x ++ 10 :: y) = if passN b x = x.length then x.length + 1 + passN false y else passN b x
  | true, [], y => by simp [passN, lineB]; omega
  | false, [], y => by simp [passN, blankB]; omega
  | true, c :: r, y => by
    have h1 := passN_glue true r y
    have h2 := passN_glue false r y
    cases h : lineB c
    · simp only [passN, h, Bool.false_eq_true, if_false, List.cons_append, h2, List.length_cons]
      by_cases e : passN false r = r.length <;> simp [e]; omega
    · simp only [passN, h, if_true, List.cons_append, h1, List.length_cons]
      by_cases e : passN true r = r.length <;> simp [e]; omega
  | false, c :: r, y => by
    have h1 := passN_glue true r y
    have h2 := passN_glue false r y
    cases h : blankB c
    · have h3 : slashes (c :: (r ++ 10 :: y)) = slashes (c :: r) := by
        cases r with
        | nil => simp [slashes]
        | cons d t => simp [slashes]
      cases h4 : slashes (c :: r)
      · rw [passN_zero h h4]
        rw [List.cons_append, passN_zero h (h3.trans h4)]
        simp
      · simp only [passN, h, h3, h4, Bool.false_eq_true, if_false, if_true, List.cons_append, h1, List.length_cons]
        by_cases e : passN true r = r.length <;> simp [e]; omega
    · simp only [passN, h, if_true, List.cons_append, h2, List.length_cons]
      by_cases e : passN false r = r.length <;> simp [e]; omega

theorem spanN_glue (f : UInt8 → Bool) (hf : f 10 = false) (x y : List UInt8) : spanN f (x ++ 10 :: y) = spanN f x := by
  induction x with
  | nil => simp [spanN, hf]
  | cons c r ih => simp only [List.cons_append, spanN, ih]

theorem signN_glue (c : UInt8) (r y : List UInt8) : signN (c :: r ++ 10 :: y) = signN (c :: r) := by
  cases r with
  | nil =>
    simp only [signN, List.cons_append, List.nil_append, List.take, longL]
    simp
  | cons d t => simp [signN]; rfl

theorem tokR_glue (c : UInt8) (r y : List UInt8) : tokR (c :: r ++ 10 :: y) = tokR (c :: r) := by
  have h1 := spanN_glue nameB (by decide) r y
  have h2 := spanN_glue digitB (by decide) (c :: r) y
  have h3 := signN_glue c r y
  have h4 : ((c :: r) ++ 10 :: y).take (spanN digitB (c :: r)) = (c :: r).take (spanN digitB (c :: r)) := List.take_append_of_le_length (spanN_le _ _)
  simp only [List.cons_append] at h2 h3 h4 ⊢
  simp only [tokR, h1, h2, h3, h4]

theorem lexT_glue (p : Nat) (x y : List UInt8) : lexT p (x ++ 10 :: y) = match lexT p x with
    | .bad e q => .bad e q
    | .good ts => (lexT (p + x.length + 1) y).pre ts := by
  have hle := passN_le false x
  have hg := passN_glue false x y
  rcases lexT_cases p x with ⟨h0, h1⟩ | ⟨f, h0, h2, h1⟩ | ⟨k, m, n, h2, h3, h4, h1⟩
  · have : (x.drop (passN false x)).length = 0 := by rw [h0]; rfl
    simp only [List.length_drop] at this
    have e : passN false x = x.length := by omega
    rw [if_pos e] at hg
    rw [h1]
    simp only [Res.pre_nil]
    rw [lexT, hg, lexT]
    congr 1
    · omega
    · rw [List.drop_append, List.drop_eq_nil_of_le (by omega)]
      have : x.length + 1 + passN false y - x.length = passN false y + 1 := by omega
      rw [this]
      simp
  · have : (x.drop (passN false x)).length ≠ 0 := fun e => h0 (List.length_eq_zero_iff.1 e)
    simp only [List.length_drop] at this
    rw [if_neg (by omega)] at hg
    rw [h1, lexT, hg, List.drop_append_of_le_length hle]
    cases hd : x.drop (passN false x) with
    | nil => exact absurd hd h0
    | cons c r =>
      rw [hd] at h2
      exact lexQ_err (by simp) ((tokR_glue c r y).trans h2)
  · rw [if_neg (by omega)] at hg
    rw [h1, lexT, hg, List.drop_append_of_le_length hle]
    have ih := lexT_glue (p + passN false x + m) (x.drop (passN false x + m)) y
    have hdl : (x.drop (passN false x + m)).length = x.length - (passN false x + m) := by simp
    cases hd : x.drop (passN false x) with
    | nil => rw [hd] at h4; cases h4
    | cons c r =>
      rw [hd] at h4
      have hm := tokR_len h4
      rw [lexQ_tok ((tokR_glue c r y).trans h4), List.drop_append_of_le_length hm.2, List.take_append_of_le_length hm.2]
      rw [← hd, List.drop_drop, ih]
      cases lexT (p + passN false x + m) (x.drop (passN false x + m)) with
      | bad e q => rfl
      | good ts =>
        have : p + passN false x + m + (x.length - (passN false x + m)) + 1 = p + x.length + 1 := by omega
        rw [hdl, this]
        exact Res.pre_pre _ _ _
termination_by x.length
decreasing_by simp only [List.length_drop]; omega

def Tok.shift (d : Nat) (t : Tok) : Tok := { t with pos := t.pos + d }

theorem lexT_shift (d p : Nat) (l : List UInt8) : lexT (p + d) l = match lexT p l with
    | .bad e q => .bad e (q + d)
    | .good ts => .good (ts.map (Tok.shift d)) := by
  rcases lexT_cases p l with ⟨h0, h1⟩ | ⟨f, h0, h2, h1⟩ | ⟨k, m, n, h2, h3, h4, h1⟩
  · rw [h1]
    rw [lexT, h0]
    rfl
  · rw [h1]
    rw [lexT, lexQ_err h0 h2]
    simp only [Res.bad.injEq, true_and]
    omega
  · have ih := lexT_shift d (p + passN false l + m) (l.drop (passN false l + m))
    rw [h1]
    rw [lexT, lexQ_tok h4, List.drop_drop]
    have e1 : p + d + passN false l + m = p + passN false l + m + d := by omega
    rw [e1, ih]
    cases lexT (p + passN false l + m) (l.drop (passN false l + m)) with
    | bad e q => rfl
    | good ts =>
      simp only [Res.pre, List.map_append, List.map_cons, List.map_nil, Tok.shift, Res.good.injEq]
      congr 3
      omega
termination_by l.length
decreasing_by simp only [List.length_drop]; omega

/-- Names. -/
def wordB : List UInt8 → Bool
  | [] => false
  | c :: r => decide (r.length + 1 ≤ 24) && letterB c && decide (spanN nameB r = r.length)

def upperB (l : List UInt8) : Bool := wordB l && (match l with | [] => false | c :: _ => greatB c)

theorem letter_not_blank {c : UInt8} (h : letterB c = true) : blankB c = false := by
  simp only [letterB, Bool.or_eq_true, decide_eq_true_eq] at h
  simp only [blankB, Bool.or_eq_false_iff, decide_eq_false_iff_not]
  omega

theorem letter_not_slash {c : UInt8} {r : List UInt8} (h : letterB c = true) : slashes (c :: r) = false := by
  simp only [letterB, Bool.or_eq_true, decide_eq_true_eq] at h
  cases h2 : slashes (c :: r) with
  | false => rfl
  | true =>
    obtain ⟨r', hr⟩ := slashes_cons h2
    cases hr
    simp at h

theorem lexL_word {l : List UInt8} (h : wordB l = true) : lexL l = .good [⟨1, l, 0, 0⟩] := by
  cases l with
  | nil => cases h
  | cons c r =>
    simp only [wordB, Bool.and_eq_true, decide_eq_true_eq] at h
    obtain ⟨⟨h1, h2⟩, h3⟩ := h
    have ht : tokR (c :: r) = .tok 1 (r.length + 1) 0 := by simp [tokR, h2, h3, h1]
    rw [lexL, if_pos (by simp; omega), lexT_tok _ _ (passN_zero (letter_not_blank h2) (letter_not_slash h2)), lexQ_tok ht]
    rw [List.drop_eq_nil_of_le (by simp), List.take_of_length_le (by simp)]
    rfl

theorem one_word {l : List UInt8} {n p : Nat} (hl : l.length ≤ 65536) (h : lexL l = .good [⟨1, l, n, p⟩]) : wordB l = true := by
  rw [lexL, if_pos hl] at h
  rcases lexT_good h with ⟨h1, _⟩ | ⟨t, us, h1, h2, h3, h4, h5, _, h6, _⟩
  · cases h1
  · cases h1
    simp only at h3 h4 h6
    have h0 : passN false l = 0 := by omega
    rw [h0, List.drop_zero] at h6
    cases l with
    | nil => simp at h3
    | cons c r =>
      simp only [tokR] at h6
      split at h6
      · rename_i hc
        split at h6
        · simp only [TokR.tok.injEq, List.length_cons] at h6
          simp only [wordB, Bool.and_eq_true, decide_eq_true_eq]
          exact ⟨⟨by omega, hc⟩, by omega⟩
        · cases h6
      · split at h6
        · split at h6 <;> cases h6
        · split at h6 <;> cases h6

end Go.Proofs.YtggdpgaedmegbaaGreatDoor

namespace Go.Proofs.YtggdpgaedmegbaaGreatDoor
open Go.RowKit

abbrev bs (s : ByteArray) : List UInt8 := s.data.toList
/-- A piece of a text as a string. -/
def strB (l : List UInt8) : ByteArray := ⟨l.toArray⟩
theorem strB_bs (l : List UInt8) : bs (strB l) = l := by simp [bs, strB]
theorem strB_size (l : List UInt8) : (strB l).size = l.length := by rw [Lib.size_eq]; simp [strB]
theorem strB_of (s : ByteArray) : strB (bs s) = s := by cases s; simp [bs, strB]
theorem extract_strB (s : ByteArray) (a b : Nat) : s.extract a b = strB (((bs s).drop a).take (b - a)) := by
  rw [← strB_of (s.extract a b), bs, Lib.extract_data]
theorem strB_inj {a b : List UInt8} (h : strB a = strB b) : a = b := by
  have := congrArg bs h
  rwa [strB_bs, strB_bs] at this

/-- A token's cells. -/
def tokC (t : Tok) : List Value := [.int .i64 t.k, .string (strB t.text), .int .i64 t.n, .int .i64 t.pos]
def tokV (t : Tok) : Value := .agg #[.int .i64 t.k, .string (strB t.text), .int .i64 t.n, .int .i64 t.pos]
def toksC (ts : List Tok) : List Value := ts.flatMap tokC
def noTok : Tok := ⟨0, [], 0, 0⟩

theorem toksC_len (ts : List Tok) : (toksC ts).length = ts.length * 4 := by
  induction ts with
  | nil => rfl
  | cons t ts ih => rw [toksC, List.flatMap_cons, List.length_append, show (ts.flatMap tokC).length = _ from ih, List.length_cons]; simp [tokC]; omega
theorem toksC_snoc (ts : List Tok) (t : Tok) : toksC (ts ++ [t]) = toksC ts ++ tokC t := by simp [toksC]
theorem toksC_get : ∀ (ts : List Tok) (i j : Nat) (t : Tok), ts[i]? = some t → j < 4 → (toksC ts)[i * 4 + j]? = (tokC t)[j]?
  | [], i, j, t, h, _ => by simp at h
  | a :: ts, 0, j, t, h, hj => by
    simp at h
    subst h
    rw [toksC, List.flatMap_cons, List.getElem?_append_left (by simp [tokC]; omega), Nat.zero_mul, Nat.zero_add]
  | a :: ts, i + 1, j, t, h, hj => by
    rw [toksC, List.flatMap_cons, List.getElem?_append_right (by simp [tokC]; omega)]
    have e : (i + 1) * 4 + j - (tokC a).length = i * 4 + j := by simp [tokC]; omega
    rw [e]
    exact toksC_get ts i j t (by simpa using h) hj

/-- A row of tokens in the heap. -/
def ToksAt (w : World) (g : Nat) (ts : List Tok) : Prop := g < w.heap.size ∧ ∀ i t, ts[i]? = some t →
  w.cell? ⟨g, i * 4, none⟩ = some (.int .i64 t.k) ∧ w.cell? ⟨g, i * 4 + 1, none⟩ = some (.string (strB t.text)) ∧ w.cell? ⟨g, i * 4 + 2, none⟩ = some (.int .i64 t.n) ∧ w.cell? ⟨g, i * 4 + 3, none⟩ = some (.int .i64 t.pos)

theorem ToksAt.below {w w' : World} {g : Nat} {ts : List Tok} (h : ToksAt w g ts) (hb : Below w.heap.size w w') : ToksAt w' g ts :=
  ⟨Nat.lt_of_lt_of_le h.1 hb.size, fun i t ht => by
    obtain ⟨a, b, c, d⟩ := h.2 i t ht
    exact ⟨(hb.cell h.1).trans a, (hb.cell h.1).trans b, (hb.cell h.1).trans c, (hb.cell h.1).trans d⟩⟩

def resL : List (List UInt8) := [[115, 116, 114, 117, 99, 116], [101, 110, 117, 109], [99, 111], [108, 101, 116], [105, 102], [101, 108, 115, 101], [119, 104, 105, 108, 101], [109, 97, 116, 99, 104], [121, 105, 101, 108, 100], [114, 101, 116, 117, 114, 110], [112, 114, 105, 110, 116], [100, 114, 111, 112], [98, 111, 120], [117, 110, 98, 111, 120], [115, 116, 97, 114, 116], [97, 119, 97, 105, 116], [112, 111, 108, 108], [119, 97, 105, 116], [109, 117, 116], [105, 110, 116]]
def resB (l : List UInt8) : Bool := decide (l ∈ resL)
end Go.Proofs.YtggdpgaedmegbaaGreatDoor
