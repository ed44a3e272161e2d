/-
  Which sources could have been read: the plain functions. What the package variables hold. Definitions and small lemmas; no conditions.
-/
import Derived.Test.YtgogdcpgfmndnaaGreatDoorTSameA
import Derived.Lib.LaidTab
import Derived.Shelf.Strconv.Itoa3
namespace Go.Proofs.YtgogdcpgfmndnaaGreatDoor
open Go.RowKit

def signL : List (List UInt8) := [[32, 43, 32], [32, 45, 32], [32, 42, 32], [32, 60, 32], [32, 61, 61, 32]]
/-- What the package variables hold. -/
structure Vz (w : World) : Prop where
  res : ∃ t fr, w.heap[1]? = some (.cells (resL.map fun l => Value.string (strB l)).toArray t fr)
  signs : ∀ k l, signL[k]? = some l → w.cell? ⟨0, k, none⟩ = some (.string (strB l))
  pow : Lib.TabIs Tryz.prog w "internal/strconv.uint64pow10" .u64 Lib.pow10Tab
  size : 5 ≤ w.heap.size
theorem powNamed : ∃ g, Tryz.prog.globalNamed "internal/strconv.uint64pow10" = some g ∧ g < 5 := ⟨2, by kernel_rfl, by decide⟩
theorem Vz.below {w w' : World} {B : Nat} (h : Vz w) (hb : Below B w w') (hB : 5 ≤ B) : Vz w' := by
  refine ⟨?_, fun k l hk => (hb.cell (show (⟨0, k, none⟩ : Addr).block < B from by simp; omega)).trans (h.signs k l hk), ?_, Nat.le_trans h.size hb.size⟩
  · obtain ⟨t, fr, he⟩ := h.res
    exact ⟨t, fr, (hb.block 1 (by omega)).trans he⟩
  · obtain ⟨g, hg, hlt⟩ := powNamed
    have hp := h.pow
    unfold Lib.TabIs World.var? at hp ⊢
    rw [hg] at hp ⊢
    simp only [Option.bind_some] at hp ⊢
    rw [hb.block g (by omega)]
    exact hp
theorem Vz.b {w w' : World} (h : Vz w) (hb : Below w.heap.size w w') : Vz w' := h.below hb h.size

/-! ### Plain -/
def freeN (s : ByteArray) : Bool := wordB (bs s) && !resB (bs s)
def smallN (s : ByteArray) : Bool := freeN s && !upperB (bs s)
def greatN (s : ByteArray) : Bool := freeN s && upperB (bs s)
def emptyN (s : ByteArray) : Bool := decide (s = ⟨#[]⟩)
def z0 : Hd := ⟨none, 0⟩
def tyZ : Ty5 := .mk 0 ⟨#[]⟩ z0 []
def plZ : Pl5 := ⟨⟨#[]⟩, z0, []⟩
def opZ : Op5 := ⟨false, 0, plZ⟩
def rvZ : Rv5 := ⟨0, z0, [], plZ, ⟨#[]⟩, ⟨#[]⟩⟩
def stZ (k : Int) : St5 := .mk k 0 ⟨#[]⟩ tyZ plZ rvZ opZ z0 [] z0 [] z0 []
def aroundB (k : Int) : Bool := k == 4 || k == 5 || k == 6
def innerOk : Ty5 → Bool
  | .mk k nm _ l => decide (l.length = 0) && (if k = 1 then emptyN nm else if k = 2 then greatN nm else if k = 7 then smallN nm else false)
def tyOk : Nat → Ty5 → Bool
  | d, .mk k nm h l =>
    if aroundB k then
      (match d, l with
      | d + 1, [t] => emptyN nm && tyOk d t
      | _, _ => false)
    else innerOk (.mk k nm h l)
def stepOk (s : ByteArray) : Bool := emptyN s || smallN s
def plOk (p : Pl5) : Bool := smallN p.nm && p.path.all stepOk
def aloneB (p : Pl5) : Bool := smallN p.nm && decide (p.path.length = 0)
def noPl (p : Pl5) : Bool := plEq p plZ
def opOk (o : Op5) : Bool := if o.num then decide (o.n ≠ -9223372036854775808) && noPl o.p else decide (o.n = 0) && plOk o.p
def namesOk (v : Rv5) : Bool :=
  if v.k = 10 then greatN v.nm && emptyN v.vr else if v.k = 11 then greatN v.nm && greatN v.vr else if v.k = 12 then smallN v.nm && emptyN v.vr else emptyN v.nm && emptyN v.vr
def placeOk (v : Rv5) : Bool :=
  if v.k = 6 ∨ v.k = 7 then plOk v.p else if v.k = 9 ∨ v.k = 13 ∨ v.k = 14 then aloneB v.p else noPl v.p
def countOk (k : Int) (n : Nat) : Bool :=
  if k = 0 ∨ k = 8 ∨ k = 15 then decide (n = 1) else if k = 1 ∨ k = 2 ∨ k = 3 ∨ k = 4 ∨ k = 5 then decide (n = 2) else
  if k = 6 ∨ k = 7 ∨ k = 9 ∨ k = 13 ∨ k = 14 then decide (n = 0) else if k = 11 then decide (n ≤ 1) else if k = 10 ∨ k = 12 then true else false
def rvOk (v : Rv5) : Bool := namesOk v && placeOk v && v.ops.all opOk && countOk v.k v.ops.length
mutual
def stOk : Nat → St5 → Bool
  | d, .mk k pos nm ty p rv op ht th he el ha arms =>
    if k = 0 then (smallN nm && tyOk 60 ty && rvOk rv) && stEq (.mk k pos ⟨#[]⟩ tyZ p rvZ op ht th he el ha arms) (stZ k)
    else if k = 1 then (plOk p && rvOk rv) && stEq (.mk k pos nm ty plZ rvZ op ht th he el ha arms) (stZ k)
    else if k = 2 then (opOk op && (decide (d + 1 ≤ 60) && stsOk (d + 1) th) && (decide (d + 1 ≤ 60) && stsOk (d + 1) el)) && stEq (.mk k pos nm ty p rv opZ z0 [] z0 [] ha arms) (stZ k)
    else if k = 3 then (opOk op && (decide (d + 1 ≤ 60) && stsOk (d + 1) th)) && stEq (.mk k pos nm ty p rv opZ z0 [] he el ha arms) (stZ k)
    else if k = 4 then (aloneB p && armsOk (d + 1) arms) && stEq (.mk k pos nm ty plZ rv op ht th he el z0 []) (stZ k)
    else if k = 5 ∨ k = 6 ∨ k = 7 then opOk op && stEq (.mk k pos nm ty p rv opZ ht th he el ha arms) (stZ k)
    else if k = 8 then aloneB p && stEq (.mk k pos nm ty plZ rv op ht th he el ha arms) (stZ k)
    else false
def stsOk : Nat → List St5 → Bool
  | _, [] => true
  | d, s :: r => stOk d s && stsOk d r
def arOk : Nat → Ar5 → Bool
  | d, .mk vr bi _ body => greatN vr && (emptyN bi || smallN bi) && (decide (d ≤ 60) && stsOk d body)
def armsOk : Nat → List Ar5 → Bool
  | _, [] => true
  | d, a :: r => arOk d a && armsOk d r
end
def rowOk (d : Nat) (l : List St5) : Bool := decide (d ≤ 60) && l.all (stOk d)
theorem stsOk_eq (d : Nat) : ∀ l, stsOk d l = l.all (stOk d)
  | [] => by rw [stsOk]; rfl
  | s :: r => by rw [stsOk, stsOk_eq d r, List.all_cons]
theorem armsOk_eq (d : Nat) : ∀ l, armsOk d l = l.all (arOk d)
  | [] => by rw [armsOk]; rfl
  | s :: r => by rw [armsOk, armsOk_eq d r, List.all_cons]
theorem rowOk_eq (d : Nat) (l : List St5) : (decide (d ≤ 60) && stsOk d l) = rowOk d l := by rw [stsOk_eq]; rfl
def fdOk (f : Fd5) : Bool := smallN f.nm && tyOk 60 f.ty
def vaOk (f : Fd5) : Bool := greatN f.nm && (tyEq f.ty tyZ || tyOk 60 f.ty)
def suOk (s : Su5) : Bool := greatN s.nm && s.fields.all fdOk
def enOk (s : En5) : Bool := greatN s.nm && s.vars.all vaOk
def fnOk (s : Fn5) : Bool := smallN s.nm && s.params.all fdOk && rowOk 1 s.body
def soOk (s : So5) : Bool := s.structs.all suOk && s.enums.all enOk && s.fns.all fnOk
end Go.Proofs.YtgogdcpgfmndnaaGreatDoor
