/-
  Several texts of the proof in one: MBase, MFind, MSpan, MOps, MAlloc, MAllocN, MRow, MStore, MCalls, MFree, MCopy, MGen. No conditions of their own: each lemma states its own.
-/
import Derived.Test.YtgpkhdccchpljaaDoorRows
import Derived.WalkKit
import Derived.WalkSpells
import Derived.WalkLawsBesides
import Derived.Deep.QuietTactic
import Derived.BigQuiet
import Derived.Handy
import Derived.Maps.OwnSet
import Derived.Lib.Hide
namespace Go.Proofs.YtgpkhdccchpljaaDoor.M
open Go.RowKit

/-- a word that may be stored -/
structure Wd where
  p : Bool
  a : Int
  n : Int
  deriving DecidableEq

/-- a word's room: none where nothing is stored -/
abbrev Cl := Option Wd

def Wd.val (x : Wd) : Value := .agg #[.bool x.p, .int .i64 x.a, .int .i64 x.n]
def cv : Cl → List Value
  | none => [.bool false, .int .i64 0, .int .i64 0, .bool false]
  | some x => [.bool x.p, .int .i64 x.a, .int .i64 x.n, .bool true]
def rowv (l : List Cl) : List Value := l.flatMap cv

theorem cv_length (c : Cl) : (cv c).length = 4 := by cases c <;> rfl
theorem rowv_length (l : List Cl) : (rowv l).length = 4 * l.length := by
  induction l with
  | nil => rfl
  | cons c l ih => simp only [rowv, List.flatMap_cons, List.length_append, cv_length, List.length_cons] at ih ⊢; omega

theorem rowv_append (l m : List Cl) : rowv (l ++ m) = rowv l ++ rowv m := by simp [rowv]

theorem rowv_get (l : List Cl) : ∀ (i j : Nat) (c : Cl), l[i]? = some c → j < 4 → (rowv l)[4 * i + j]? = (cv c)[j]? := by
  induction l with
  | nil => intro i j c h; simp at h
  | cons x l ih =>
    intro i j c h hj
    have e : rowv (x :: l) = cv x ++ rowv l := rfl
    cases i with
    | zero =>
      simp at h
      subst h
      rw [e, List.getElem?_append_left (by rw [cv_length]; omega)]
      simp
    | succ i =>
      simp at h
      rw [e, List.getElem?_append_right (by rw [cv_length]; omega), cv_length]
      have := ih i j c h hj
      rw [show 4 * (i + 1) + j - 4 = 4 * i + j from by omega]
      exact this

/-- what there is: its room; of each allocation, in order, what it holds (none: freed) -/
structure MS where
  room : Int
  blocks : List (Option (List Cl))

def szO : Option (List Cl) → Nat
  | none => 0
  | some l => l.length
def MS.words (S : MS) : Nat := (S.blocks.map szO).sum
def MS.live (S : MS) : Nat := (S.blocks.filter Option.isSome).length
def MS.at (S : MS) (k : Nat) : Option (List Cl) := (S.blocks[k]?).getD none

def key (k : Nat) : Lit := .int .i64 ((k : Int) + 1)

/-- how a slice of words reads as an element of the map: by its block and its length -/
def locd (b n : Nat) : DataW Unit := .agg [.lit (.int .i64 b), .lit (.int .i64 n)]
def locElem : Value → Option (DataW Unit × List MemPlace)
  | .slice none 0 0 => some (.nil, [])
  | .slice (some ⟨b, 0, none⟩) n c => if c = n then some (locd b n, []) else none
  | _ => none

theorem locElem_mk (b n : Nat) : locElem (.slice (some ⟨b, 0, none⟩) n n) = some (locd b n, []) := by simp [locElem]
theorem locElem_inv {v : Value} {b n : Nat} {ps : List MemPlace} (h : locElem v = some (locd b n, ps)) : v = .slice (some ⟨b, 0, none⟩) n n := by
  unfold locElem at h
  split at h
  · simp [locd] at h
  · split at h
    · rename_i hc
      subst hc
      simp [locd] at h
      obtain ⟨⟨h1, h2⟩, _⟩ := h
      rw [Int.ofNat_inj.1 h1, Int.ofNat_inj.1 h2]
    · cases h
  · cases h

theorem keyLaw : Maps.Keyed Tryd.prog 3 := Maps.int_keyed Tryd.underlying3
theorem key_ne {j k : Nat} (h : j ≠ k) : key j ≠ key k := by
  intro e
  simp only [key, Lit.int.injEq, true_and] at e
  omega
theorem keyOf_key {k : Nat} (h : k < 1000000) : keyOf Tryd.prog 3 (.int .i64 ((k : Int) + 1)) = some (key k) :=
  Maps.keyOf_int_mk Tryd.underlying3 (WalkArith.wf_i64 (by omega))
theorem key_lit (k : Nat) : WideAt.IsKeyLit (key k) := trivial
theorem zero64 (w : World) : (zeroValue 107).run Tryd.prog w = .ok (.slice none 0 0) w := by kernel_rfl

def memObj (room words made : Int) (lm : Option Nat) : Obj := .cells #[.int .i64 room, .int .i64 words, .int .i64 made, .map lm] 96

/-- the map from numbers to what they hold: D reads as S tells -/
structure MapIs (S : MS) (loc : Nat → Nat) (D : DataW Unit) : Prop where
  size : Maps.size D = S.live
  some : ∀ k l, S.at k = some l → Maps.has D (key k) = true ∧ ∀ z, D.atKey (key k) z = locd (loc k) l.length
  none : ∀ k, S.at k = none → Maps.has D (key k) = false

structure RepAt (w : World) (mb : Nat) (lm : Option Nat) (loc : Nat → Nat) (S : MS) : Prop where
  obj : w.heap[mb]? = some (memObj S.room S.words S.blocks.length lm)
  room0 : 0 ≤ S.room
  room1 : S.room ≤ 1048576
  words : (S.words : Int) ≤ S.room
  made : S.blocks.length < 1000000
  nomap : lm = .none → S.blocks = []
  map : ∀ lb, lm = .some lb → ∃ D, w.ownsMap Tryd.prog 3 locElem lb S.blocks.length D ∧ MapIs S loc D
  blk : ∀ k l, S.at k = .some l → w.heap[loc k]? = .some (.cells (rowv l).toArray 126)
  inj : ∀ j k l l', S.at j = .some l → S.at k = .some l' → loc j = loc k → j = k

/-- the blocks that it is made of -/
def Owned (mb : Nat) (lm : Option Nat) (loc : Nat → Nat) (S : MS) (b : Nat) : Prop := b = mb ∨ lm = some b ∨ ∃ k l, S.at k = some l ∧ b = loc k

theorem RepAt.keep {w w' : World} {mb : Nat} {lm : Option Nat} {loc : Nat → Nat} {S : MS} (h : RepAt w mb lm loc S) (hk : ∀ b, Owned mb lm loc S b → w'.heap[b]? = w.heap[b]?) : RepAt w' mb lm loc S := by
  refine ⟨(hk _ (.inl rfl)).trans h.obj, h.room0, h.room1, h.words, h.made, h.nomap, ?_, ?_, h.inj⟩
  · intro lb hlb
    obtain ⟨D, ⟨es, clock, hb, r⟩, hD⟩ := h.map lb hlb
    exact ⟨D, ⟨es, clock, (hk _ (.inr (.inl hlb))).trans hb, r⟩, hD⟩
  · intro k l hl
    exact (hk _ (.inr (.inr ⟨k, l, hl, rfl⟩))).trans (h.blk k l hl)

theorem RepAt.lt {w : World} {mb : Nat} {lm : Option Nat} {loc : Nat → Nat} {S : MS} (h : RepAt w mb lm loc S) (b : Nat) (ho : Owned mb lm loc S b) : b < w.heap.size := by
  rcases ho with rfl | hl | ⟨k, l, hl, rfl⟩
  · exact (Array.getElem?_eq_some_iff.1 h.obj).1
  · obtain ⟨D, hD, _⟩ := h.map b hl
    exact hD.lt
  · exact (Array.getElem?_eq_some_iff.1 (h.blk k l hl)).1

/-- Only blocks of O, and new ones, are other than they were. -/
structure Kept (O : Nat → Prop) (w w' : World) : Prop where
  os : w'.os = w.os
  tape : w'.tape = w.tape
  output : w'.output = w.output
  size : w.heap.size ≤ w'.heap.size
  block : ∀ b, b < w.heap.size → ¬ O b → w'.heap[b]? = w.heap[b]?

theorem Kept.of_below {O : Nat → Prop} {w w' : World} (h : Below w.heap.size w w') : Kept O w w' := ⟨h.os, h.tape, h.output, h.size, fun b hb _ => h.block b hb⟩
theorem Kept.refl (O : Nat → Prop) (w : World) : Kept O w w := ⟨rfl, rfl, rfl, Nat.le_refl _, fun _ _ _ => rfl⟩

/-- A memory lies at mb, within the blocks O. -/
def Rep (w : World) (mb : Nat) (O : Nat → Prop) (S : MS) : Prop := ∃ lm loc, RepAt w mb lm loc S ∧ ∀ b, Owned mb lm loc S b → O b

theorem Rep.keep {w w' : World} {mb : Nat} {O : Nat → Prop} {S : MS} (h : Rep w mb O S) (hk : ∀ b, b < w.heap.size → O b → w'.heap[b]? = w.heap[b]?) : Rep w' mb O S := by
  obtain ⟨lm, loc, h, ho⟩ := h
  exact ⟨lm, loc, h.keep fun b hb => hk b (h.lt b hb) (ho b hb), ho⟩
theorem Rep.below {w w' : World} {mb : Nat} {O : Nat → Prop} {S : MS} (h : Rep w mb O S) (hb : Below w.heap.size w w') : Rep w' mb O S := h.keep fun b hl _ => hb.block b hl

end Go.Proofs.YtgpkhdccchpljaaDoor.M

namespace Go.Proofs.YtgpkhdccchpljaaDoor.M
open Go.RowKit

theorem below_drewN {B : Nat} {w w' : World} (h : Below B w w') (n : Nat) : Below B w (w'.drewN n) := h.trans ⟨rfl, rfl, rfl, Nat.le_refl _, fun _ _ => rfl⟩
theorem below_box (w : World) (c : Array Value) (t : TypeId) (n : Nat) : Below w.heap.size w ((w.alloc (.cells c t)).drewN n) := below_drewN ((Below.refl _ _).alloc (Nat.le_refl _) _) n
theorem heap_box {w : World} (c : Array Value) (t : TypeId) (n b : Nat) (h : b < w.heap.size) : ((w.alloc (.cells c t)).drewN n).heap[b]? = w.heap[b]? := (below_box w c t n).block b h

theorem obj_cells {w : World} {mb : Nat} {r q m : Int} {lm : Option Nat} (h : w.heap[mb]? = some (memObj r q m lm)) :
    w.cell? ⟨mb, 0, none⟩ = some (.int .i64 r) ∧ w.cell? ⟨mb, 1, none⟩ = some (.int .i64 q) ∧ w.cell? ⟨mb, 2, none⟩ = some (.int .i64 m) ∧ w.cell? ⟨mb, 3, none⟩ = some (.map lm) := by
  refine ⟨?_, ?_, ?_, ?_⟩ <;> simp [World.cell?, h, memObj]

set_option maxHeartbeats 400000 in
theorem find_kind (mb : Nat) (a n : Int) (w : World) :
    Calls Tryd.prog 47 #[.pointer (some ⟨mb, 0, none⟩), .agg #[.bool false, .int .i64 a, .int .i64 n]] w fun e w' => e = .returned (.tuple #[.slice none 0 0, .int .i64 11]) ∧ Below w.heap.size w w' := by
  go_enter Tryd.func47, Tryd.ntmps47
  go_wp2
  go_returns
  exact ⟨rfl, by go_grown⟩

set_option maxHeartbeats 400000 in
theorem find_low (mb : Nat) (a n : Int) (w : World) (ha : a < 1) :
    Calls Tryd.prog 47 #[.pointer (some ⟨mb, 0, none⟩), .agg #[.bool true, .int .i64 a, .int .i64 n]] w fun e w' => e = .returned (.tuple #[.slice none 0 0, .int .i64 13]) ∧ Below w.heap.size w w' := by
  have hd : decide (a < 1) = true := by simpa using ha
  go_enter Tryd.func47, Tryd.ntmps47
  go_wp2
  go_quiet (fail)
  go_wp2
  go_returns
  exact ⟨rfl, below_box _ _ _ _⟩

set_option maxHeartbeats 400000 in
theorem find_high (mb : Nat) (a n m : Int) (w : World) (c2 : w.cell? ⟨mb, 2, none⟩ = some (.int .i64 m)) (hmb : mb < w.heap.size) (ha : 1 ≤ a) (hm : m < a) :
    Calls Tryd.prog 47 #[.pointer (some ⟨mb, 0, none⟩), .agg #[.bool true, .int .i64 a, .int .i64 n]] w fun e w' => e = .returned (.tuple #[.slice none 0 0, .int .i64 13]) ∧ Below w.heap.size w w' := by
  have hd : decide (a < 1) = false := by simpa using ha
  have hd2 : decide (m < a) = true := by simpa using hm
  go_enter Tryd.func47, Tryd.ntmps47
  go_wp2
  go_quiet (fail)
  go_wp2
  go_returns
  exact ⟨rfl, below_box _ _ _ _⟩

set_option maxHeartbeats 400000 in
theorem find_look (mb lb : Nat) (a n m : Int) (w : World) (v : Value) (ok : Bool) (c2 : w.cell? ⟨mb, 2, none⟩ = some (.int .i64 m)) (c3 : w.cell? ⟨mb, 3, none⟩ = some (.map (some lb))) (hmb : mb < w.heap.size) (ha : 1 ≤ a) (hm : a ≤ m) 
    (hlb : lb < w.heap.size) (hlook : ∀ w' : World, w'.heap[lb]? = w.heap[lb]? → (Instr.lookup 94 (.map (some lb)) (.int .i64 a) true).run Tryd.prog w' = .ok (.tuple #[v, .bool ok]) w') :
    Calls Tryd.prog 47 #[.pointer (some ⟨mb, 0, none⟩), .agg #[.bool true, .int .i64 a, .int .i64 n]] w fun e w' => e = .returned (if ok then .tuple #[v, .int .i64 0] else .tuple #[.slice none 0 0, .int .i64 12]) ∧ Below w.heap.size w w' := by
  have hd : decide (a < 1) = false := by simpa using ha
  have hd2 : decide (m < a) = false := by simpa using hm
  have hl := fun k => hlook ((w.alloc (.cells #[.bool true, .int .i64 a, .int .i64 n] 38)).drewN k) (by
    exact heap_box _ _ _ _ hlb)
  clear hlook
  cases ok
  all_goals
    go_enter Tryd.func47, Tryd.ntmps47
    go_wp2
    go_quiet (fail)
    go_wp2
    go_quiet (fail)
    go_wp2
    go_returns
    exact ⟨rfl, below_box _ _ _ _⟩

theorem locElem_nil {v : Value} {ps : List MemPlace} (h : locElem v = some (.nil, ps)) : v = .slice none 0 0 := by
  unfold locElem at h
  split at h
  · rfl
  · split at h
    · simp [locd] at h
    · cases h
  · cases h

def findE (S : MS) (b : Bool) (a : Int) : Int :=
  if b = false then 11 else if a < 1 ∨ (S.blocks.length : Int) < a then 13 else match S.at (a - 1).toNat with | none => 12 | some _ => 0

theorem at_lt {S : MS} {k : Nat} {l : List Cl} (h : S.at k = some l) : k < S.blocks.length := by
  unfold MS.at at h
  by_cases hk : k < S.blocks.length
  · exact hk
  · rw [List.getElem?_eq_none (by omega)] at h
    cases h

theorem find_ok {w : World} {mb : Nat} {lm : Option Nat} {loc : Nat → Nat} {S : MS} (R : RepAt w mb lm loc S) (k : Nat) (l : List Cl) (hl : S.at k = some l) (n : Int) :
    Calls Tryd.prog 47 #[.pointer (some ⟨mb, 0, none⟩), .agg #[.bool true, .int .i64 ((k : Int) + 1), .int .i64 n]] w fun e w' =>
      e = .returned (.tuple #[.slice (some ⟨loc k, 0, none⟩) l.length l.length, .int .i64 0]) ∧ Below w.heap.size w w' := by
  have hk := at_lt hl
  have hmade := R.made
  obtain ⟨c0, c1, c2, c3⟩ := obj_cells R.obj
  have hmb := R.lt mb (.inl rfl)
  cases lm with
  | none => rw [R.nomap rfl] at hk; simp at hk
  | some lb =>
    obtain ⟨D, hD, hM⟩ := R.map lb rfl
    obtain ⟨h1, h2⟩ := hM.some k l hl
    refine (find_look mb lb _ n _ w (.slice (some ⟨loc k, 0, none⟩) l.length l.length) true c2 c3 hmb (by omega) (by omega) hD.lt fun w' hw' => ?_).mono ?_
    · obtain ⟨es, clock, hb, r⟩ := hD
      have hD' : w'.ownsMap Tryd.prog 3 locElem lb S.blocks.length D := ⟨es, clock, hw'.trans hb, r⟩
      obtain ⟨v, ps, hrun, hv⟩ := hD'.look_ok keyLaw Tryd.underlying94 (zero64 w') (zd := .nil) (zp := []) rfl (keyOf_key (by omega : k < 1000000))
      rw [h2] at hv
      rw [locElem_inv hv, h1] at hrun
      exact hrun
    · rintro e w' ⟨rfl, hb⟩
      exact ⟨rfl, hb⟩

theorem find_err {w : World} {mb : Nat} {lm : Option Nat} {loc : Nat → Nat} {S : MS} (R : RepAt w mb lm loc S) (b : Bool) (a n er : Int) (he : findE S b a = er) (hne : er ≠ 0) :
    Calls Tryd.prog 47 #[.pointer (some ⟨mb, 0, none⟩), .agg #[.bool b, .int .i64 a, .int .i64 n]] w fun e w' =>
      e = .returned (.tuple #[.slice none 0 0, .int .i64 er]) ∧ Below w.heap.size w w' := by
  have hmade := R.made
  obtain ⟨c0, c1, c2, c3⟩ := obj_cells R.obj
  have hmb := R.lt mb (.inl rfl)
  unfold findE at he
  cases b with
  | false =>
    simp at he
    subst he
    exact find_kind mb a n w
  | true =>
    rw [if_neg (by simp)] at he
    by_cases h1 : a < 1
    · rw [if_pos (.inl h1)] at he
      subst he
      exact find_low mb a n w h1
    · by_cases h2 : (S.blocks.length : Int) < a
      · rw [if_pos (.inr h2)] at he
        subst he
        exact find_high mb a n _ w c2 hmb (by omega) h2
      · rw [if_neg (by omega)] at he
        cases hat : S.at (a - 1).toNat with
        | some l => rw [hat] at he; exact absurd he.symm hne
        | none =>
          rw [hat] at he
          subst he
          cases lm with
          | none => rw [R.nomap rfl] at h2; simp at h2; omega
          | some lb =>
            obtain ⟨D, hD, hM⟩ := R.map lb rfl
            have hh := hM.none _ hat
            have hka : ((a - 1).toNat : Int) + 1 = a := by omega
            have hkey := keyOf_key (by omega : (a - 1).toNat < 1000000)
            rw [hka] at hkey
            obtain ⟨es, clock, hb, r⟩ := hD
            have hlk : ∃ v, ∀ w' : World, w'.heap[lb]? = w.heap[lb]? → (Instr.lookup 94 (.map (some lb)) (.int .i64 a) true).run Tryd.prog w' = .ok (.tuple #[v, .bool false]) w' := by
              refine ⟨.slice none 0 0, fun w' hw' => ?_⟩
              have hD' : w'.ownsMap Tryd.prog 3 locElem lb S.blocks.length D := ⟨es, clock, hw'.trans hb, r⟩
              obtain ⟨v, ps, hrun, hv⟩ := hD'.look_ok keyLaw Tryd.underlying94 (zero64 w') (zd := .nil) (zp := []) rfl hkey
              rw [hh] at hrun
              rw [Maps.atKey_of_not_has hh] at hv
              rw [locElem_nil hv] at hrun
              exact hrun
            obtain ⟨v, hlk⟩ := hlk
            refine (find_look mb lb a n _ w v false c2 c3 hmb (by omega) (by omega) (World.ownsMap.lt ⟨es, clock, hb, r⟩) hlk).mono ?_
            rintro e w' ⟨rfl, hb⟩
            exact ⟨rfl, hb⟩
end Go.Proofs.YtgpkhdccchpljaaDoor.M

namespace Go.Proofs.YtgpkhdccchpljaaDoor.M
open Go.RowKit

theorem RepAt.alloc {w : World} {mb : Nat} {lm : Option Nat} {loc : Nat → Nat} {S : MS} (R : RepAt w mb lm loc S) (o : Obj) : RepAt (w.alloc o) mb lm loc S :=
  R.keep fun b hb => Below.heap_alloc w o b (R.lt b hb)
theorem RepAt.below {w w' : World} {mb : Nat} {lm : Option Nat} {loc : Nat → Nat} {S : MS} (R : RepAt w mb lm loc S) (h : Below w.heap.size w w') : RepAt w' mb lm loc S :=
  R.keep fun b hb => h.block b (R.lt b hb)
theorem alloc_cell (w : World) (c : Array Value) (t : TypeId) (j : Nat) (v : Value) (hv : c[j]? = some v) : (w.alloc (.cells c t)).cell? ⟨w.heap.size, j, none⟩ = some v := by
  simp only [World.cell?]
  rw [heap_alloc_new]
  simpa using hv
theorem box_cell {w w1 : World} {c : Array Value} {t : TypeId} (hb : Below (w.alloc (.cells c t)).heap.size (w.alloc (.cells c t)) w1) (j : Nat) (v : Value) (hv : c[j]? = some v) : w1.cell? ⟨w.heap.size, j, none⟩ = some v :=
  (hb.cell (p := ⟨w.heap.size, j, none⟩) (by simp)).trans (alloc_cell w c t j v hv)
theorem box_below {w w1 : World} {o : Obj} (hb : Below (w.alloc o).heap.size (w.alloc o) w1) : Below w.heap.size w w1 :=
  ((Below.refl _ _).alloc (Nat.le_refl _) _).trans (hb.mono (by simp))

set_option maxHeartbeats 400000 in
theorem span_err {w : World} {mb : Nat} {lm : Option Nat} {loc : Nat → Nat} {S : MS} (R : RepAt w mb lm loc S) (b : Bool) (a n c er : Int) (he : findE S b a = er) (hne : er ≠ 0) :
    Calls Tryd.prog 76 #[.pointer (some ⟨mb, 0, none⟩), .agg #[.bool b, .int .i64 a, .int .i64 n], .int .i64 c] w fun e w' =>
      e = .returned (.tuple #[.slice none 0 0, .int .i64 er]) ∧ Below w.heap.size w w' := by
  have hd : (er == 0) = false := by simpa using hne
  have hd' : (er != 0) = true := by simpa using hne
  go_enter Tryd.func76, Tryd.ntmps76
  go_wp2_with fail
  refine (find_err (R.alloc _) b a n er he hne).mono ?_
  rintro e w1 ⟨rfl, hb⟩
  go_wp2
  go_returns
  exact ⟨rfl, box_below hb⟩

/-- what span hands back -/
def SpanIs (loc : Nat → Nat) (k n c len : Nat) (e : Ending) : Prop := ∃ ad, e = .returned (.tuple #[.slice (some ad) c (len - n), .int .i64 0]) ∧ (0 < c → ad = ⟨loc k, n * 4, none⟩)

set_option maxHeartbeats 400000 in
theorem span_ok {w : World} {mb : Nat} {lm : Option Nat} {loc : Nat → Nat} {S : MS} (R : RepAt w mb lm loc S) (k : Nat) (l : List Cl) (hl : S.at k = some l) (n c : Nat) (hnc : n + c ≤ l.length) (hll : l.length ≤ 1048576) :
    Calls Tryd.prog 76 #[.pointer (some ⟨mb, 0, none⟩), .agg #[.bool true, .int .i64 ((k : Int) + 1), .int .i64 (n : Int)], .int .i64 (c : Int)] w fun e w' =>
      SpanIs loc k n c l.length e ∧ Below w.heap.size w w' := by
  have hd : decide ((n : Int) < 0) = false := by simp
  have hd' : decide ((l.length : Int) - n < c) = false := by simp; omega
  go_enter Tryd.func76, Tryd.ntmps76
  go_wp2_with fail
  refine (find_ok (R.alloc _) k l hl n).mono ?_
  rintro e w1 ⟨rfl, hb⟩
  have q2 := box_cell hb 2 _ rfl
  go_wp2
  · go_returns
    exact ⟨⟨⟨loc k, 0, none⟩, by simp, fun h => by omega⟩, box_below hb⟩
  · go_returns
    exact ⟨⟨⟨loc k, n * 4, none⟩, by simp, fun _ => rfl⟩, box_below hb⟩

set_option maxHeartbeats 400000 in
theorem span_range {w : World} {mb : Nat} {lm : Option Nat} {loc : Nat → Nat} {S : MS} (R : RepAt w mb lm loc S) (k : Nat) (l : List Cl) (hl : S.at k = some l) (n c : Int) (hnc : n < 0 ∨ (l.length : Int) < n + c) (hll : l.length ≤ 1048576)
    (_hn : n ≤ 9223372036854775807) :
    Calls Tryd.prog 76 #[.pointer (some ⟨mb, 0, none⟩), .agg #[.bool true, .int .i64 ((k : Int) + 1), .int .i64 n], .int .i64 c] w fun e w' =>
      e = .returned (.tuple #[.slice none 0 0, .int .i64 13]) ∧ Below w.heap.size w w' := by
  by_cases h0 : n < 0
  · have hd : decide (n < 0) = true := by simpa using h0
    go_enter Tryd.func76, Tryd.ntmps76
    go_wp2_with fail
    refine (find_ok (R.alloc _) k l hl n).mono ?_
    rintro e w1 ⟨rfl, hb⟩
    have q2 := box_cell hb 2 _ rfl
    go_wp2
    go_returns
    exact ⟨rfl, box_below hb⟩
  · have hd : decide (n < 0) = false := by simpa using h0
    have hd' : decide ((l.length : Int) - n < c) = true := by simp; omega
    go_enter Tryd.func76, Tryd.ntmps76
    go_wp2_with fail
    refine (find_ok (R.alloc _) k l hl n).mono ?_
    rintro e w1 ⟨rfl, hb⟩
    have q2 := box_cell hb 2 _ rfl
    go_wp2
    go_returns
    exact ⟨rfl, box_below hb⟩

def scanE : List Cl → Nat → Int
  | _, 0 => 0
  | [], _ + 1 => 13
  | none :: _, _ + 1 => 14
  | some _ :: l, c + 1 => scanE l c

theorem scanE_drop (l : List Cl) (n c i : Nat) (hi : i < c) : scanE (l.drop (n + i)) (c - i) = match l[n + i]? with | none => 13 | some none => 14 | some (some _) => scanE (l.drop (n + (i + 1))) (c - (i + 1)) := by
  obtain ⟨m, hm⟩ : ∃ m, c - i = m + 1 := ⟨c - i - 1, by omega⟩
  rw [hm, show c - (i + 1) = m from by omega]
  by_cases hl : n + i < l.length
  · rw [List.drop_eq_getElem_cons hl, List.getElem?_eq_getElem hl]
    cases l[n + i] <;> rfl
  · rw [List.drop_eq_nil_of_le (by omega), List.getElem?_eq_none (by omega)]
    rfl

theorem row_cell {w : World} {b : Nat} {l : List Cl} (h : w.heap[b]? = some (.cells (rowv l).toArray 126)) (i j : Nat) (c : Cl) (hc : l[i]? = some c) (hj : j < 4) (v : Value) (hv : (cv c)[j]? = some v) (o : Nat) (ho : o = 4 * i + j) : w.cell? ⟨b, o, none⟩ = some v := by
  subst ho
  simp only [World.cell?, h]
  simp [rowv_get l i j c hc hj, hv]

set_option maxHeartbeats 400000 in
theorem stored_zero (mb : Nat) (b : Bool) (a n : Int) (w : World) :
    Calls Tryd.prog 66 #[.pointer (some ⟨mb, 0, none⟩), .agg #[.bool b, .int .i64 a, .int .i64 n], .int .i64 0] w fun e w' =>
      e = .returned (.tuple #[.slice none 0 0, .int .i64 0]) ∧ Below w.heap.size w w' := by
  go_enter Tryd.func66, Tryd.ntmps66
  go_wp2
  go_returns
  exact ⟨rfl, by go_grown⟩

set_option maxHeartbeats 400000 in
theorem stored_err {w : World} {mb : Nat} {lm : Option Nat} {loc : Nat → Nat} {S : MS} (R : RepAt w mb lm loc S) (b : Bool) (a n c er : Int) (he : findE S b a = er) (hne : er ≠ 0) (hc : c ≠ 0) :
    Calls Tryd.prog 66 #[.pointer (some ⟨mb, 0, none⟩), .agg #[.bool b, .int .i64 a, .int .i64 n], .int .i64 c] w fun e w' =>
      e = .returned (.tuple #[.slice none 0 0, .int .i64 er]) ∧ Below w.heap.size w w' := by
  have hd : (er == 0) = false := by simpa using hne
  have hd' : (er != 0) = true := by simpa using hne
  have hd2 : (c == 0) = false := by simpa using hc
  go_enter Tryd.func66, Tryd.ntmps66
  go_wp2_with fail
  refine (find_err (R.alloc _) b a n er he hne).mono ?_
  rintro e w1 ⟨rfl, hb⟩
  go_wp2
  go_returns
  exact ⟨rfl, box_below hb⟩

set_option maxHeartbeats 400000 in
theorem stored_range {w : World} {mb : Nat} {lm : Option Nat} {loc : Nat → Nat} {S : MS} (R : RepAt w mb lm loc S) (k : Nat) (l : List Cl) (hl : S.at k = some l) (n c : Int) (hn : n < 0 ∨ (l.length : Int) ≤ n) (hc : c ≠ 0) :
    Calls Tryd.prog 66 #[.pointer (some ⟨mb, 0, none⟩), .agg #[.bool true, .int .i64 ((k : Int) + 1), .int .i64 n], .int .i64 c] w fun e w' =>
      e = .returned (.tuple #[.slice none 0 0, .int .i64 13]) ∧ Below w.heap.size w w' := by
  have hd2 : (c == 0) = false := by simpa using hc
  by_cases h0 : n < 0
  · have hd : decide (n < 0) = true := by simpa using h0
    go_enter Tryd.func66, Tryd.ntmps66
    go_wp2_with fail
    refine (find_ok (R.alloc _) k l hl n).mono ?_
    rintro e w1 ⟨rfl, hb⟩
    have q2 := box_cell hb 2 _ rfl
    go_wp2
    go_returns
    exact ⟨rfl, box_below hb⟩
  · have hd : decide (n < 0) = false := by simpa using h0
    have hd' : decide ((l.length : Int) ≤ n) = true := by simp; omega
    go_enter Tryd.func66, Tryd.ntmps66
    go_wp2_with fail
    refine (find_ok (R.alloc _) k l hl n).mono ?_
    rintro e w1 ⟨rfl, hb⟩
    have q2 := box_cell hb 2 _ rfl
    go_wp2
    go_returns
    exact ⟨rfl, box_below hb⟩

/-- what stored hands back -/
def StoredIs (loc : Nat → Nat) (k n c len : Nat) (er : Int) (e : Ending) : Prop :=
  e = .returned (if er = 0 then .tuple #[.slice (some ⟨loc k, n * 4, none⟩) c (len - n), .int .i64 0] else .tuple #[.slice none 0 0, .int .i64 er])

theorem StoredIs.ok {loc : Nat → Nat} {k n c len : Nat} {er : Int} (h : er = 0) : StoredIs loc k n c len er (.returned (.tuple #[.slice (some ⟨loc k, n * 4, none⟩) c (len - n), .int .i64 0])) := by
  subst h; rfl
theorem StoredIs.err {loc : Nat → Nat} {k n c len : Nat} {er e0 : Int} (h : er = e0) (hne : e0 ≠ 0) : StoredIs loc k n c len er (.returned (.tuple #[.slice none 0 0, .int .i64 e0])) := by
  subst h; unfold StoredIs; rw [if_neg hne]

set_option maxHeartbeats 400000 in
theorem stored_scan {w : World} {mb : Nat} {lm : Option Nat} {loc : Nat → Nat} {S : MS} (R : RepAt w mb lm loc S) (k : Nat) (l : List Cl) (hl : S.at k = some l) (n c : Nat) (hn : n < l.length) (hc : 0 < c) (hc' : c < 9223372036854775807) (_hll : l.length ≤ 1048576) :
    Calls Tryd.prog 66 #[.pointer (some ⟨mb, 0, none⟩), .agg #[.bool true, .int .i64 ((k : Int) + 1), .int .i64 (n : Int)], .int .i64 (c : Int)] w fun e w' =>
      StoredIs loc k n c l.length (scanE (l.drop n) c) e ∧ Below w.heap.size w w' := by
  have hd2 : ((c : Int) == 0) = false := by simp; omega
  have hd : decide ((n : Int) < 0) = false := by simp
  have hd' : decide ((l.length : Int) ≤ n) = false := by simp; omega
  have hcap : ¬ l.length = n := by omega
  go_enter Tryd.func66, Tryd.ntmps66
  go_wp2_with fail
  refine (find_ok (R.alloc _) k l hl n).mono ?_
  rintro e w1 ⟨rfl, hb⟩
  have hrow := ((R.alloc _).below hb).blk k l hl
  have q2 := box_cell hb 2 _ rfl
  have HR := Lib.hid hrow
  clear hrow
  go_wp2
  go_loop [10, 37] (fun _ i => ∃ j : Nat, j ≤ c ∧ n + j ≤ l.length ∧ i = .int .i64 j ∧ scanE (l.drop n) c = scanE (l.drop (n + j)) (c - j)) (fun _ i => c - (intOf i).toNat)
  case atStart => exact ⟨0, by omega, by omega, rfl, rfl⟩
  case round =>
    obtain ⟨j, hj, hjn, rfl, hs⟩ := hrel
    have HS := Lib.hid hs
    clear hs
    by_cases hjc : j < c
    · have t1 : decide ((j : Int) < c) = true := by simpa using hjc
      have HD := Lib.hid (scanE_drop l n c j hjc)
      by_cases hjm : n + j < l.length
      · have t2 : ((j : Int) == ((l.length - n : Nat) : Int)) = false := by simp; omega
        have t3 : (j : Int) < ((l.length - n : Nat) : Int) := by omega
        have t3' : j < l.length - n := by omega
        obtain ⟨x, hx⟩ : ∃ x, l[n + j]? = some x := ⟨_, List.getElem?_eq_getElem hjm⟩
        have HX := Lib.hid hx
        clear hx
        cases x with
        | none =>
          have q3 := row_cell HR.out (n + j) 3 _ HX.out (by omega) (.bool false) rfl (n * 4 + j * 4 + 3) (by omega)
          go_wp2
          go_returns
          refine ⟨StoredIs.err ?_ (by decide), box_below hb⟩
          rw [HS.out, HD.out, HX.out]
        | some x =>
          have q3 := row_cell HR.out (n + j) 3 _ HX.out (by omega) (.bool true) rfl (n * 4 + j * 4 + 3) (by omega)
          go_wp2
          go_round
          case rel => exact ⟨j + 1, by omega, by omega, by go_num, by rw [HS.out, HD.out, HX.out]⟩
          case measure => simp [intOf]; omega
      · have t2 : ((j : Int) == ((l.length - n : Nat) : Int)) = true := by simp; omega
        go_wp2
        go_returns
        refine ⟨StoredIs.err ?_ (by decide), box_below hb⟩
        rw [HS.out, HD.out, List.getElem?_eq_none (by omega)]
    · have t1 : decide ((j : Int) < c) = false := by simpa using hjc
      go_wp2
      go_returns
      refine ⟨StoredIs.ok ?_, box_below hb⟩
      rw [HS.out, show c - j = 0 by omega]
      cases List.drop (n + j) l <;> rfl
end Go.Proofs.YtgpkhdccchpljaaDoor.M

namespace Go.Proofs.YtgpkhdccchpljaaDoor.M
open Go.RowKit

theorem sum_get : ∀ (bs : List (Option (List Cl))) (k : Nat) (o : Option (List Cl)), bs[k]? = some o → szO o ≤ (bs.map szO).sum
  | [], _, _, h => by simp at h
  | x :: bs, 0, o, h => by simp at h; subst h; simp
  | x :: bs, k + 1, o, h => by
    have := sum_get bs k o (by simpa using h)
    simp only [List.map_cons, List.sum_cons]; omega

theorem at_some {S : MS} {k : Nat} {l : List Cl} (h : S.at k = some l) : S.blocks[k]? = some (some l) := by
  unfold MS.at at h
  cases hb : S.blocks[k]? with
  | none => rw [hb] at h; cases h
  | some o => rw [hb] at h; simp at h; rw [h]

theorem at_len {S : MS} {k : Nat} {l : List Cl} (h : S.at k = some l) : l.length ≤ S.words := sum_get S.blocks k (some l) (at_some h)
theorem RepAt.len {w : World} {mb : Nat} {lm : Option Nat} {loc : Nat → Nat} {S : MS} (R : RepAt w mb lm loc S) {k : Nat} {l : List Cl} (h : S.at k = some l) : l.length ≤ 1048576 := by
  have := at_len h; have := R.words; have := R.room1; omega

theorem findE_zero {S : MS} {b : Bool} {a : Int} (h : findE S b a = 0) : ∃ (k : Nat) (l : List Cl), b = true ∧ a = (k : Int) + 1 ∧ S.at k = some l := by
  unfold findE at h
  split at h
  · simp at h
  · rename_i hb
    split at h
    · simp at h
    · rename_i ha
      split at h
      · simp at h
      · rename_i l hl
        exact ⟨(a - 1).toNat, l, by simpa using hb, by omega, hl⟩
theorem findE_at {S : MS} {k : Nat} {l : List Cl} (hl : S.at k = some l) : findE S true ((k : Int) + 1) = 0 := by
  have hk := at_lt hl
  unfold findE
  rw [if_neg (by simp), if_neg (by omega), show ((k : Int) + 1 - 1).toNat = k by omega, hl]

def spanE (S : MS) (b : Bool) (a n c : Int) : Int :=
  if findE S b a ≠ 0 then findE S b a else match S.at (a - 1).toNat with
    | none => 0
    | some l => if n < 0 ∨ (l.length : Int) < n + c then 13 else 0
def storedE (S : MS) (b : Bool) (a n c : Int) : Int :=
  if c = 0 then 0 else if findE S b a ≠ 0 then findE S b a else match S.at (a - 1).toNat with
    | none => 0
    | some l => if n < 0 ∨ (l.length : Int) ≤ n then 13 else scanE (l.drop n.toNat) c.toNat

theorem spanE_at {S : MS} {k : Nat} {l : List Cl} (hl : S.at k = some l) (n c : Int) : spanE S true ((k : Int) + 1) n c = if n < 0 ∨ (l.length : Int) < n + c then 13 else 0 := by
  unfold spanE
  rw [if_neg (by rw [findE_at hl]; simp), show ((k : Int) + 1 - 1).toNat = k by omega, hl]
theorem storedE_at {S : MS} {k : Nat} {l : List Cl} (hl : S.at k = some l) (n c : Int) (hc : c ≠ 0) : storedE S true ((k : Int) + 1) n c = if n < 0 ∨ (l.length : Int) ≤ n then 13 else scanE (l.drop n.toNat) c.toNat := by
  unfold storedE
  rw [if_neg hc, if_neg (by rw [findE_at hl]; simp), show ((k : Int) + 1 - 1).toNat = k by omega, hl]

theorem spanE_zero {S : MS} {b : Bool} {a n c : Int} (h : spanE S b a n c = 0) : ∃ (k N : Nat) (l : List Cl), b = true ∧ a = (k : Int) + 1 ∧ n = N ∧ S.at k = some l ∧ (N : Int) + c ≤ l.length := by
  by_cases hf : findE S b a = 0
  · obtain ⟨k, l, rfl, rfl, hl⟩ := findE_zero hf
    rw [spanE_at hl] at h
    split at h
    · simp at h
    · exact ⟨k, n.toNat, l, rfl, rfl, by omega, hl, by omega⟩
  · unfold spanE at h
    rw [if_pos hf] at h
    exact absurd h hf

theorem storedE_zero {S : MS} {b : Bool} {a n c : Int} (h : storedE S b a n c = 0) (hc : 0 < c) : ∃ (k N : Nat) (l : List Cl), b = true ∧ a = (k : Int) + 1 ∧ n = N ∧ S.at k = some l ∧ N < l.length ∧ scanE (l.drop N) c.toNat = 0 := by
  by_cases hf : findE S b a = 0
  · obtain ⟨k, l, rfl, rfl, hl⟩ := findE_zero hf
    rw [storedE_at hl _ _ (by omega)] at h
    split at h
    · simp at h
    · exact ⟨k, n.toNat, l, rfl, rfl, by omega, hl, by omega, h⟩
  · unfold storedE at h
    rw [if_neg (by omega), if_pos hf] at h
    exact absurd h hf

section
variable {w : World} {mb : Nat} {lm : Option Nat} {loc : Nat → Nat} {S : MS}

theorem span_fail (R : RepAt w mb lm loc S) (b : Bool) (a n c er : Int) (he : spanE S b a n c = er) (hne : er ≠ 0) (hn : n ≤ 9223372036854775807) :
    Calls Tryd.prog 76 #[.pointer (some ⟨mb, 0, none⟩), .agg #[.bool b, .int .i64 a, .int .i64 n], .int .i64 c] w fun e w' =>
      e = .returned (.tuple #[.slice none 0 0, .int .i64 er]) ∧ Below w.heap.size w w' := by
  by_cases hf : findE S b a = 0
  · obtain ⟨k, l, rfl, rfl, hl⟩ := findE_zero hf
    rw [spanE_at hl] at he
    split at he
    · subst he
      exact span_range R k l hl n c ‹_› (R.len hl) hn
    · exact absurd he.symm hne
  · unfold spanE at he
    rw [if_pos hf] at he
    exact span_err R b a n c er he hne

theorem stored_fail (R : RepAt w mb lm loc S) (b : Bool) (a n : Int) (c : Nat) (er : Int) (he : storedE S b a n c = er) (hne : er ≠ 0) (hc : (c : Int) < 9223372036854775807) :
    Calls Tryd.prog 66 #[.pointer (some ⟨mb, 0, none⟩), .agg #[.bool b, .int .i64 a, .int .i64 n], .int .i64 c] w fun e w' =>
      e = .returned (.tuple #[.slice none 0 0, .int .i64 er]) ∧ Below w.heap.size w w' := by
  have hc0 : (c : Int) ≠ 0 := by
    intro h
    unfold storedE at he
    rw [if_pos h] at he
    exact hne he.symm
  by_cases hf : findE S b a = 0
  · obtain ⟨k, l, rfl, rfl, hl⟩ := findE_zero hf
    rw [storedE_at hl _ _ hc0] at he
    split at he
    · subst he
      exact stored_range R k l hl n c ‹_› hc0
    · have hn : ∃ N : Nat, n = N := ⟨n.toNat, by omega⟩
      obtain ⟨N, rfl⟩ := hn
      simp only [Int.toNat_natCast] at he
      refine (stored_scan R k l hl N c (by omega) (by omega) (by omega) (R.len hl)).mono ?_
      rintro e w' ⟨h, hb⟩
      refine ⟨?_, hb⟩
      unfold StoredIs at h
      rw [he, if_neg hne] at h
      exact h
  · unfold storedE at he
    rw [if_neg hc0, if_pos hf] at he
    exact stored_err R b a n c er he hne hc0

theorem stored_ok (R : RepAt w mb lm loc S) (k : Nat) (l : List Cl) (hl : S.at k = some l) (n c : Nat) (hn : n < l.length) (hc : 0 < c) (hc' : c < 9223372036854775807) (hs : scanE (l.drop n) c = 0) :
    Calls Tryd.prog 66 #[.pointer (some ⟨mb, 0, none⟩), .agg #[.bool true, .int .i64 ((k : Int) + 1), .int .i64 (n : Int)], .int .i64 (c : Int)] w fun e w' =>
      e = .returned (.tuple #[.slice (some ⟨loc k, n * 4, none⟩) c (l.length - n), .int .i64 0]) ∧ Below w.heap.size w w' := by
  refine (stored_scan R k l hl n c hn hc hc' (R.len hl)).mono ?_
  rintro e w' ⟨h, hb⟩
  refine ⟨?_, hb⟩
  unfold StoredIs at h
  rw [hs, if_pos rfl] at h
  exact h

/-- what is loaded, and the error -/
def loadR (S : MS) (b : Bool) (a n : Int) : Wd × Int :=
  if storedE S b a n 1 ≠ 0 then (⟨false, 0, 0⟩, storedE S b a n 1) else match S.at (a - 1).toNat with
    | none => (⟨false, 0, 0⟩, 0)
    | some l => match l[n.toNat]? with
      | some (some x) => (x, 0)
      | _ => (⟨false, 0, 0⟩, 0)

theorem box2_cell {w w1 : World} {o : Obj} {c : Array Value} {t : TypeId} (hb : Below ((w.alloc o).alloc (.cells c t)).heap.size ((w.alloc o).alloc (.cells c t)) w1) (j : Nat) (v : Value) (hv : c[j]? = some v) : w1.cell? ⟨w.heap.size + 1, j, none⟩ = some v := by
  have h := box_cell (w := w.alloc o) hb j v hv
  simpa using h
theorem box2_frozen {w w1 : World} {o : Obj} {c : Array Value} {t : TypeId} (hb : Below ((w.alloc o).alloc (.cells c t)).heap.size ((w.alloc o).alloc (.cells c t)) w1) (j : Nat) : w1.frozen? ⟨w.heap.size + 1, j, none⟩ = false := by
  rw [hb.frozen (p := ⟨w.heap.size + 1, j, none⟩) (by simp)]
  have h : ((w.alloc o).alloc (.cells c t)).heap[w.heap.size + 1]? = some (.cells c t) := by
    have := heap_alloc_new (w.alloc o) (.cells c t)
    simpa using this
  simp only [World.frozen?, h]
  simp
theorem box2_below {w w1 : World} {o o' : Obj} (hb : Below ((w.alloc o).alloc o').heap.size ((w.alloc o).alloc o') w1) : Below w.heap.size w w1 :=
  (((Below.refl _ _).alloc (Nat.le_refl _) _).alloc (by simp) _).trans (hb.mono (by simp; omega))
theorem box2_size {w w1 : World} {o o' : Obj} (hb : Below ((w.alloc o).alloc o').heap.size ((w.alloc o).alloc o') w1) : w.heap.size + 1 < w1.heap.size := by
  have := hb.size
  simp at this
  omega

set_option maxHeartbeats 400000 in
theorem load_fail (R : RepAt w mb lm loc S) (b : Bool) (a n er : Int) (he : storedE S b a n 1 = er) (hne : er ≠ 0) :
    Calls Tryd.prog 45 #[.pointer (some ⟨mb, 0, none⟩), .agg #[.bool b, .int .i64 a, .int .i64 n]] w fun e w' =>
      e = .returned (.tuple #[.agg #[.bool false, .int .i64 0, .int .i64 0], .int .i64 er]) ∧ Below w.heap.size w w' := by
  have HE := Lib.hid he
  have hd : (er == 0) = false := by simpa using hne
  have hd' : (er != 0) = true := by simpa using hne
  clear he
  go_enter Tryd.func45, Tryd.ntmps45
  go_wp2_with fail
  refine (stored_fail ((R.alloc _).alloc _) b a n 1 er HE.out hne (by omega)).mono ?_
  rintro e w1 ⟨rfl, hb⟩
  have r0 := box2_cell hb 0 (.bool false) rfl
  have r1 := box2_cell hb 1 (.int .i64 0) rfl
  have r2 := box2_cell hb 2 (.int .i64 0) rfl
  have f0 := box2_frozen hb 0
  have f1 := box2_frozen hb 1
  have f2 := box2_frozen hb 2
  have hz := box2_size hb
  go_wp2
  refine bodyPost_ret (v := .tuple #[.agg #[.bool false, .int .i64 0, .int .i64 0], .int .i64 er]) (by simp [results, Tryd.results45, go_sem, r0, r1, r2]) rfl ⟨rfl, ?_⟩
  exact (((box2_below hb).setCell (by simp) _).setCell (by simp) _).setCell (by simp) _

set_option maxHeartbeats 400000 in
theorem load_ok (R : RepAt w mb lm loc S) (k : Nat) (l : List Cl) (hl : S.at k = some l) (n : Nat) (x : Wd) (hx : l[n]? = some (some x)) :
    Calls Tryd.prog 45 #[.pointer (some ⟨mb, 0, none⟩), .agg #[.bool true, .int .i64 ((k : Int) + 1), .int .i64 (n : Int)]] w fun e w' =>
      e = .returned (.tuple #[.agg #[.bool x.p, .int .i64 x.a, .int .i64 x.n], .int .i64 0]) ∧ Below w.heap.size w w' := by
  have hn : n < l.length := (List.getElem?_eq_some_iff.1 hx).1
  have hs : Hid (scanE (l.drop n) 1 = 0) := by
    have := scanE_drop l n 1 0 (by omega)
    simp only [Nat.add_zero, hx] at this
    refine this.trans ?_
    cases l.drop (n + (0 + 1)) <;> rfl
  have HX := Lib.hid hx
  clear hx
  go_enter Tryd.func45, Tryd.ntmps45
  go_wp2_with fail
  refine (stored_ok ((R.alloc _).alloc _) k l hl n 1 hn (by omega) (by omega) hs.out).mono ?_
  rintro e w1 ⟨rfl, hb⟩
  have r0 := box2_cell hb 0 (.bool false) rfl
  have r1 := box2_cell hb 1 (.int .i64 0) rfl
  have r2 := box2_cell hb 2 (.int .i64 0) rfl
  have f0 := box2_frozen hb 0
  have f1 := box2_frozen hb 1
  have f2 := box2_frozen hb 2
  have hz := box2_size hb
  have hrow := (((R.alloc _).alloc _).below hb).blk k l hl
  have g0 := row_cell hrow n 0 _ HX.out (by omega) (.bool x.p) rfl (n * 4) (by omega)
  have g1 := row_cell hrow n 1 _ HX.out (by omega) (.int .i64 x.a) rfl (n * 4 + 1) (by omega)
  have g2 := row_cell hrow n 2 _ HX.out (by omega) (.int .i64 x.n) rfl (n * 4 + 2) (by omega)
  clear hrow
  go_wp2
  refine bodyPost_ret (v := .tuple #[.agg #[.bool x.p, .int .i64 x.a, .int .i64 x.n], .int .i64 0]) (by simp [results, Tryd.results45, go_sem, r0, r1, r2]) rfl ⟨rfl, ?_⟩
  exact (((box2_below hb).setCell (by simp) _).setCell (by simp) _).setCell (by simp) _

set_option maxHeartbeats 400000 in
theorem live_any (R : RepAt w mb lm loc S) : Calls Tryd.prog 30 #[.pointer (some ⟨mb, 0, none⟩)] w fun e w' => e = .returned (.int .i64 S.live) ∧ w = w' := by
  obtain ⟨c0, c1, c2, c3⟩ := obj_cells R.obj
  cases lm with
  | none =>
    have hn : S.live = 0 := by unfold MS.live; rw [R.nomap rfl]; rfl
    rw [hn]
    have hl : (Builtin.len_ #[94] 3 #[.map none]).run Tryd.prog w = .ok (.int .i64 0) w := by kernel_rfl
    go_enter Tryd.func30, Tryd.ntmps30
    go_wp2
    go_ret
    exact ⟨rfl, rfl⟩
  | some lb =>
    obtain ⟨D, hD, hM⟩ := R.map lb rfl
    have hl := hD.len Tryd.underlying94 3
    rw [hM.size] at hl
    clear hD
    go_enter Tryd.func30, Tryd.ntmps30
    go_wp2
    go_ret
    exact ⟨rfl, rfl⟩
end
end Go.Proofs.YtgpkhdccchpljaaDoor.M

namespace Go.Proofs.YtgpkhdccchpljaaDoor.M
open Go.RowKit

theorem quiet_box_below {w : World} {o : Obj} {q : Nat} : Below w.heap.size w ((w.alloc o).drewN q) := below_drewN ((Below.refl _ _).alloc (Nat.le_refl _) _) _

set_option maxHeartbeats 400000 in
theorem alloc_neg (mb : Nat) (n : Int) (w : World) (hn : n < 0) :
    Calls Tryd.prog 38 #[.pointer (some ⟨mb, 0, none⟩), .int .i64 n] w fun e w' => e = .returned (.tuple #[.agg #[.bool false, .int .i64 0, .int .i64 0], .int .i64 1]) ∧ Below w.heap.size w w' := by
  have hd : decide (n < 0) = true := by simpa using hn
  go_enter Tryd.func38, Tryd.ntmps38
  go_wp2
  go_returns
  exact ⟨rfl, by go_grown⟩

theorem info69 : (Tryd.prog.info? 126).map (fun i => (i.zero, i.size, i.bytes)) = some (some (.agg #[.bool false, .int .i64 0, .int .i64 0, .bool false]), 4, 32) := by kernel_rfl

theorem zeros_eq (n : Nat) : madeCells #[.bool false, .int .i64 0, .int .i64 0, .bool false] (n * 4) = (rowv (List.replicate n none)).toArray := by
  apply Array.ext_getElem?
  intro i
  by_cases hi : i < n * 4
  · have h := rowv_get (List.replicate n none) (i / 4) (i % 4) none (by rw [List.getElem?_replicate, if_pos (by omega)]) (Nat.mod_lt _ (by omega))
    rw [show 4 * (i / 4) + i % 4 = i from Nat.div_add_mod i 4] at h
    simp only [List.getElem?_toArray, h]
    simp only [madeCells, Array.getElem?_map, Array.getElem?_range, hi, if_true, Option.map_some]
    have h4 : i % 4 < 4 := Nat.mod_lt _ (by omega)
    show some (#[Value.bool false, .int .i64 0, .int .i64 0, .bool false][i % 4]!) = _
    generalize i % 4 = r at h4 ⊢
    match r, h4 with
    | 0, _ => rfl
    | 1, _ => rfl
    | 2, _ => rfl
    | 3, _ => rfl
  · rw [Array.getElem?_eq_none (by rw [size_madeCells]; omega), Array.getElem?_eq_none (by simp [rowv_length]; omega)]

theorem make_cells (w : World) (n : Nat) (hn : n ≤ 1048576) :
    (Instr.makeSlice 107 (.int .i64 n) (.int .i64 n)).run Tryd.prog w = .ok (.slice (some ⟨w.heap.size, 0, none⟩) n n) (w.alloc (.cells (rowv (List.replicate n none)).toArray 126)) := by
  obtain ⟨i, hi, hz, hs, hb⟩ := info_parts info69
  have h := run_make (P := Tryd.prog) w 107 126 i _ Tryd.underlying107 hi hz .i64 .i64 n n (by omega) (by omega) (by rw [hb]; omega) (by omega)
  rw [hs] at h
  simpa [zeros_eq, Value.cells] using h

theorem heap_setCell_same {w : World} {b : Nat} {c : Array Value} {t : TypeId} {f : Nat × Nat} (h : w.heap[b]? = some (.cells c t f)) (j : Nat) (v : Value) : (w.setCell ⟨b, j, none⟩ v).heap[b]? = some (.cells (c.setIfInBounds j v) t f) := by
  simp [World.setCell, Array.getElem?_modify, h]

/-- ahead of the map's turn: the counts are set, the result's room is laid -/
structure Half (w W : World) (mb : Nat) (r q m : Int) (lm : Option Nat) : Prop where
  os : W.os = w.os
  tape : W.tape = w.tape
  output : W.output = w.output
  size : w.heap.size < W.heap.size
  obj : W.heap[mb]? = some (memObj r q m lm)
  res : W.heap[w.heap.size]? = some (.cells #[.bool false, .int .i64 0, .int .i64 0] 38)
  block : ∀ b, b < w.heap.size → b ≠ mb → W.heap[b]? = w.heap[b]?

theorem half_some {w : World} {mb : Nat} {r q m : Int} {lm : Option Nat} (h : w.heap[mb]? = some (memObj r q m lm)) (nq : Nat) (q' m' : Int) :
    Half w ((((w.alloc (Obj.cells #[Value.bool false, Value.int IntKind.i64 0, Value.int IntKind.i64 0] 38)).drewN nq).setCell { block := mb, off := 2 } (Value.int IntKind.i64 m')).setCell { block := mb, off := 1 } (Value.int IntKind.i64 q')) mb r q' m' lm := by
  have hlt : mb < w.heap.size := (Array.getElem?_eq_some_iff.1 h).1
  have h1 : ((w.alloc (Obj.cells #[Value.bool false, Value.int IntKind.i64 0, Value.int IntKind.i64 0] 38)).drewN nq).heap[mb]? = some (memObj r q m lm) := (Below.heap_alloc w _ _ hlt).trans h
  have h2 := heap_setCell_same (heap_setCell_same h1 2 (.int .i64 m')) 1 (.int .i64 q')
  have hres : ((w.alloc (Obj.cells #[Value.bool false, Value.int IntKind.i64 0, Value.int IntKind.i64 0] 38)).drewN nq).heap[w.heap.size]? = some (.cells #[.bool false, .int .i64 0, .int .i64 0] 38) := heap_alloc_new w _
  refine ⟨rfl, rfl, rfl, ?_, h2, ?_, ?_⟩
  · simp [World.setCell, World.drewN]
  · rw [Below.heap_setCell _ _ _ _ (by simp; omega), Below.heap_setCell _ _ _ _ (by simp; omega)]
    exact hres
  · intro b hb hne
    rw [Below.heap_setCell _ _ _ _ (by simpa using hne), Below.heap_setCell _ _ _ _ (by simpa using hne)]
    exact Below.heap_alloc w _ _ hb

theorem Half.cell {w W : World} {mb : Nat} {r q m : Int} {lm : Option Nat} (h : Half w W mb r q m lm) (j : Nat) (v : Value) (hv : #[Value.bool false, .int .i64 0, .int .i64 0][j]? = some v) : W.cell? ⟨w.heap.size, j, none⟩ = some v := by
  simp only [World.cell?, h.res]
  simpa using hv

def MS.push (S : MS) (n : Nat) : MS := ⟨S.room, S.blocks ++ [some (List.replicate n none)]⟩
theorem words_push (S : MS) (n : Nat) : (S.push n).words = S.words + n := by simp [MS.words, MS.push, szO]
theorem live_push (S : MS) (n : Nat) : (S.push n).live = S.live + 1 := by simp [MS.live, MS.push]
theorem at_push (S : MS) (n k : Nat) : (S.push n).at k = if k = S.blocks.length then some (List.replicate n none) else S.at k := by
  unfold MS.at MS.push
  by_cases h : k < S.blocks.length
  · rw [List.getElem?_append_left h, if_neg (by omega)]
  · by_cases h2 : k = S.blocks.length
    · subst h2; simp
    · rw [if_neg h2, List.getElem?_eq_none (by simp; omega), List.getElem?_eq_none (by omega)]
theorem at_none {S : MS} {k : Nat} (h : S.blocks.length ≤ k) : S.at k = none := by
  unfold MS.at
  rw [List.getElem?_eq_none h]
  rfl

/-- what a call that writes leaves: a memory that is S', in its own blocks and new ones -/
def Turned (w w' : World) (mb : Nat) (lm : Option Nat) (loc : Nat → Nat) (S S' : MS) : Prop :=
  ∃ lm' loc', RepAt w' mb lm' loc' S' ∧ (∀ b, Owned mb lm' loc' S' b → Owned mb lm loc S b ∨ w.heap.size ≤ b) ∧ Kept (Owned mb lm loc S) w w'

theorem RepAt.loc_ne {w : World} {mb : Nat} {lm : Option Nat} {loc : Nat → Nat} {S : MS} (R : RepAt w mb lm loc S) {k : Nat} {l : List Cl} (h : S.at k = some l) : loc k ≠ mb ∧ lm ≠ some (loc k) := by
  have h1 := R.blk k l h
  refine ⟨fun e => ?_, fun e => ?_⟩
  · rw [e, R.obj] at h1
    simp [memObj] at h1
  · obtain ⟨D, ⟨es, clock, hb, _⟩, _⟩ := R.map _ e
    rw [h1] at hb
    cases hb

theorem alloc_rep {w W9 W10 W11 : World} {mb lb : Nat} {lm : Option Nat} {loc : Nat → Nat} {S : MS} {n : Nat} {D : DataW Unit} (R : RepAt w mb lm loc S) (hn : (n : Int) ≤ S.room - S.words) (hmade : S.blocks.length + 1 < 1000000)
    (hlm : lm = some lb ∨ lm = none ∧ w.heap.size < lb)
    (hh : Half w W9 mb S.room (S.words + n) (S.blocks.length + 1) (some lb)) (hM : MapIs S loc D) (hD : Maps.Tidy D) (hlb : lb < W9.heap.size) (hlb2 : lb ≠ mb) (hlb3 : lb ≠ w.heap.size)
    (hD10 : W10.ownsMap Tryd.prog 3 locElem lb (S.blocks.length + 1) (D.put (key S.blocks.length) (locd W9.heap.size n)))
    (hg : (W9.alloc (.cells (rowv (List.replicate n none)).toArray 126)).drew.grownBy W10 (some lb))
    (hk : Below w.heap.size W10 W11) (hk2 : ∀ b, b ≠ w.heap.size → W11.heap[b]? = W10.heap[b]?) : Turned w W11 mb lm loc S (S.push n) := by
  have hmb := R.lt mb (.inl rfl)
  have hsz := hh.size
  have hs10 : W9.heap.size + 1 ≤ W10.heap.size := by have := hg.size; simpa using this
  have old : ∀ b, b < W9.heap.size → b ≠ lb → b ≠ w.heap.size → W11.heap[b]? = W9.heap[b]? := fun b hb hne hnr =>
    (hk2 b hnr).trans ((hg.block b (by show b < (W9.alloc _).heap.size; simp; omega) (by simpa using hne)).trans (Below.heap_alloc W9 _ b hb))
  have hnew : W11.heap[W9.heap.size]? = some (.cells (rowv (List.replicate n none)).toArray 126) := by
    refine (hk2 _ (by omega)).trans ((hg.block _ (by show W9.heap.size < (W9.alloc _).heap.size; simp) (by simp; omega)).trans ?_)
    exact heap_alloc_new W9 _
  have hloc : ∀ k l, S.at k = some l → loc k < w.heap.size ∧ loc k ≠ mb ∧ loc k ≠ lb := fun k l h => by
    refine ⟨R.lt _ (.inr (.inr ⟨k, l, h, rfl⟩)), (R.loc_ne h).1, fun e => ?_⟩
    rcases hlm with h1 | ⟨_, h1⟩
    · exact (R.loc_ne h).2 (by rw [h1, e])
    · have := R.lt _ (.inr (.inr ⟨k, l, h, rfl⟩))
      omega
  refine ⟨some lb, fun k => if k = S.blocks.length then W9.heap.size else loc k, ⟨?_, R.room0, R.room1, ?_, ?_, by simp, ?_, ?_, ?_⟩, ?_, ?_⟩
  · rw [old mb (by omega) hlb2.symm (by omega), hh.obj, words_push]
    simp [MS.push]
  · rw [words_push]
    show ((S.words + n : Nat) : Int) ≤ S.room
    omega
  · simpa [MS.push] using hmade
  · intro lb' e
    cases e
    refine ⟨D.put (key S.blocks.length) (locd W9.heap.size n), ?_, ?_⟩
    · obtain ⟨es, clock, hb, r⟩ := hD10
      have : (S.push n).blocks.length = S.blocks.length + 1 := by simp [MS.push]
      rw [this]
      exact ⟨es, clock, (hk2 lb hlb3).trans hb, r⟩
    · refine ⟨?_, ?_, ?_⟩
      · rw [live_push, Maps.size_put hD, hM.none _ (at_none (Nat.le_refl _)), hM.size]
        rfl
      · intro k l hl
        rw [at_push] at hl
        split at hl
        · rename_i hk'
          subst hk'
          cases hl
          simp only [if_pos, List.length_replicate]
          exact ⟨Maps.has_put_same hD.isMap (key_lit _) _, fun z => Maps.atKey_put_same hD.isMap (key_lit _) _ _⟩
        · rename_i hk'
          simp only [if_neg hk']
          rw [Maps.has_put_other (key_ne hk')]
          exact ⟨(hM.some k l hl).1, fun z => (Maps.atKey_put_other (key_ne hk') _ _).trans ((hM.some k l hl).2 z)⟩
      · intro k hl
        rw [at_push] at hl
        split at hl
        · cases hl
        · rename_i hk'
          rw [Maps.has_put_other (key_ne hk')]
          exact hM.none k hl
  · intro k l hl
    rw [at_push] at hl
    split at hl
    · rename_i hk'
      cases hl
      simp only [if_pos hk']
      exact hnew
    · rename_i hk'
      simp only [if_neg hk']
      obtain ⟨h1, h2, h3⟩ := hloc k l hl
      rw [old _ (by omega) h3 (by omega), hh.block _ h1 h2]
      exact R.blk k l hl
  · intro j k l l' hj hk' e
    rw [at_push] at hj hk'
    split at hj <;> split at hk'
    · omega
    · rename_i h1 h2
      rw [if_pos h1, if_neg h2] at e
      have := (hloc k _ hk').1
      omega
    · rename_i h1 h2
      rw [if_neg h1, if_pos h2] at e
      have := (hloc j _ hj).1
      omega
    · rename_i h1 h2
      rw [if_neg h1, if_neg h2] at e
      exact R.inj j k l l' hj hk' e
  · rintro b (rfl | hb | ⟨k, l, hl, rfl⟩)
    · exact .inl (.inl rfl)
    · cases hb
      rcases hlm with h1 | ⟨_, h1⟩
      · exact .inl (.inr (.inl h1))
      · exact .inr (by omega)
    · rw [at_push] at hl
      split at hl
      · rename_i hk'
        right
        simp only [if_pos hk']
        omega
      · rename_i hk'
        left
        simp only [if_neg hk']
        exact .inr (.inr ⟨k, l, hl, rfl⟩)
  · refine ⟨hk.os.trans (hg.os.trans hh.os), hk.tape.trans (hg.tape.trans hh.tape), hk.output.trans (hg.output.trans hh.output), by have := hk.size; omega, fun b hb ho => ?_⟩
    have h1 : b ≠ mb := fun e => ho (.inl e)
    have h2 : b ≠ lb := fun e => by
      rcases hlm with h1 | ⟨_, h1⟩
      · exact ho (.inr (.inl (by rw [h1, e])))
      · omega
    rw [old b (by omega) h2 (by omega), hh.block b hb h1]

section
variable {w : World} {mb : Nat} {lm : Option Nat} {loc : Nat → Nat} {S : MS}

set_option maxHeartbeats 400000 in
theorem alloc_room (R : RepAt w mb lm loc S) (n : Int) (h0 : 0 ≤ n) (hn : S.room - S.words < n) :
    Calls Tryd.prog 38 #[.pointer (some ⟨mb, 0, none⟩), .int .i64 n] w fun e w' => e = .returned (.tuple #[.agg #[.bool false, .int .i64 0, .int .i64 0], .int .i64 10]) ∧ Below w.heap.size w w' := by
  obtain ⟨c0, c1, c2, c3⟩ := obj_cells R.obj
  have hmb := R.lt mb (.inl rfl)
  have b1 := R.room0
  have b2 := R.room1
  have b3 := R.words
  have hd : decide (n < 0) = false := by simpa using h0
  have hd2 : decide (S.room - S.words < n) = true := by simpa using hn
  go_enter Tryd.func38, Tryd.ntmps38
  go_wp2
  go_quiet (fail)
  go_wp2
  go_returns
  exact ⟨rfl, (((below_box _ _ _ _).setCell (Nat.le_refl _) _).setCell (Nat.le_refl _) _).setCell (Nat.le_refl _) _⟩

set_option maxHeartbeats 400000 in
theorem alloc_some {lb : Nat} (R : RepAt w mb (some lb) loc S) (n : Nat) (hn : (n : Int) ≤ S.room - S.words) (hmade : S.blocks.length + 1 < 1000000) :
    Calls Tryd.prog 38 #[.pointer (some ⟨mb, 0, none⟩), .int .i64 n] w fun e w' => e = .returned (.tuple #[.agg #[.bool true, .int .i64 ((S.blocks.length : Int) + 1), .int .i64 0], .int .i64 0]) ∧ Turned w w' mb (some lb) loc S (S.push n) := by
  obtain ⟨c0, c1, c2, c3⟩ := obj_cells R.obj
  have hmb := R.lt mb (.inl rfl)
  have b1 := R.room0
  have b2 := R.room1
  have b3 := R.words
  have b4 := R.made
  have hd : decide ((n : Int) < 0) = false := by simp
  have hd2 : decide (S.room - S.words < n) = false := by simpa using hn
  have hf : ∀ j, w.frozen? ⟨mb, j, none⟩ = false := fun j => by simp [World.frozen?, R.obj, memObj]
  have heq := fun (w : World) (r : Option Nat) => run_eql_map_nil (P := Tryd.prog) w 94 3 107 r Tryd.underlying94
  have HO := Lib.hid R.obj
  obtain ⟨D, hD, hM⟩ := R.map lb rfl
  have hlt := hD.lt
  have hne : lb ≠ mb := by
    rintro rfl
    obtain ⟨es, clock, hb, _⟩ := hD
    rw [R.obj] at hb
    cases hb
  go_enter Tryd.func38, Tryd.ntmps38
  go_wp2
  go_quiet (fail)
  go_wp2
  have hh := half_some HO.out nq (S.words + n) (S.blocks.length + 1)
  generalize hW9 : (((w.alloc (Obj.cells #[Value.bool false, Value.int IntKind.i64 0, Value.int IntKind.i64 0] 38)).drewN nq).setCell { block := mb, off := 2 } (Value.int IntKind.i64 ((S.blocks.length : Int) + 1))).setCell { block := mb, off := 1 } (Value.int IntKind.i64 ((S.words : Int) + n)) = W9 at hh ⊢
  clear hW9
  have hmk := fun w => make_cells w n (by omega)
  obtain ⟨d0, d1, d2, d3⟩ := obj_cells hh.obj
  have hD9 : W9.ownsMap Tryd.prog 3 locElem lb S.blocks.length D := by
    obtain ⟨es, clock, hb, r⟩ := hD
    exact ⟨es, clock, (hh.block _ hlt hne).trans hb, r⟩
  have hsz := hh.size
  have hmb9 : mb < W9.heap.size := by omega
  obtain ⟨W10, hupd, hD10, hturn⟩ := ((hD9.alloc (.cells (rowv (List.replicate n none)).toArray 126)).drew).store keyLaw Tryd.underlying94 (by unfold maxLen; omega) (keyOf_key (by omega : S.blocks.length < 1000000)) (locElem_mk W9.heap.size n)
  have hg := hturn.grown
  have hs10 := hg.size
  have e2 : W10.cell? ⟨mb, 2, none⟩ = some (.int .i64 ((S.blocks.length : Int) + 1)) := hg.cell (show (W9.alloc _).cell? _ = _ from (World.cell?_of_block (Below.heap_alloc W9 _ mb hmb9)).trans d2) (by simpa using hne.symm)
  clear c0 c1 c2 c3 d0 d1 hf
  have h10 : ∀ b, b < W9.heap.size → b ≠ lb → W10.heap[b]? = W9.heap[b]? := fun b hb hne => (hg.block b (by show b < (W9.alloc _).heap.size; simp; omega) (by simpa using hne)).trans (Below.heap_alloc W9 _ b hb)
  have hres := (h10 _ hsz (by omega)).trans hh.res
  have r0 : W10.cell? ⟨w.heap.size, 0, none⟩ = some (.bool false) := by simp [World.cell?, hres]
  have r1 : W10.cell? ⟨w.heap.size, 1, none⟩ = some (.int .i64 0) := by simp [World.cell?, hres]
  have r2 : W10.cell? ⟨w.heap.size, 2, none⟩ = some (.int .i64 0) := by simp [World.cell?, hres]
  have f0 : W10.frozen? ⟨w.heap.size, 0, none⟩ = false := by simp [World.frozen?, hres]
  have f1 : W10.frozen? ⟨w.heap.size, 1, none⟩ = false := by simp [World.frozen?, hres]
  have f2 : W10.frozen? ⟨w.heap.size, 2, none⟩ = false := by simp [World.frozen?, hres]
  have HR := Lib.hid hres
  clear h10 hres hs10 heq
  go_region
  go_wp2
  refine bodyPost_ret (v := .tuple #[.agg #[.bool true, .int .i64 ((S.blocks.length : Int) + 1), .int .i64 0], .int .i64 0]) (by simp [results, Tryd.results38, go_sem, r0, r1, r2]) rfl ⟨rfl, ?_⟩
  refine alloc_rep R hn hmade (.inl rfl) hh hM (hD.tidy keyLaw) (by omega) hne (by omega) hD10 hg ((((Below.refl w.heap.size W10).setCell (Nat.le_refl w.heap.size) _).setCell (Nat.le_refl w.heap.size) _).setCell (Nat.le_refl w.heap.size) _) fun b hb => ?_
  rw [Below.heap_setCell _ _ _ _ hb, Below.heap_setCell _ _ _ _ hb, Below.heap_setCell _ _ _ _ hb]
end
end Go.Proofs.YtgpkhdccchpljaaDoor.M

namespace Go.Proofs.YtgpkhdccchpljaaDoor.M
open Go.RowKit

theorem half_none {w : World} {mb : Nat} {r q m : Int} (h : w.heap[mb]? = some (memObj r q m none)) (nq : Nat) (q' m' : Int) :
    Half w ((((((w.alloc (Obj.cells #[Value.bool false, Value.int IntKind.i64 0, Value.int IntKind.i64 0] 38)).drewN nq).setCell { block := mb, off := 3 } (Value.map (some (w.heap.size + 1)))).setCell { block := mb, off := 2 } (Value.int IntKind.i64 m')).setCell { block := mb, off := 1 } (Value.int IntKind.i64 q')).alloc (Obj.map #[] 0)) mb r q' m' (some (w.heap.size + 1)) ∧
      (((((w.alloc (Obj.cells #[Value.bool false, Value.int IntKind.i64 0, Value.int IntKind.i64 0] 38)).drewN nq).setCell { block := mb, off := 3 } (Value.map (some (w.heap.size + 1)))).setCell { block := mb, off := 2 } (Value.int IntKind.i64 m')).setCell { block := mb, off := 1 } (Value.int IntKind.i64 q')).heap.size = w.heap.size + 1 := by
  have hlt : mb < w.heap.size := (Array.getElem?_eq_some_iff.1 h).1
  have h1 : ((w.alloc (Obj.cells #[Value.bool false, Value.int IntKind.i64 0, Value.int IntKind.i64 0] 38)).drewN nq).heap[mb]? = some (memObj r q m none) := (Below.heap_alloc w _ _ hlt).trans h
  have h2 := heap_setCell_same (heap_setCell_same (heap_setCell_same h1 3 (.map (some (w.heap.size + 1)))) 2 (.int .i64 m')) 1 (.int .i64 q')
  have hres : ((w.alloc (Obj.cells #[Value.bool false, Value.int IntKind.i64 0, Value.int IntKind.i64 0] 38)).drewN nq).heap[w.heap.size]? = some (.cells #[.bool false, .int .i64 0, .int .i64 0] 38) := heap_alloc_new w _
  have hsz : (((((w.alloc (Obj.cells #[Value.bool false, Value.int IntKind.i64 0, Value.int IntKind.i64 0] 38)).drewN nq).setCell { block := mb, off := 3 } (Value.map (some (w.heap.size + 1)))).setCell { block := mb, off := 2 } (Value.int IntKind.i64 m')).setCell { block := mb, off := 1 } (Value.int IntKind.i64 q')).heap.size = w.heap.size + 1 := by simp [World.setCell, World.drewN]
  refine ⟨⟨rfl, rfl, rfl, ?_, ?_, ?_, ?_⟩, hsz⟩
  · rw [World.size_alloc, hsz]; omega
  · rw [Below.heap_alloc _ _ _ (by rw [hsz]; omega)]
    exact h2
  · rw [Below.heap_alloc _ _ _ (by rw [hsz]; omega), Below.heap_setCell _ _ _ _ (by simp; omega), Below.heap_setCell _ _ _ _ (by simp; omega), Below.heap_setCell _ _ _ _ (by simp; omega)]
    exact hres
  · intro b hb hne
    rw [Below.heap_alloc _ _ _ (by rw [hsz]; omega), Below.heap_setCell _ _ _ _ (by simpa using hne), Below.heap_setCell _ _ _ _ (by simpa using hne), Below.heap_setCell _ _ _ _ (by simpa using hne)]
    exact Below.heap_alloc w _ _ hb

section
variable {w : World} {mb : Nat} {lm : Option Nat} {loc : Nat → Nat} {S : MS}

set_option maxHeartbeats 400000 in
theorem alloc_none (R : RepAt w mb none loc S) (n : Nat) (hn : (n : Int) ≤ S.room - S.words) (hmade : S.blocks.length + 1 < 1000000) :
    Calls Tryd.prog 38 #[.pointer (some ⟨mb, 0, none⟩), .int .i64 n] w fun e w' => e = .returned (.tuple #[.agg #[.bool true, .int .i64 ((S.blocks.length : Int) + 1), .int .i64 0], .int .i64 0]) ∧ Turned w w' mb none loc S (S.push n) := by
  obtain ⟨c0, c1, c2, c3⟩ := obj_cells R.obj
  have hmb := R.lt mb (.inl rfl)
  have b1 := R.room0
  have b2 := R.room1
  have b3 := R.words
  have b4 := R.made
  have hd : decide ((n : Int) < 0) = false := by simp
  have hd2 : decide (S.room - S.words < n) = false := by simpa using hn
  have hf : ∀ j, w.frozen? ⟨mb, j, none⟩ = false := fun j => by simp [World.frozen?, R.obj, memObj]
  have heq := fun (w : World) (r : Option Nat) => run_eql_map_nil (P := Tryd.prog) w 94 3 107 r Tryd.underlying94
  have hmm := @run_makeMap Tryd.prog
  have HO := Lib.hid R.obj
  go_enter Tryd.func38, Tryd.ntmps38
  go_wp2
  go_quiet (fail)
  go_wp2
  obtain ⟨hh, hs9⟩ := half_none HO.out nq (S.words + n) (S.blocks.length + 1)
  generalize hW8 : ((((w.alloc (Obj.cells #[Value.bool false, Value.int IntKind.i64 0, Value.int IntKind.i64 0] 38)).drewN nq).setCell { block := mb, off := 3 } (Value.map (some (w.heap.size + 1)))).setCell { block := mb, off := 2 } (Value.int IntKind.i64 ((S.blocks.length : Int) + 1))).setCell { block := mb, off := 1 } (Value.int IntKind.i64 ((S.words : Int) + n)) = W8 at hh hs9 ⊢
  clear hW8
  have hmade0 := World.ownsMap_made W8 Tryd.prog 3 locElem
  rw [hs9] at hmade0
  have hsz8 : (W8.alloc (Obj.map #[] 0)).heap.size = w.heap.size + 2 := by rw [World.size_alloc, hs9]
  generalize hW9 : W8.alloc (Obj.map #[] 0) = W9 at hh hmade0 hsz8 ⊢
  clear hW9 hs9
  have HS := Lib.hid hsz8
  clear hsz8
  obtain ⟨lb, hlbe⟩ : ∃ lb, lb = w.heap.size + 1 := ⟨_, rfl⟩
  rw [← hlbe] at hh hmade0
  have HL := Lib.hid hlbe
  clear hlbe
  have hmk := fun w => make_cells w n (by omega)
  obtain ⟨d0, d1, d2, d3⟩ := obj_cells hh.obj
  have hlb9 := hmade0.lt
  have hne : lb ≠ mb := by have := HL.out; omega
  have hne2 : w.heap.size ≠ lb := by have := HL.out; omega
  have hS0 : S.blocks.length = 0 := by rw [R.nomap rfl]; rfl
  have hsz := hh.size
  have hmb9 : mb < W9.heap.size := by omega
  obtain ⟨W10, hupd, hD10, hturn⟩ := ((hmade0.alloc (.cells (rowv (List.replicate n none)).toArray 126)).drew).store keyLaw Tryd.underlying94 (by unfold maxLen; omega) (keyOf_key (by omega : S.blocks.length < 1000000)) (locElem_mk W9.heap.size n)
  have HS0 := Lib.hid hS0
  clear hS0
  have hg := hturn.grown
  have hs10 := hg.size
  have e2 : W10.cell? ⟨mb, 2, none⟩ = some (.int .i64 ((S.blocks.length : Int) + 1)) := hg.cell (show (W9.alloc _).cell? _ = _ from (World.cell?_of_block (Below.heap_alloc W9 _ mb hmb9)).trans d2) (by simpa using hne.symm)
  clear c0 c1 c2 c3 d0 d1 hf
  have h10 : ∀ b, b < W9.heap.size → b ≠ lb → W10.heap[b]? = W9.heap[b]? := fun b hb hne => (hg.block b (by show b < (W9.alloc _).heap.size; simp; omega) (by simpa using hne)).trans (Below.heap_alloc W9 _ b hb)
  have hres := (h10 _ hsz hne2).trans hh.res
  have r0 : W10.cell? ⟨w.heap.size, 0, none⟩ = some (.bool false) := by simp [World.cell?, hres]
  have r1 : W10.cell? ⟨w.heap.size, 1, none⟩ = some (.int .i64 0) := by simp [World.cell?, hres]
  have r2 : W10.cell? ⟨w.heap.size, 2, none⟩ = some (.int .i64 0) := by simp [World.cell?, hres]
  have f0 : W10.frozen? ⟨w.heap.size, 0, none⟩ = false := by simp [World.frozen?, hres]
  have f1 : W10.frozen? ⟨w.heap.size, 1, none⟩ = false := by simp [World.frozen?, hres]
  have f2 : W10.frozen? ⟨w.heap.size, 2, none⟩ = false := by simp [World.frozen?, hres]
  have HR := Lib.hid hres
  clear h10 hres hs10 heq hmm
  go_region
  go_wp2
  refine bodyPost_ret (v := .tuple #[.agg #[.bool true, .int .i64 ((S.blocks.length : Int) + 1), .int .i64 0], .int .i64 0]) (by simp [results, Tryd.results38, go_sem, r0, r1, r2]) rfl ⟨rfl, ?_⟩
  refine alloc_rep R hn hmade (.inr ⟨rfl, by have := HL.out; omega⟩) hh (D := .map []) ⟨?_, ?_, ?_⟩ Maps.tidy_empty (by omega) hne (Ne.symm hne2) ?_ hg ((((Below.refl w.heap.size W10).setCell (Nat.le_refl w.heap.size) _).setCell (Nat.le_refl w.heap.size) _).setCell (Nat.le_refl w.heap.size) _) fun b hb => ?_
  · unfold MS.live; rw [R.nomap rfl]; rfl
  · intro k l hl
    have := at_lt hl
    have := HS0.out
    omega
  · intro k _; rfl
  · rw [HS0.out] at hD10 ⊢
    exact hD10
  · rw [Below.heap_setCell _ _ _ _ hb, Below.heap_setCell _ _ _ _ hb, Below.heap_setCell _ _ _ _ hb]
end
end Go.Proofs.YtgpkhdccchpljaaDoor.M

namespace Go.Proofs.YtgpkhdccchpljaaDoor.M
open Go.RowKit

theorem rowv_get' (l : List Cl) (i : Nat) : (rowv l)[i]? = (l[i / 4]?).bind fun c => (cv c)[i % 4]? := by
  by_cases h : i / 4 < l.length
  · have := rowv_get l (i / 4) (i % 4) l[i / 4] (List.getElem?_eq_getElem h) (Nat.mod_lt _ (by omega))
    rw [Nat.div_add_mod] at this
    rw [this, List.getElem?_eq_getElem h]
    rfl
  · rw [List.getElem?_eq_none (by rw [rowv_length]; omega), List.getElem?_eq_none (by omega)]
    rfl

theorem rowv_set (l : List Cl) (n : Nat) (hn : n < l.length) (c : Cl) (v0 v1 v2 v3 : Value) (hv : cv c = [v0, v1, v2, v3]) :
    ((((rowv l).toArray.setIfInBounds (n * 4) v0).setIfInBounds (n * 4 + 1) v1).setIfInBounds (n * 4 + 2) v2).setIfInBounds (n * 4 + 3) v3 = (rowv (l.set n c)).toArray := by
  apply Array.ext_getElem?
  intro i
  have hlen := rowv_length l
  simp only [Array.getElem?_setIfInBounds, Array.size_setIfInBounds, List.size_toArray, List.getElem?_toArray, rowv_get' (l.set n c), List.getElem?_set]
  by_cases h : n = i / 4
  · have hi : i = n * 4 + i % 4 := by omega
    have h4 : i % 4 < 4 := Nat.mod_lt _ (by omega)
    have hin : i < (rowv l).length := by omega
    have hR : (if n = i / 4 then if n < l.length then some c else none else l[i / 4]?) = some c := by rw [if_pos h, if_pos hn]
    rw [hR]
    simp only [Option.bind_some, hv]
    generalize i % 4 = r at hi h4
    subst hi
    match r, h4 with
    | 0, _ => simp; omega
    | 1, _ => simp; omega
    | 2, _ => simp; omega
    | 3, _ => simp; omega
  · have hR : (if n = i / 4 then if n < l.length then some c else none else l[i / 4]?) = l[i / 4]? := by rw [if_neg h]
    rw [hR, if_neg (by omega), if_neg (by omega), if_neg (by omega), if_neg (by omega), rowv_get' l]

def MS.setb (S : MS) (k : Nat) (o : Option (List Cl)) : MS := ⟨S.room, S.blocks.set k o⟩

theorem at_setb (S : MS) (k : Nat) (o : Option (List Cl)) (hk : k < S.blocks.length) (j : Nat) : (S.setb k o).at j = if j = k then o else S.at j := by
  unfold MS.at MS.setb
  simp only [List.getElem?_set]
  by_cases h : k = j
  · subst h; simp [hk]
  · rw [if_neg h, if_neg (by omega)]

theorem sum_set : ∀ (bs : List (Option (List Cl))) (k : Nat) (o o' : Option (List Cl)), bs[k]? = some o → ((bs.set k o').map szO).sum + szO o = (bs.map szO).sum + szO o'
  | [], _, _, _, h => by simp at h
  | x :: bs, 0, o, o', h => by simp at h; subst h; simp; omega
  | x :: bs, k + 1, o, o', h => by
    have := sum_set bs k o o' (by simpa using h)
    simp only [List.set_cons_succ, List.map_cons, List.sum_cons]; omega

theorem live_set : ∀ (bs : List (Option (List Cl))) (k : Nat) (l l' : List Cl), bs[k]? = some (some l) → ((bs.set k (some l')).filter Option.isSome).length = (bs.filter Option.isSome).length
  | [], _, _, _, h => by simp at h
  | x :: bs, 0, l, l', h => by simp at h; subst h; simp
  | x :: bs, k + 1, l, l', h => by
    have := live_set bs k l l' (by simpa using h)
    cases x <;> simp [this]
theorem live_none : ∀ (bs : List (Option (List Cl))) (k : Nat) (l : List Cl), bs[k]? = some (some l) → ((bs.set k none).filter Option.isSome).length + 1 = (bs.filter Option.isSome).length
  | [], _, _, h => by simp at h
  | x :: bs, 0, l, h => by simp at h; subst h; simp
  | x :: bs, k + 1, l, h => by
    have := live_none bs k l (by simpa using h)
    cases x <;> simp <;> omega

theorem words_setb {S : MS} {k : Nat} {l l' : List Cl} (hl : S.at k = some l) (h : l'.length = l.length) : (S.setb k (some l')).words = S.words := by
  have := sum_set S.blocks k _ (some l') (at_some hl)
  simp only [szO] at this
  show ((S.blocks.set k (some l')).map szO).sum = (S.blocks.map szO).sum
  omega
theorem live_setb {S : MS} {k : Nat} {l l' : List Cl} (hl : S.at k = some l) : (S.setb k (some l')).live = S.live := live_set S.blocks k l l' (at_some hl)

theorem row_rep {w w1 w2 : World} {mb : Nat} {lm : Option Nat} {loc : Nat → Nat} {S : MS} (R : RepAt w mb lm loc S) {k : Nat} {l l' : List Cl} (hl : S.at k = some l) (hlen : l'.length = l.length) (hb : Below w.heap.size w w1)
    (hnew : w2.heap[loc k]? = some (.cells (rowv l').toArray 126)) (hk : ∀ b, b ≠ loc k → w2.heap[b]? = w1.heap[b]?) (hs : w2.os = w1.os ∧ w2.tape = w1.tape ∧ w2.output = w1.output ∧ w1.heap.size ≤ w2.heap.size) :
    Turned w w2 mb lm loc S (S.setb k (some l')) := by
  have hkl := at_lt hl
  have ne := R.loc_ne hl
  have hat : ∀ j m, (S.setb k (some l')).at j = some m → ∃ m', S.at j = some m' ∧ m'.length = m.length ∧ (j = k → m = l') ∧ (j ≠ k → m = m') := fun j m hj => by
    rw [at_setb S k _ hkl] at hj
    split at hj
    · rename_i e
      subst e
      cases hj
      exact ⟨l, hl, hlen.symm, fun _ => rfl, fun h => absurd rfl h⟩
    · rename_i e
      exact ⟨m, hj, rfl, fun h => absurd h e, fun _ => rfl⟩
  have old : ∀ b, b < w.heap.size → b ≠ loc k → w2.heap[b]? = w.heap[b]? := fun b h1 h2 => (hk b h2).trans (hb.block b h1)
  have hmb := R.lt mb (.inl rfl)
  refine ⟨lm, loc, ⟨?_, R.room0, R.room1, ?_, ?_, ?_, ?_, ?_, ?_⟩, ?_, ?_⟩
  · rw [old mb hmb (Ne.symm ne.1), R.obj, words_setb hl hlen]
    simp [MS.setb]
  · rw [words_setb hl hlen]
    exact R.words
  · simpa [MS.setb] using R.made
  · intro h
    rw [R.nomap h] at hkl
    simp at hkl
  · intro lb hlb
    obtain ⟨D, ⟨es, clock, hbb, r⟩, hM⟩ := R.map lb hlb
    have hlbk : lb ≠ loc k := fun e => ne.2 (by rw [hlb, e])
    refine ⟨D, ⟨es, clock, (old lb (Array.getElem?_eq_some_iff.1 hbb).1 hlbk).trans hbb, ?_⟩, ⟨?_, ?_, ?_⟩⟩
    · simpa [MS.setb] using r
    · rw [live_setb hl]
      exact hM.size
    · intro j m hj
      obtain ⟨m', h1, h2, _⟩ := hat j m hj
      rw [← h2]
      exact hM.some j m' h1
    · intro j hj
      rw [at_setb S k _ hkl] at hj
      split at hj
      · cases hj
      · exact hM.none j hj
  · intro j m hj
    obtain ⟨m', h1, _, h3, h4⟩ := hat j m hj
    by_cases e : j = k
    · subst e
      rw [h3 rfl]
      exact hnew
    · rw [h4 e, old _ (R.lt _ (.inr (.inr ⟨j, m', h1, rfl⟩))) fun e' => e (R.inj j k m' l h1 hl e')]
      exact R.blk j m' h1
  · intro i j m m' hi hj e
    obtain ⟨n, h1, _⟩ := hat i m hi
    obtain ⟨n', h2, _⟩ := hat j m' hj
    exact R.inj i j n n' h1 h2 e
  · rintro b (rfl | h | ⟨j, m, hj, rfl⟩)
    · exact .inl (.inl rfl)
    · exact .inl (.inr (.inl h))
    · obtain ⟨m', h1, _⟩ := hat j m hj
      exact .inl (.inr (.inr ⟨j, m', h1, rfl⟩))
  · refine ⟨hs.1.trans hb.os, hs.2.1.trans hb.tape, hs.2.2.1.trans hb.output, Nat.le_trans hb.size hs.2.2.2, fun b hbb ho => old b hbb fun e => ho (.inr (.inr ⟨k, l, hl, e⟩))⟩
end Go.Proofs.YtgpkhdccchpljaaDoor.M

namespace Go.Proofs.YtgpkhdccchpljaaDoor.M
open Go.RowKit

section
variable {w : World} {mb : Nat} {lm : Option Nat} {loc : Nat → Nat} {S : MS}

set_option maxHeartbeats 400000 in
theorem store_fail (R : RepAt w mb lm loc S) (b : Bool) (a n er : Int) (x : Wd) (he : spanE S b a n 1 = er) (hne : er ≠ 0) (hn : n ≤ 9223372036854775807) :
    Calls Tryd.prog 55 #[.pointer (some ⟨mb, 0, none⟩), .agg #[.bool b, .int .i64 a, .int .i64 n], .agg #[.bool x.p, .int .i64 x.a, .int .i64 x.n]] w fun e w' =>
      e = .returned (.int .i64 er) ∧ Below w.heap.size w w' := by
  have HE := Lib.hid he
  have hd : (er == 0) = false := by simpa using hne
  have hd' : (er != 0) = true := by simpa using hne
  clear he
  go_enter Tryd.func55, Tryd.ntmps55
  go_wp2_with fail
  refine (span_fail ((R.alloc _).alloc _) b a n 1 er HE.out hne hn).mono ?_
  rintro e w1 ⟨rfl, hb⟩
  go_wp2
  go_ret
  exact ⟨rfl, box2_below hb⟩

set_option maxHeartbeats 400000 in
theorem store_ok (R : RepAt w mb lm loc S) (k : Nat) (l : List Cl) (hl : S.at k = some l) (n : Nat) (x : Wd) (hn : n < l.length) :
    Calls Tryd.prog 55 #[.pointer (some ⟨mb, 0, none⟩), .agg #[.bool true, .int .i64 ((k : Int) + 1), .int .i64 (n : Int)], .agg #[.bool x.p, .int .i64 x.a, .int .i64 x.n]] w fun e w' =>
      e = .returned (.int .i64 0) ∧ Turned w w' mb lm loc S (S.setb k (some (l.set n (some x)))) := by
  go_enter Tryd.func55, Tryd.ntmps55
  go_wp2_with fail
  refine (span_ok ((R.alloc _).alloc _) k l hl n 1 (by omega) (R.len hl)).mono ?_
  rintro e w1 ⟨⟨ad, rfl, had⟩, hb⟩
  obtain rfl := had (by omega)
  have hrow := (((R.alloc _).alloc _).below hb).blk k l hl
  obtain ⟨c, hc⟩ : ∃ c, l[n]? = some c := ⟨_, List.getElem?_eq_getElem hn⟩
  obtain ⟨v0, v1, v2, v3, hv⟩ : ∃ v0 v1 v2 v3, cv c = [v0, v1, v2, v3] := by cases c <;> exact ⟨_, _, _, _, rfl⟩
  have g0 := row_cell hrow n 0 _ hc (by omega) v0 (by rw [hv]; rfl) (n * 4) (by omega)
  have g1 := row_cell hrow n 1 _ hc (by omega) v1 (by rw [hv]; rfl) (n * 4 + 1) (by omega)
  have g2 := row_cell hrow n 2 _ hc (by omega) v2 (by rw [hv]; rfl) (n * 4 + 2) (by omega)
  have g3 := row_cell hrow n 3 _ hc (by omega) v3 (by rw [hv]; rfl) (n * 4 + 3) (by omega)
  have gf : ∀ j, w1.frozen? ⟨loc k, j, none⟩ = false := fun j => by simp [World.frozen?, hrow]
  have HR := Lib.hid hrow
  have HV := Lib.hid hv
  have HC := Lib.hid hc
  clear hrow hv hc had
  have q0 := box2_cell hb 0 (.bool x.p) rfl
  have q1 := box2_cell hb 1 (.int .i64 x.a) rfl
  have q2 := box2_cell hb 2 (.int .i64 x.n) rfl
  go_wp2
  go_ret
  refine ⟨rfl, row_rep R hl (by simp) (box2_below hb) ?_ (fun b hne => ?_) ⟨rfl, rfl, rfl, by simp [World.setCell]⟩⟩
  · rw [heap_setCell_same (heap_setCell_same (heap_setCell_same (heap_setCell_same HR.out _ _) _ _) _ _) _ _, rowv_set l n hn (some x) _ _ _ _ rfl]
  · rw [Below.heap_setCell _ _ _ _ hne, Below.heap_setCell _ _ _ _ hne, Below.heap_setCell _ _ _ _ hne, Below.heap_setCell _ _ _ _ hne]
end
end Go.Proofs.YtgpkhdccchpljaaDoor.M

namespace Go.Proofs.YtgpkhdccchpljaaDoor.M
open Go.RowKit

set_option maxHeartbeats 400000 in
theorem off_any (b : Bool) (a n k : Int) (w : World) (hs : -9223372036854775808 ≤ n + k ∧ n + k ≤ 9223372036854775807) (hb : b = true) :
    Calls Tryd.prog 44 #[.agg #[.bool b, .int .i64 a, .int .i64 n], .int .i64 k] w fun e w' => e = .returned (.tuple #[.agg #[.bool true, .int .i64 a, .int .i64 (n + k)], .int .i64 0]) ∧ Below w.heap.size w w' := by
  subst hb
  go_enter Tryd.func44, Tryd.ntmps44
  go_wp2
  go_returns
  exact ⟨rfl, by go_grown⟩

set_option maxHeartbeats 400000 in
theorem new_run (k : Int) (w : World) :
    Calls Tryd.prog 20 #[.int .i64 k] w fun e w' => e = .returned (.pointer (some ⟨w.heap.size, 0, none⟩)) ∧ w' = w.alloc (memObj (min (max k 0) 1048576) 0 0 none) := by
  go_enter Tryd.func20, Tryd.ntmps20
  go_wp2
  all_goals go_ret
  · rw [show min (max k 0) 1048576 = 0 by omega]; exact ⟨rfl, rfl⟩
  · rw [show min (max k 0) 1048576 = 1048576 by omega]; exact ⟨rfl, rfl⟩
  · rw [show min (max k 0) 1048576 = k by omega]; exact ⟨rfl, rfl⟩

theorem new_any (k r : Int) (w : World) (hr : r = min (max k 0) 1048576) :
    Calls Tryd.prog 20 #[.int .i64 k] w fun e w' => e = .returned (.pointer (some ⟨w.heap.size, 0, none⟩)) ∧ RepAt w' w.heap.size none (fun _ => 0) ⟨r, []⟩ ∧ Below w.heap.size w w' ∧ w.heap.size < w'.heap.size := by
  refine (new_run k w).mono ?_
  rintro e w' ⟨rfl, rfl⟩
  rw [← hr]
  have hat : ∀ k, MS.at ⟨r, []⟩ k = none := fun k => rfl
  refine ⟨rfl, ⟨heap_alloc_new w _, by show 0 ≤ r; omega, by show r ≤ 1048576; omega, by show (0 : Int) ≤ r; omega, by simp, fun _ => rfl, (by intro lb h; cases h), ?_, ?_⟩, (Below.refl _ _).alloc (Nat.le_refl _) _, by simp⟩
  · intro k l h; rw [hat] at h; cases h
  · intro j k l l' h; rw [hat] at h; cases h

section
variable {w : World} {mb : Nat} {lm : Option Nat} {loc : Nat → Nat} {S : MS}

theorem alloc_any (R : RepAt w mb lm loc S) (n A : Int) (h0 : 0 ≤ n) (hn : n ≤ S.room - S.words) (hmade : S.blocks.length + 1 < 1000000) (hA : A = (S.blocks.length : Int) + 1) :
    Calls Tryd.prog 38 #[.pointer (some ⟨mb, 0, none⟩), .int .i64 n] w fun e w' => e = .returned (.tuple #[.agg #[.bool true, .int .i64 A, .int .i64 0], .int .i64 0]) ∧ Turned w w' mb lm loc S (S.push n.toNat) := by
  obtain ⟨N, rfl⟩ : ∃ N : Nat, n = N := ⟨n.toNat, by omega⟩
  subst hA
  cases lm with
  | none => exact alloc_none R N hn hmade
  | some lb => exact alloc_some R N hn hmade

theorem load_any (R : RepAt w mb lm loc S) (b : Bool) (a n : Int) (x : Wd) (er : Int) (h : loadR S b a n = (x, er)) :
    Calls Tryd.prog 45 #[.pointer (some ⟨mb, 0, none⟩), .agg #[.bool b, .int .i64 a, .int .i64 n]] w fun e w' =>
      e = .returned (.tuple #[.agg #[.bool x.p, .int .i64 x.a, .int .i64 x.n], .int .i64 er]) ∧ Below w.heap.size w w' := by
  unfold loadR at h
  by_cases he : storedE S b a n 1 = 0
  · rw [if_neg (by simp [he])] at h
    obtain ⟨k, N, l, rfl, rfl, rfl, hl, hN, hs⟩ := storedE_zero he (by omega)
    rw [show ((k : Int) + 1 - 1).toNat = k by omega, hl] at h
    have hd := scanE_drop l N 1 0 (by omega)
    simp only [Nat.add_zero, Nat.sub_zero] at hd
    rw [show (1 : Int).toNat = 1 from rfl, hd] at hs
    cases hx : l[N]? with
    | none => rw [hx] at hs; simp at hs
    | some c =>
      cases c with
      | none => rw [hx] at hs; simp at hs
      | some y =>
        simp only [Int.toNat_natCast, hx, Prod.mk.injEq] at h
        obtain ⟨rfl, rfl⟩ := h
        exact load_ok R k l hl N y hx
  · rw [if_pos he] at h
    simp only [Prod.mk.injEq] at h
    obtain ⟨rfl, rfl⟩ := h
    exact load_fail R b a n _ rfl he

theorem store_any (R : RepAt w mb lm loc S) (b : Bool) (a n : Int) (p : Bool) (xa xn : Int) (k N : Nat) (l : List Cl) (hb : b = true) (ha : a = (k : Int) + 1) (hn : n = N) (hl : S.at k = some l) (hN : N < l.length) :
    Calls Tryd.prog 55 #[.pointer (some ⟨mb, 0, none⟩), .agg #[.bool b, .int .i64 a, .int .i64 n], .agg #[.bool p, .int .i64 xa, .int .i64 xn]] w fun e w' =>
      e = .returned (.int .i64 0) ∧ Turned w w' mb lm loc S (S.setb k (some (l.set N (some ⟨p, xa, xn⟩)))) := by
  subst hb ha hn
  exact store_ok R k l hl N ⟨p, xa, xn⟩ hN
end

/-- a local variable of type Word lies in block b and holds p, a, n -/
def Var (w : World) (b : Nat) (p : Bool) (a n : Int) : Prop := w.heap[b]? = some (.cells #[.bool p, .int .i64 a, .int .i64 n] 38)
theorem Var.mk (w : World) (p : Bool) (a n : Int) : Var (w.alloc (.cells #[.bool p, .int .i64 a, .int .i64 n] 38)) w.heap.size p a n := heap_alloc_new w _
theorem Var.lt {w : World} {b : Nat} {p : Bool} {a n : Int} (h : Var w b p a n) : b < w.heap.size := (Array.getElem?_eq_some_iff.1 h).1
theorem Var.below {w w' : World} {b : Nat} {p : Bool} {a n : Int} (h : Var w b p a n) (hb : Below w.heap.size w w') : Var w' b p a n := (hb.block b h.lt).trans h
theorem Var.alloc {w : World} {b : Nat} {p : Bool} {a n : Int} (h : Var w b p a n) (o : Obj) : Var (w.alloc o) b p a n := h.below ((Below.refl _ _).alloc (Nat.le_refl _) _)
theorem Var.kept {w w' : World} {b : Nat} {p : Bool} {a n : Int} {O : Nat → Prop} (h : Var w b p a n) (hk : Kept O w w') (ho : ¬ O b) : Var w' b p a n := (hk.block b h.lt ho).trans h
theorem Var.cells {w : World} {b : Nat} {p : Bool} {a n : Int} (h : Var w b p a n) : w.cell? ⟨b, 0, none⟩ = some (.bool p) ∧ w.cell? ⟨b, 1, none⟩ = some (.int .i64 a) ∧ w.cell? ⟨b, 2, none⟩ = some (.int .i64 n) := by
  unfold Var at h
  refine ⟨?_, ?_, ?_⟩ <;> simp [World.cell?, h]

/-- block b is none of the memory's -/
def Free (mb : Nat) (lm : Option Nat) (loc : Nat → Nat) (S : MS) (b : Nat) : Prop := ¬ Owned mb lm loc S b
theorem RepAt.free {w : World} {mb : Nat} {lm : Option Nat} {loc : Nat → Nat} {S : MS} (R : RepAt w mb lm loc S) : Free mb lm loc S w.heap.size := fun h => by have := R.lt _ h; omega
theorem Free.turned {w : World} {mb : Nat} {lm lm' : Option Nat} {loc loc' : Nat → Nat} {S S' : MS} {b : Nat} (h : Free mb lm loc S b) (hO : ∀ b, Owned mb lm' loc' S' b → Owned mb lm loc S b ∨ w.heap.size ≤ b) (hb : b < w.heap.size) : Free mb lm' loc' S' b := fun h' => by
  rcases hO b h' with h1 | h1
  · exact h h1
  · omega
theorem Kept.below {B : Nat} {O : Nat → Prop} {a w w' : World} (h : Below B a w) (hk : Kept O w w') (hB : B ≤ w.heap.size) (ho : ∀ b, O b → B ≤ b) : Below B a w' :=
  h.trans ⟨hk.os, hk.tape, hk.output, hk.size, fun b hb => hk.block b (by omega) fun h => by have := ho b h; omega⟩

/-- a memory that the call itself made: it lies from block B on; below B nothing has turned since w0 -/
structure St (B : Nat) (w0 w : World) (mb : Nat) (lm : Option Nat) (loc : Nat → Nat) (S : MS) : Prop where
  rep : RepAt w mb lm loc S
  own : ∀ b, Owned mb lm loc S b → B ≤ b
  below : Below B w0 w
  le : B ≤ w.heap.size

theorem St.alloc {B : Nat} {w0 w : World} {mb : Nat} {lm : Option Nat} {loc : Nat → Nat} {S : MS} (h : St B w0 w mb lm loc S) (o : Obj) : St B w0 (w.alloc o) mb lm loc S :=
  ⟨h.rep.alloc o, h.own, h.below.alloc h.le o, by have := h.le; simp; omega⟩
theorem St.next {B : Nat} {w0 w w' : World} {mb : Nat} {lm : Option Nat} {loc : Nat → Nat} {S : MS} (h : St B w0 w mb lm loc S) (hb : Below w.heap.size w w') : St B w0 w' mb lm loc S :=
  ⟨h.rep.below hb, h.own, h.below.trans (hb.mono h.le), Nat.le_trans h.le hb.size⟩
theorem St.turned {B : Nat} {w0 w w' : World} {mb : Nat} {lm : Option Nat} {loc : Nat → Nat} {S S' : MS} (h : St B w0 w mb lm loc S) (ht : Turned w w' mb lm loc S S') :
    ∃ lm' loc', St B w0 w' mb lm' loc' S' ∧ (∀ b, b < w.heap.size → Free mb lm loc S b → Free mb lm' loc' S' b) ∧ Kept (Owned mb lm loc S) w w' := by
  obtain ⟨lm', loc', R, hO, hK⟩ := ht
  have hle := h.le
  have hsz := hK.size
  refine ⟨lm', loc', ⟨R, fun b hb => ?_, hK.below h.below hle h.own, by omega⟩, fun b hb hf => hf.turned hO hb, hK⟩
  rcases hO b hb with h1 | h1
  · exact h.own b h1
  · omega
theorem St.made {w0 w w' : World} {mb : Nat} {r : Int} (hb0 : Below w0.heap.size w0 w) (hle : w0.heap.size ≤ w.heap.size) (R : RepAt w' mb none (fun _ => 0) ⟨r, []⟩) (hb : Below w.heap.size w w') (hmb : mb = w.heap.size) :
    St w0.heap.size w0 w' mb none (fun _ => 0) ⟨r, []⟩ := by
  refine ⟨R, ?_, hb0.trans (hb.mono hle), Nat.le_trans hle hb.size⟩
  rintro b (rfl | h | ⟨k, l, h, _⟩)
  · omega
  · cases h
  · cases h

/-- a local variable of type Word, in a block that is none of the memory's -/
structure Loc (w : World) (mb : Nat) (lm : Option Nat) (loc : Nat → Nat) (S : MS) (b : Nat) (p : Bool) (a n : Int) : Prop where
  var : Var w b p a n
  free : Free mb lm loc S b
section
variable {w w' : World} {mb : Nat} {lm lm' : Option Nat} {loc loc' : Nat → Nat} {S S' : MS} {b : Nat} {p : Bool} {a n : Int}
theorem Loc.mk' {B : Nat} {w0 : World} (T : St B w0 w mb lm loc S) (p : Bool) (a n : Int) : Loc (w.alloc (.cells #[.bool p, .int .i64 a, .int .i64 n] 38)) mb lm loc S w.heap.size p a n := ⟨Var.mk w p a n, T.rep.free⟩
theorem Loc.next (h : Loc w mb lm loc S b p a n) (hb : Below w.heap.size w w') : Loc w' mb lm loc S b p a n := ⟨h.var.below hb, h.free⟩
theorem Loc.alloc (h : Loc w mb lm loc S b p a n) (o : Obj) : Loc (w.alloc o) mb lm loc S b p a n := ⟨h.var.alloc o, h.free⟩
theorem Loc.turned (h : Loc w mb lm loc S b p a n) (hF : ∀ b, b < w.heap.size → Free mb lm loc S b → Free mb lm' loc' S' b) (hK : Kept (Owned mb lm loc S) w w') : Loc w' mb lm' loc' S' b p a n :=
  ⟨h.var.kept hK h.free, hF b h.var.lt h.free⟩
/-- what lay there before the memory was made -/
theorem Loc.old {B : Nat} {w0 : World} (T : St B w0 w' mb lm loc S) (hv : Var w' b p a n) (hb : b < B) : Loc w' mb lm loc S b p a n := ⟨hv, fun h => by have := T.own b h; omega⟩
theorem Loc.cells (h : Loc w mb lm loc S b p a n) : w.cell? ⟨b, 0, none⟩ = some (.bool p) ∧ w.cell? ⟨b, 1, none⟩ = some (.int .i64 a) ∧ w.cell? ⟨b, 2, none⟩ = some (.int .i64 n) ∧ b < w.heap.size :=
  ⟨h.var.cells.1, h.var.cells.2.1, h.var.cells.2.2, h.var.lt⟩
end
/-- a memory made by New, by what lay below it -/
theorem St.new {B : Nat} {w0 w w' : World} {r : Int} (hb0 : Below B w0 w) (hB : B ≤ w.heap.size) (R : RepAt w' w.heap.size none (fun _ => 0) ⟨r, []⟩) (hb : Below w.heap.size w w') :
    St B w0 w' w.heap.size none (fun _ => 0) ⟨r, []⟩ ∧ ∀ b, b < w.heap.size → Free w.heap.size none (fun _ => 0) ⟨r, []⟩ b := by
  have ho : ∀ b, Owned w.heap.size none (fun _ => 0) ⟨r, []⟩ b → b = w.heap.size := by
    rintro b (rfl | h | ⟨k, l, h, _⟩)
    · rfl
    · cases h
    · cases h
  exact ⟨⟨R, fun b h => by rw [ho b h]; exact hB, hb0.trans (hb.mono hB), Nat.le_trans hB hb.size⟩, fun b hlt h => by have := ho b h; omega⟩
end Go.Proofs.YtgpkhdccchpljaaDoor.M

namespace Go.Proofs.YtgpkhdccchpljaaDoor.M
open Go.RowKit

section
variable {w : World} {mb : Nat} {lm : Option Nat} {loc : Nat → Nat} {S : MS}

set_option maxHeartbeats 400000 in
theorem free_err (R : RepAt w mb lm loc S) (b : Bool) (a n er : Int) (he : findE S b a = er) (hne : er ≠ 0) :
    Calls Tryd.prog 29 #[.pointer (some ⟨mb, 0, none⟩), .agg #[.bool b, .int .i64 a, .int .i64 n]] w fun e w' => e = .returned (.int .i64 er) ∧ Below w.heap.size w w' := by
  have HE := Lib.hid he
  have hd : (er == 0) = false := by simpa using hne
  have hd' : (er != 0) = true := by simpa using hne
  clear he
  go_enter Tryd.func29, Tryd.ntmps29
  go_wp2_with fail
  refine (find_err (R.alloc _) b a n er HE.out hne).mono ?_
  rintro e w1 ⟨rfl, hb⟩
  go_wp2
  go_ret
  exact ⟨rfl, box_below hb⟩

set_option maxHeartbeats 400000 in
theorem free_range (R : RepAt w mb lm loc S) (k : Nat) (l : List Cl) (hl : S.at k = some l) (n : Int) (hn : n ≠ 0) :
    Calls Tryd.prog 29 #[.pointer (some ⟨mb, 0, none⟩), .agg #[.bool true, .int .i64 ((k : Int) + 1), .int .i64 n]] w fun e w' => e = .returned (.int .i64 13) ∧ Below w.heap.size w w' := by
  have hd : (n == 0) = false := by simpa using hn
  have hd' : (n != 0) = true := by simpa using hn
  go_enter Tryd.func29, Tryd.ntmps29
  go_wp2_with fail
  refine (find_ok (R.alloc _) k l hl n).mono ?_
  rintro e w1 ⟨rfl, hb⟩
  have q2 := box_cell hb 2 _ rfl
  go_wp2
  go_ret
  exact ⟨rfl, box_below hb⟩

theorem words_none {k : Nat} {l : List Cl} (hl : S.at k = some l) : (S.setb k none).words + l.length = S.words := by
  have := sum_set S.blocks k _ none (at_some hl)
  simp only [szO] at this
  show ((S.blocks.set k none).map szO).sum + l.length = (S.blocks.map szO).sum
  omega
theorem live_none' {k : Nat} {l : List Cl} (hl : S.at k = some l) : (S.setb k none).live + 1 = S.live := live_none S.blocks k l (at_some hl)

theorem free_rep {w1 W3 : World} {lb : Nat} {D : DataW Unit} (R : RepAt w mb (some lb) loc S) {k : Nat} {l : List Cl} (hl : S.at k = some l) (hb : Below w.heap.size w w1) (hM : MapIs S loc D) (hD : Maps.Tidy D)
    (hD3 : W3.ownsMap Tryd.prog 3 locElem lb S.blocks.length (D.del (key k))) (hg : (w1.setCell ⟨mb, 1, none⟩ (.int .i64 ((S.words : Int) - l.length))).drew.grownBy W3 (some lb)) :
    Turned w W3 mb (some lb) loc S (S.setb k none) := by
  have hkl := at_lt hl
  have hw := words_none hl
  have hmb := R.lt mb (.inl rfl)
  have hlb := R.lt lb (.inr (.inl rfl))
  have hs1 := hb.size
  have hne : mb ≠ lb := by
    rintro rfl
    obtain ⟨D, ⟨es, clock, hbb, _⟩, _⟩ := R.map _ rfl
    rw [R.obj] at hbb
    cases hbb
  have hobj1 : w1.heap[mb]? = some (memObj S.room S.words S.blocks.length (some lb)) := (hb.block mb hmb).trans R.obj
  have hs2 : (w1.setCell ⟨mb, 1, none⟩ (.int .i64 ((S.words : Int) - l.length))).drew.heap.size = w1.heap.size := by simp [World.setCell, World.drew]
  have old : ∀ b, b < w.heap.size → b ≠ mb → b ≠ lb → W3.heap[b]? = w.heap[b]? := fun b h1 h2 h3 =>
    (hg.block b (by rw [hs2]; omega) (by simpa using h3)).trans ((Below.heap_setCell w1 ⟨mb, 1, none⟩ _ b h2).trans (hb.block b h1))
  have hobj : W3.heap[mb]? = some (memObj S.room ((S.words : Int) - l.length) S.blocks.length (some lb)) := by
    refine (hg.block mb (by rw [hs2]; omega) (by simpa using hne)).trans ?_
    exact heap_setCell_same hobj1 1 _
  have hat : ∀ j m, (S.setb k none).at j = some m → j ≠ k ∧ S.at j = some m := fun j m hj => by
    rw [at_setb S k _ hkl] at hj
    split at hj
    · cases hj
    · exact ⟨‹_›, hj⟩
  refine ⟨some lb, loc, ⟨?_, R.room0, R.room1, ?_, ?_, by simp, ?_, ?_, ?_⟩, ?_, ?_⟩
  · rw [hobj]
    have : ((S.words : Int) - l.length) = ((S.setb k none).words : Int) := by omega
    rw [this]
    simp [MS.setb]
  · have := R.words
    show (((S.setb k none).words : Nat) : Int) ≤ S.room
    omega
  · simpa [MS.setb] using R.made
  · intro lb' e
    cases e
    refine ⟨D.del (key k), ?_, ?_, ?_, ?_⟩
    · have : (S.setb k none).blocks.length = S.blocks.length := by simp [MS.setb]
      rw [this]
      exact hD3
    · have h1 := Maps.size_del (k := key k) hD
      rw [(hM.some k l hl).1, hM.size] at h1
      have h2 := live_none' hl
      simp only [if_true] at h1
      omega
    · intro j m hj
      obtain ⟨hne', hj'⟩ := hat j m hj
      rw [Maps.has_del_other (key_ne hne')]
      exact ⟨(hM.some j m hj').1, fun z => (Maps.atKey_del_other (key_ne hne') z).trans ((hM.some j m hj').2 z)⟩
    · intro j hj
      by_cases e : j = k
      · rw [e]; exact Maps.has_del_same
      · rw [at_setb S k _ hkl, if_neg e] at hj
        rw [Maps.has_del_other (key_ne e)]
        exact hM.none j hj
  · intro j m hj
    obtain ⟨_, hj'⟩ := hat j m hj
    have ne := R.loc_ne hj'
    rw [old _ (R.lt _ (.inr (.inr ⟨j, m, hj', rfl⟩))) ne.1 fun e => ne.2 (by rw [e])]
    exact R.blk j m hj'
  · intro i j m m' hi hj e
    exact R.inj i j m m' (hat i m hi).2 (hat j m' hj).2 e
  · rintro b (rfl | h | ⟨j, m, hj, rfl⟩)
    · exact .inl (.inl rfl)
    · exact .inl (.inr (.inl h))
    · exact .inl (.inr (.inr ⟨j, m, (hat j m hj).2, rfl⟩))
  · refine ⟨hg.os.trans hb.os, hg.tape.trans hb.tape, hg.output.trans hb.output, by have := hg.size; omega, fun b h1 ho => old b h1 (fun e => ho (.inl e)) fun e => ho (.inr (.inl (by rw [e])))⟩

set_option maxHeartbeats 400000 in
theorem free_ok (R : RepAt w mb lm loc S) (k : Nat) (l : List Cl) (hl : S.at k = some l) :
    Calls Tryd.prog 29 #[.pointer (some ⟨mb, 0, none⟩), .agg #[.bool true, .int .i64 ((k : Int) + 1), .int .i64 0]] w fun e w' => e = .returned (.int .i64 0) ∧ Turned w w' mb lm loc S (S.setb k none) := by
  cases lm with
  | none => have := at_lt hl; rw [R.nomap rfl] at this; simp at this
  | some lb =>
  have hk := at_lt hl
  have hlen := at_len hl
  have b1 := R.room0
  have b2 := R.room1
  have b3 := R.words
  have b4 := R.made
  obtain ⟨D, hD, hM⟩ := R.map lb rfl
  have hmb0 := R.lt mb (.inl rfl)
  have hlb0 := R.lt lb (.inr (.inl rfl))
  have HO := Lib.hid R.obj
  have hne : mb ≠ lb := by
    rintro rfl
    obtain ⟨es, clock, hbb, _⟩ := hD
    rw [R.obj] at hbb
    cases hbb
  go_enter Tryd.func29, Tryd.ntmps29
  go_wp2_with fail
  refine (find_ok (R.alloc _) k l hl 0).mono ?_
  rintro e w1 ⟨rfl, hb⟩
  have q1 := box_cell hb 1 (.int .i64 ((k : Int) + 1)) rfl
  have q2 := box_cell hb 2 (.int .i64 0) rfl
  have hbw := box_below hb
  have hobj : w1.heap[mb]? = some (memObj S.room S.words S.blocks.length (some lb)) := (hbw.block mb hmb0).trans HO.out
  obtain ⟨c0, c1, c2, c3⟩ := obj_cells hobj
  have f1 : w1.frozen? ⟨mb, 1, none⟩ = false := by simp [World.frozen?, hobj, memObj]
  have hsz := hbw.size
  have hs1 : w.heap.size < w1.heap.size := by have := hb.size; simp at this; omega
  have hD1 : (w1.setCell ⟨mb, 1, none⟩ (.int .i64 ((S.words : Int) - l.length))).drew.ownsMap Tryd.prog 3 locElem lb S.blocks.length D := by
    obtain ⟨es, clock, hbb, r⟩ := hD
    exact ⟨es, clock, (Below.heap_setCell w1 ⟨mb, 1, none⟩ _ lb (Ne.symm hne)).trans ((hbw.block lb hlb0).trans hbb), r⟩
  obtain ⟨W3, hdel, hD3, hturn⟩ := hD1.drop keyLaw Tryd.underlying94 (keyOf_key (by omega : k < 1000000)) 0
  have hg := hturn.grown
  have HOB := Lib.hid hobj
  clear hobj
  go_wp2
  go_region
  go_wp2
  go_ret
  refine ⟨rfl, ?_⟩
  exact free_rep R hl hbw hM (hD.tidy keyLaw) hD3 hg
end
end Go.Proofs.YtgpkhdccchpljaaDoor.M

namespace Go.Proofs.YtgpkhdccchpljaaDoor.M
open Go.RowKit

theorem rowv_take (l : List Cl) (n : Nat) : (rowv l).take (n * 4) = rowv (l.take n) := by
  by_cases h : n ≤ l.length
  · conv => lhs; rw [← List.take_append_drop n l, rowv_append]
    rw [List.take_append_of_le_length (by rw [rowv_length, List.length_take]; omega), List.take_of_length_le (by rw [rowv_length, List.length_take]; omega)]
  · rw [List.take_of_length_le (by rw [rowv_length]; omega), List.take_of_length_le (by omega)]
theorem rowv_drop (l : List Cl) (n : Nat) : (rowv l).drop (n * 4) = rowv (l.drop n) := by
  by_cases h : n ≤ l.length
  · conv => lhs; rw [← List.take_append_drop n l, rowv_append]
    rw [List.drop_append_of_le_length (by rw [rowv_length, List.length_take]; omega), List.drop_of_length_le (by rw [rowv_length, List.length_take]; omega)]
    simp
  · rw [List.drop_of_length_le (by rw [rowv_length]; omega), List.drop_of_length_le (by omega)]
    rfl

/-- where c words from n on are others -/
def lay (l : List Cl) (n : Nat) (cs : List Cl) : List Cl := l.take n ++ cs ++ l.drop (n + cs.length)
theorem lay_length (l : List Cl) (n : Nat) (cs : List Cl) (h : n + cs.length ≤ l.length) : (lay l n cs).length = l.length := by simp [lay]; omega
theorem rowv_lay (l : List Cl) (n : Nat) (cs : List Cl) : (rowv l).take (n * 4) ++ rowv cs ++ (rowv l).drop (n * 4 + (rowv cs).length) = rowv (lay l n cs) := by
  rw [lay, rowv_append, rowv_append, rowv_take, rowv_length, show n * 4 + 4 * cs.length = (n + cs.length) * 4 by omega, rowv_drop]

theorem cv_one (l : List Cl) : ∀ v ∈ rowv l, v.oneCell' = true := by
  intro v hv
  obtain ⟨c, _, hc⟩ := List.mem_flatMap.1 hv
  cases c <;> simp [cv] at hc <;> rcases hc with rfl | rfl | rfl | rfl <;> rfl

theorem size69 : (Tryd.prog.info? 126).map (·.size) = some 4 := by kernel_rfl
theorem zero69 (w : World) : (zeroValue 126).run Tryd.prog w = .ok (.agg #[.bool false, .int .i64 0, .int .i64 0, .bool false]) w := by kernel_rfl

theorem run_copy_wide {P : Program} (w : World) (dT sT ty elem : TypeId) (g o dLen dCap : Nat) (a : Addr) (sLen sCap sz : Nat) (cur : Array Value) (t : TypeId) (cs : List Value)
    (hu : P.underlying dT = some (.slice elem)) (hs : (P.info? elem).map (·.size) = some sz)
    (hg : w.heap[g]? = some (.cells cur t (0, 0))) (hn : cs.length = Nat.min sLen dLen * sz)
    (hsrc : ∀ j v, cs[j]? = some v → w.cell? (a.add j) = some v) (hfit : o + cs.length ≤ cur.size) (h1 : ∀ v ∈ cs, v.oneCell' = true) :
    (Builtin.copy_ #[dT, sT] ty #[.slice (some ⟨g, o, none⟩) dLen dCap, .slice (some a) sLen sCap]).run P w =
      .ok (goInt (Nat.min sLen dLen)) (w.setRow g (cur.toList.take o ++ cs ++ cur.toList.drop (o + cs.length)).toArray) := by
  have hl := run_loadCells_list (P := P) w a cs hsrc
  have hst := run_storeCells_at P g o t cs 0 cur w hg (by simpa using hfit) h1
  cases hq : P.info? elem with
  | none => simp [hq] at hs
  | some i =>
    have hi : i.size = sz := by simpa [hq] using hs
    simp [Builtin.copy_, run_underlying hu, Builtin.lenOf, Builtin.firstCells, sizeOf, typeInfo, hq, hi, ← hn, hl, hst]

theorem run_clear_wide {P : Program} (w : World) (t e ty : TypeId) (z : Value) (ht : P.underlying t = some (.slice e)) (hv : ∀ w, (zeroValue e).run P w = .ok z w) (g o n c : Nat) (hn : 0 < n) (cur : Array Value) (tt : TypeId) (cs : List Value)
    (hz : (Builtin.zeroCells z.cells n).toList = cs) (hg : w.heap[g]? = some (.cells cur tt (0, 0))) (hfit : o + cs.length ≤ cur.size) (h1 : ∀ v ∈ cs, v.oneCell' = true) :
    (Builtin.clear_ #[t] ty #[.slice (some ⟨g, o, none⟩) n c]).run P w = .ok (.tuple #[]) (w.setRow g (cur.toList.take o ++ cs ++ cur.toList.drop (o + cs.length)).toArray) := by
  have hst := run_storeCells_at P g o tt cs 0 cur w hg (by simpa using hfit) h1
  obtain ⟨m, rfl⟩ : ∃ m, n = m + 1 := ⟨n - 1, by omega⟩
  simp [Builtin.clear_, run_underlying ht, hv, hz, hst]

theorem zeroCells_eq (n : Nat) : (Builtin.zeroCells #[.bool false, .int .i64 0, .int .i64 0, .bool false] n).toList = rowv (List.replicate n none) := by
  have h := zeros_eq n
  unfold madeCells at h
  unfold Builtin.zeroCells
  have h2 := congrArg Array.toList h
  simpa using h2

theorem run_clear_nil (w : World) (ad : Option Addr) (c : Nat) (ty : TypeId) : (Builtin.clear_ #[107] ty #[.slice ad 0 c]).run Tryd.prog w = .ok (.tuple #[]) w := by
  cases ad <;> simp [Builtin.clear_, run_underlying Tryd.underlying107]

section
variable {w : World} {mb : Nat} {lm : Option Nat} {loc : Nat → Nat} {S : MS}

theorem clear_row {w1 : World} {b : Nat} {l : List Cl} (hrow : w1.heap[b]? = some (.cells (rowv l).toArray 126)) (n c cap : Nat) (hc : 0 < c) (hnc : n + c ≤ l.length) (ty : TypeId) :
    (Builtin.clear_ #[107] ty #[.slice (some ⟨b, n * 4, none⟩) c cap]).run Tryd.prog w1 = .ok (.tuple #[]) (w1.setRow b (rowv (lay l n (List.replicate c none))).toArray) := by
  have h := run_clear_wide w1 107 126 ty _ Tryd.underlying107 zero69 b (n * 4) c cap hc _ 126 _ (zeroCells_eq c) hrow (by simp [rowv_length]; omega) (cv_one _)
  rw [List.toList_toArray, rowv_lay] at h
  exact h

theorem copy_row {w1 : World} {b d : Nat} {l m : List Cl} (hrow : w1.heap[b]? = some (.cells (rowv l).toArray 126)) (hsrc : w1.heap[d]? = some (.cells (rowv m).toArray 126)) (n f c cap cap' : Nat) (hnc : n + c ≤ l.length) (hfc : f + c ≤ m.length) (ty : TypeId) :
    (Builtin.copy_ #[107, 107] ty #[.slice (some ⟨b, n * 4, none⟩) c cap, .slice (some ⟨d, f * 4, none⟩) c cap']).run Tryd.prog w1 = .ok (goInt c) (w1.setRow b (rowv (lay l n ((m.drop f).take c))).toArray) := by
  have hlen : ((m.drop f).take c).length = c := by simp; omega
  have hl4 : (rowv ((m.drop f).take c)).length = 4 * c := by rw [rowv_length, hlen]
  have hmin : Nat.min c c = c := Nat.min_self c
  have h := run_copy_wide (P := Tryd.prog) w1 107 107 ty 126 b (n * 4) c cap ⟨d, f * 4, none⟩ c cap' 4 _ 126 (rowv ((m.drop f).take c)) Tryd.underlying107 size69 hrow (by rw [hl4, hmin]; omega) ?_ (by simp [rowv_length]; omega) (cv_one _)
  · rw [List.toList_toArray, rowv_lay, hmin] at h
    exact h
  · intro j v hv
    have hadd : (⟨d, f * 4, none⟩ : Addr).add j = ⟨d, f * 4 + j, none⟩ := by unfold Addr.add; split <;> simp_all
    rw [hadd]
    simp only [World.cell?, hsrc]
    rw [← rowv_take, ← rowv_drop, List.getElem?_take] at hv
    split at hv
    · rw [List.getElem?_drop] at hv
      simpa using hv
    · cases hv

set_option maxHeartbeats 400000 in
theorem clear_neg (mb : Nat) (b : Bool) (a n c : Int) (w : World) (hc : c < 0) :
    Calls Tryd.prog 79 #[.pointer (some ⟨mb, 0, none⟩), .agg #[.bool b, .int .i64 a, .int .i64 n], .int .i64 c] w fun e w' => e = .returned (.int .i64 1) ∧ Below w.heap.size w w' := by
  have hd : decide (c < 0) = true := by simpa using hc
  go_enter Tryd.func79, Tryd.ntmps79
  go_wp2
  go_ret
  exact ⟨rfl, by go_grown⟩

set_option maxHeartbeats 400000 in
theorem clear_fail (R : RepAt w mb lm loc S) (b : Bool) (a n c er : Int) (he : spanE S b a n c = er) (hne : er ≠ 0) (hn : n ≤ 9223372036854775807) (hc : 0 ≤ c) :
    Calls Tryd.prog 79 #[.pointer (some ⟨mb, 0, none⟩), .agg #[.bool b, .int .i64 a, .int .i64 n], .int .i64 c] w fun e w' => e = .returned (.int .i64 er) ∧ Below w.heap.size w w' := by
  have HE := Lib.hid he
  have hd : (er == 0) = false := by simpa using hne
  have hd' : (er != 0) = true := by simpa using hne
  have hd2 : decide (c < 0) = false := by simpa using hc
  clear he
  go_enter Tryd.func79, Tryd.ntmps79
  go_wp2_with fail
  refine (span_fail (R.alloc _) b a n c er HE.out hne hn).mono ?_
  rintro e w1 ⟨rfl, hb⟩
  go_wp2
  go_ret
  exact ⟨rfl, box_below hb⟩

set_option maxHeartbeats 400000 in
theorem clear_ok (R : RepAt w mb lm loc S) (k : Nat) (l : List Cl) (hl : S.at k = some l) (n c : Nat) (hnc : n + c ≤ l.length) :
    Calls Tryd.prog 79 #[.pointer (some ⟨mb, 0, none⟩), .agg #[.bool true, .int .i64 ((k : Int) + 1), .int .i64 (n : Int)], .int .i64 (c : Int)] w fun e w' =>
      e = .returned (.int .i64 0) ∧ Turned w w' mb lm loc S (S.setb k (some (lay l n (List.replicate c none)))) := by
  have hd2 : decide ((c : Int) < 0) = false := by simp
  by_cases hc : c = 0
  · subst hc
    have hlay : lay l n (List.replicate 0 none) = l := by simp [lay]
    rw [hlay]
    go_enter Tryd.func79, Tryd.ntmps79
    go_wp2_with fail
    refine (span_ok (R.alloc _) k l hl n 0 hnc (R.len hl)).mono ?_
    rintro e w1 ⟨⟨ad, rfl, had⟩, hb⟩
    have hrun := fun ty => run_clear_nil w1 (some ad) (l.length - n) ty
    clear had
    go_wp2
    go_ret
    exact ⟨rfl, row_rep R hl rfl (box_below hb) (((R.alloc _).below hb).blk k l hl) (fun _ _ => rfl) ⟨rfl, rfl, rfl, Nat.le_refl _⟩⟩
  · go_enter Tryd.func79, Tryd.ntmps79
    go_wp2_with fail
    refine (span_ok (R.alloc _) k l hl n c hnc (R.len hl)).mono ?_
    rintro e w1 ⟨⟨ad, rfl, had⟩, hb⟩
    obtain rfl := had (by omega)
    have hrow := ((R.alloc _).below hb).blk k l hl
    have hrun := fun ty => clear_row hrow n c (l.length - n) (by omega) hnc ty
    have HR := Lib.hid hrow
    clear hrow had
    go_wp2
    go_ret
    refine ⟨rfl, row_rep R hl (by rw [lay_length _ _ _ (by simpa using hnc)]) (box_below hb) (setRow_heap w1 _ _ _ _ _ HR.out) (fun b hne => setRow_other w1 _ b _ hne) ⟨rfl, rfl, rfl, by simp [World.setRow]⟩⟩
set_option maxHeartbeats 400000 in
theorem copy_neg (mb : Nat) (b b' : Bool) (a n a' n' c : Int) (w : World) (hc : c < 0) :
    Calls Tryd.prog 78 #[.pointer (some ⟨mb, 0, none⟩), .agg #[.bool b, .int .i64 a, .int .i64 n], .agg #[.bool b', .int .i64 a', .int .i64 n'], .int .i64 c] w fun e w' => e = .returned (.int .i64 1) ∧ Below w.heap.size w w' := by
  have hd : decide (c < 0) = true := by simpa using hc
  go_enter Tryd.func78, Tryd.ntmps78
  go_wp2
  go_ret
  exact ⟨rfl, by go_grown⟩

set_option maxHeartbeats 400000 in
theorem copy_fail1 (R : RepAt w mb lm loc S) (b b' : Bool) (a n a' n' : Int) (c : Nat) (er : Int) (he : storedE S b' a' n' c = er) (hne : er ≠ 0) (hc : (c : Int) < 9223372036854775807) :
    Calls Tryd.prog 78 #[.pointer (some ⟨mb, 0, none⟩), .agg #[.bool b, .int .i64 a, .int .i64 n], .agg #[.bool b', .int .i64 a', .int .i64 n'], .int .i64 (c : Int)] w fun e w' => e = .returned (.int .i64 er) ∧ Below w.heap.size w w' := by
  have HE := Lib.hid he
  have hd : (er == 0) = false := by simpa using hne
  have hd' : (er != 0) = true := by simpa using hne
  have hd2 : decide ((c : Int) < 0) = false := by simp
  clear he
  go_enter Tryd.func78, Tryd.ntmps78
  go_wp2_with fail
  refine (stored_fail ((R.alloc _).alloc _) b' a' n' c er HE.out hne hc).mono ?_
  rintro e w1 ⟨rfl, hb⟩
  go_wp2
  go_ret
  exact ⟨rfl, box2_below hb⟩

set_option maxHeartbeats 400000 in
theorem copy_fail2 (R : RepAt w mb lm loc S) (b b' : Bool) (a n a' n' : Int) (c : Nat) (er : Int) (h0 : storedE S b' a' n' c = 0) (he : spanE S b a n c = er) (hne : er ≠ 0) (hn : n ≤ 9223372036854775807) (hc' : c < 9223372036854775807) :
    Calls Tryd.prog 78 #[.pointer (some ⟨mb, 0, none⟩), .agg #[.bool b, .int .i64 a, .int .i64 n], .agg #[.bool b', .int .i64 a', .int .i64 n'], .int .i64 (c : Int)] w fun e w' => e = .returned (.int .i64 er) ∧ Below w.heap.size w w' := by
  have HE := Lib.hid he
  have hd : (er == 0) = false := by simpa using hne
  have hd' : (er != 0) = true := by simpa using hne
  have hd2 : decide ((c : Int) < 0) = false := by simp
  clear he
  by_cases hc : c = 0
  · subst hc
    go_enter Tryd.func78, Tryd.ntmps78
    go_wp2_with fail
    refine (stored_zero mb b' a' n' _).mono ?_
    rintro e w1 ⟨rfl, hb⟩
    have Rn := ((R.alloc (.cells #[.bool b, .int .i64 a, .int .i64 n] 38)).alloc (.cells #[.bool b', .int .i64 a', .int .i64 n'] 38)).below hb
    have v := ((Var.mk w b a n).alloc (.cells #[.bool b', .int .i64 a', .int .i64 n'] 38)).below hb
    obtain ⟨p0, p1, p2⟩ := v.cells
    go_wp2_with fail
    refine (span_fail Rn b a n 0 er HE.out hne hn).mono ?_
    rintro e w2 ⟨rfl, hb2⟩
    go_wp2
    go_ret
    exact ⟨rfl, (box2_below hb).trans (hb2.mono (box2_below hb).size)⟩
  · obtain ⟨k, N, l, rfl, rfl, rfl, hl, hN, hs⟩ := storedE_zero h0 (by omega)
    rw [Int.toNat_natCast] at hs
    clear h0
    go_enter Tryd.func78, Tryd.ntmps78
    go_wp2_with fail
    refine (stored_ok ((R.alloc _).alloc _) k l hl N c hN (by omega) hc' hs).mono ?_
    rintro e w1 ⟨rfl, hb⟩
    have Rn := ((R.alloc _).alloc _).below hb
    have v := ((Var.mk w b a n).alloc (.cells #[.bool true, .int .i64 ((k : Int) + 1), .int .i64 (N : Int)] 38)).below hb
    obtain ⟨p0, p1, p2⟩ := v.cells
    go_wp2_with fail
    refine (span_fail Rn b a n c er HE.out hne hn).mono ?_
    rintro e w2 ⟨rfl, hb2⟩
    go_wp2
    go_ret
    exact ⟨rfl, (box2_below hb).trans (hb2.mono (box2_below hb).size)⟩

set_option maxHeartbeats 400000 in
theorem copy_zero (R : RepAt w mb lm loc S) (b b' : Bool) (a n a' n' : Int) (he : spanE S b a n 0 = 0) :
    Calls Tryd.prog 78 #[.pointer (some ⟨mb, 0, none⟩), .agg #[.bool b, .int .i64 a, .int .i64 n], .agg #[.bool b', .int .i64 a', .int .i64 n'], .int .i64 0] w fun e w' => e = .returned (.int .i64 0) ∧ Below w.heap.size w w' := by
  obtain ⟨k, N, l, rfl, rfl, rfl, hl, hN⟩ := spanE_zero he
  clear he
  go_enter Tryd.func78, Tryd.ntmps78
  go_wp2_with fail
  refine (stored_zero mb b' a' n' _).mono ?_
  rintro e w1 ⟨rfl, hb⟩
  have Rn := ((R.alloc (.cells #[.bool true, .int .i64 ((k : Int) + 1), .int .i64 (N : Int)] 38)).alloc (.cells #[.bool b', .int .i64 a', .int .i64 n'] 38)).below hb
  have v := ((Var.mk w true ((k : Int) + 1) N).alloc (.cells #[.bool b', .int .i64 a', .int .i64 n'] 38)).below hb
  obtain ⟨p0, p1, p2⟩ := v.cells
  go_wp2_with fail
  refine (span_ok Rn k l hl N 0 (by omega) (Rn.len hl)).mono ?_
  rintro e w2 ⟨⟨ad, rfl, had⟩, hb2⟩
  have hrun := fun ty => run_copy_nil (P := Tryd.prog) w2 107 107 ty 126 ad 0 (l.length - N) Tryd.underlying107 (by rw [size69]; rfl)
  clear had
  go_wp2
  go_ret
  exact ⟨rfl, (box2_below hb).trans (hb2.mono (box2_below hb).size)⟩

set_option maxHeartbeats 400000 in
theorem copy_ok (R : RepAt w mb lm loc S) (k k' : Nat) (l l' : List Cl) (hl : S.at k = some l) (hl' : S.at k' = some l') (n n' c : Nat) (hnc : n + c ≤ l.length) (hn' : n' < l'.length) (hc : 0 < c) (hs : scanE (l'.drop n') c = 0) (hfc : n' + c ≤ l'.length) (hc' : c < 9223372036854775807) :
    Calls Tryd.prog 78 #[.pointer (some ⟨mb, 0, none⟩), .agg #[.bool true, .int .i64 ((k : Int) + 1), .int .i64 (n : Int)], .agg #[.bool true, .int .i64 ((k' : Int) + 1), .int .i64 (n' : Int)], .int .i64 (c : Int)] w fun e w' =>
      e = .returned (.int .i64 0) ∧ Turned w w' mb lm loc S (S.setb k (some (lay l n ((l'.drop n').take c)))) := by
  have hd2 : decide ((c : Int) < 0) = false := by simp
  go_enter Tryd.func78, Tryd.ntmps78
  go_wp2_with fail
  refine (stored_ok ((R.alloc _).alloc _) k' l' hl' n' c hn' hc hc' hs).mono ?_
  rintro e w1 ⟨rfl, hb⟩
  have Rn := ((R.alloc (.cells #[.bool true, .int .i64 ((k : Int) + 1), .int .i64 (n : Int)] 38)).alloc (.cells #[.bool true, .int .i64 ((k' : Int) + 1), .int .i64 (n' : Int)] 38)).below hb
  have v := ((Var.mk w true ((k : Int) + 1) n).alloc (.cells #[.bool true, .int .i64 ((k' : Int) + 1), .int .i64 (n' : Int)] 38)).below hb
  obtain ⟨p0, p1, p2⟩ := v.cells
  go_wp2_with fail
  refine (span_ok Rn k l hl n c hnc (Rn.len hl)).mono ?_
  rintro e w2 ⟨⟨ad, rfl, had⟩, hb2⟩
  obtain rfl := had hc
  have Rm := Rn.below hb2
  have hrow := Rm.blk k l hl
  have hrun := fun ty => copy_row hrow (Rm.blk k' l' hl') n n' c (l.length - n) (l'.length - n') hnc hfc ty
  have HR := Lib.hid hrow
  clear hrow had
  go_wp2
  go_ret
  refine ⟨rfl, row_rep R hl (by rw [lay_length _ _ _ (by simp; omega)]) ((box2_below hb).trans (hb2.mono (box2_below hb).size)) (setRow_heap w2 _ _ _ _ _ HR.out) (fun b hne => setRow_other w2 _ b _ hne) ⟨rfl, rfl, rfl, by simp [World.setRow]⟩⟩
end
end Go.Proofs.YtgpkhdccchpljaaDoor.M

namespace Go.Proofs.YtgpkhdccchpljaaDoor.M
open Go.RowKit

theorem Turned.same {w w' : World} {mb : Nat} {lm : Option Nat} {loc : Nat → Nat} {S : MS} (R : RepAt w mb lm loc S) (hb : Below w.heap.size w w') : Turned w w' mb lm loc S S := ⟨lm, loc, R.below hb, fun _ h => .inl h, Kept.of_below hb⟩

def allocR (S : MS) (n : Int) : (Wd × Int) × MS :=
  if n < 0 then ((⟨false, 0, 0⟩, 1), S) else if S.room - S.words < n then ((⟨false, 0, 0⟩, 10), S) else ((⟨true, (S.blocks.length : Int) + 1, 0⟩, 0), S.push n.toNat)
def freeR (S : MS) (b : Bool) (a n : Int) : Int × MS :=
  if findE S b a ≠ 0 then (findE S b a, S) else if n ≠ 0 then (13, S) else (0, S.setb (a - 1).toNat none)
def storeR (S : MS) (b : Bool) (a n : Int) (x : Wd) : Int × MS :=
  if spanE S b a n 1 ≠ 0 then (spanE S b a n 1, S) else (0, S.setb (a - 1).toNat ((S.at (a - 1).toNat).map fun l => l.set n.toNat (some x)))
def clearR (S : MS) (b : Bool) (a n c : Int) : Int × MS :=
  if c < 0 then (1, S) else if spanE S b a n c ≠ 0 then (spanE S b a n c, S) else (0, S.setb (a - 1).toNat ((S.at (a - 1).toNat).map fun l => lay l n.toNat (List.replicate c.toNat none)))
def copyR (S : MS) (b : Bool) (a n : Int) (b' : Bool) (a' n' c : Int) : Int × MS :=
  if c < 0 then (1, S) else if storedE S b' a' n' c ≠ 0 then (storedE S b' a' n' c, S) else if spanE S b a n c ≠ 0 then (spanE S b a n c, S) else if c = 0 then (0, S)
    else (0, S.setb (a - 1).toNat ((S.at (a - 1).toNat).map fun l => lay l n.toNat ((((S.at (a' - 1).toNat).getD []).drop n'.toNat).take c.toNat)))

theorem scanE_len : ∀ (c : Nat) (l : List Cl), scanE l c = 0 → c ≤ l.length
  | 0, _, _ => Nat.zero_le _
  | c + 1, [], h => by simp [scanE] at h
  | c + 1, none :: l, h => by simp [scanE] at h
  | c + 1, some x :: l, h => by
    have := scanE_len c l h
    simp; omega

section
variable {w : World} {mb : Nat} {lm : Option Nat} {loc : Nat → Nat} {S : MS}

theorem alloc_gen (R : RepAt w mb lm loc S) (hmade : S.blocks.length + 1 < 1000000) (n : Int) (x : Wd) (er : Int) (S' : MS) (h : allocR S n = ((x, er), S')) :
    Calls Tryd.prog 38 #[.pointer (some ⟨mb, 0, none⟩), .int .i64 n] w fun e w' => e = .returned (.tuple #[.agg #[.bool x.p, .int .i64 x.a, .int .i64 x.n], .int .i64 er]) ∧ Turned w w' mb lm loc S S' := by
  unfold allocR at h
  by_cases h1 : n < 0
  · rw [if_pos h1] at h
    cases h
    exact (alloc_neg mb n w h1).mono fun e w' ⟨he, hb⟩ => ⟨he, .same R hb⟩
  · rw [if_neg h1] at h
    by_cases h2 : S.room - S.words < n
    · rw [if_pos h2] at h
      cases h
      exact (alloc_room R n (by omega) h2).mono fun e w' ⟨he, hb⟩ => ⟨he, .same R hb⟩
    · rw [if_neg h2] at h
      cases h
      exact alloc_any R n _ (by omega) (by omega) hmade rfl

theorem free_gen (R : RepAt w mb lm loc S) (b : Bool) (a n er : Int) (S' : MS) (h : freeR S b a n = (er, S')) :
    Calls Tryd.prog 29 #[.pointer (some ⟨mb, 0, none⟩), .agg #[.bool b, .int .i64 a, .int .i64 n]] w fun e w' => e = .returned (.int .i64 er) ∧ Turned w w' mb lm loc S S' := by
  unfold freeR at h
  by_cases h1 : findE S b a = 0
  · rw [if_neg (by simpa using h1)] at h
    obtain ⟨k, l, rfl, rfl, hl⟩ := findE_zero h1
    by_cases h2 : n = 0
    · rw [if_neg (by simpa using h2), show ((k : Int) + 1 - 1).toNat = k by omega] at h
      cases h
      subst h2
      exact free_ok R k l hl
    · rw [if_pos h2] at h
      cases h
      exact (free_range R k l hl n h2).mono fun e w' ⟨he, hb⟩ => ⟨he, .same R hb⟩
  · rw [if_pos h1] at h
    cases h
    exact (free_err R b a n _ rfl h1).mono fun e w' ⟨he, hb⟩ => ⟨he, .same R hb⟩

theorem store_gen (R : RepAt w mb lm loc S) (b : Bool) (a n : Int) (x : Wd) (er : Int) (S' : MS) (h : storeR S b a n x = (er, S')) (hn : n ≤ 9223372036854775807) :
    Calls Tryd.prog 55 #[.pointer (some ⟨mb, 0, none⟩), .agg #[.bool b, .int .i64 a, .int .i64 n], .agg #[.bool x.p, .int .i64 x.a, .int .i64 x.n]] w fun e w' => e = .returned (.int .i64 er) ∧ Turned w w' mb lm loc S S' := by
  unfold storeR at h
  by_cases h1 : spanE S b a n 1 = 0
  · rw [if_neg (by simpa using h1)] at h
    obtain ⟨k, N, l, rfl, rfl, rfl, hl, hN⟩ := spanE_zero h1
    rw [show ((k : Int) + 1 - 1).toNat = k by omega, hl] at h
    cases h
    exact store_ok R k l hl N x (by omega)
  · rw [if_pos h1] at h
    cases h
    exact (store_fail R b a n _ x rfl h1 hn).mono fun e w' ⟨he, hb⟩ => ⟨he, .same R hb⟩

theorem clear_gen (R : RepAt w mb lm loc S) (b : Bool) (a n c er : Int) (S' : MS) (h : clearR S b a n c = (er, S')) (hn : n ≤ 9223372036854775807) :
    Calls Tryd.prog 79 #[.pointer (some ⟨mb, 0, none⟩), .agg #[.bool b, .int .i64 a, .int .i64 n], .int .i64 c] w fun e w' => e = .returned (.int .i64 er) ∧ Turned w w' mb lm loc S S' := by
  unfold clearR at h
  by_cases h0 : c < 0
  · rw [if_pos h0] at h
    cases h
    exact (clear_neg mb b a n c w h0).mono fun e w' ⟨he, hb⟩ => ⟨he, .same R hb⟩
  · rw [if_neg h0] at h
    by_cases h1 : spanE S b a n c = 0
    · rw [if_neg (by simpa using h1)] at h
      obtain ⟨k, N, l, rfl, rfl, rfl, hl, hN⟩ := spanE_zero h1
      obtain ⟨C, rfl⟩ : ∃ C : Nat, c = C := ⟨c.toNat, by omega⟩
      rw [show ((k : Int) + 1 - 1).toNat = k by omega, hl] at h
      cases h
      exact clear_ok R k l hl N C (by omega)
    · rw [if_pos h1] at h
      cases h
      exact (clear_fail R b a n c _ rfl h1 hn (by omega)).mono fun e w' ⟨he, hb⟩ => ⟨he, .same R hb⟩

theorem copy_gen (R : RepAt w mb lm loc S) (b : Bool) (a n : Int) (b' : Bool) (a' n' c er : Int) (S' : MS) (h : copyR S b a n b' a' n' c = (er, S')) (hn : n ≤ 9223372036854775807) (hc : c ≤ 1048576) :
    Calls Tryd.prog 78 #[.pointer (some ⟨mb, 0, none⟩), .agg #[.bool b, .int .i64 a, .int .i64 n], .agg #[.bool b', .int .i64 a', .int .i64 n'], .int .i64 c] w fun e w' => e = .returned (.int .i64 er) ∧ Turned w w' mb lm loc S S' := by
  unfold copyR at h
  by_cases h0 : c < 0
  · rw [if_pos h0] at h
    cases h
    exact (copy_neg mb b b' a n a' n' c w h0).mono fun e w' ⟨he, hb⟩ => ⟨he, .same R hb⟩
  · rw [if_neg h0] at h
    obtain ⟨C, rfl⟩ : ∃ C : Nat, c = C := ⟨c.toNat, by omega⟩
    by_cases h1 : storedE S b' a' n' C = 0
    · rw [if_neg (by simpa using h1)] at h
      by_cases h2 : spanE S b a n C = 0
      · rw [if_neg (by simpa using h2)] at h
        by_cases h3 : C = 0
        · subst h3
          rw [if_pos (by simp)] at h
          cases h
          exact (copy_zero R b b' a n a' n' h2).mono fun e w' ⟨he, hb⟩ => ⟨he, .same R hb⟩
        · rw [if_neg (by omega)] at h
          obtain ⟨k, N, l, rfl, rfl, rfl, hl, hN⟩ := spanE_zero h2
          obtain ⟨k', N', l', rfl, rfl, rfl, hl', hN', hs⟩ := storedE_zero h1 (by omega)
          rw [Int.toNat_natCast] at hs
          rw [show ((k : Int) + 1 - 1).toNat = k by omega, show ((k' : Int) + 1 - 1).toNat = k' by omega, hl, hl'] at h
          cases h
          have := scanE_len _ _ hs
          simp at this
          exact copy_ok R k k' l l' hl hl' N N' C (by omega) hN' (by omega) hs (by omega) (by omega)
      · rw [if_pos h2] at h
        cases h
        exact (copy_fail2 R b b' a n a' n' C _ h1 rfl h2 hn (by omega)).mono fun e w' ⟨he, hb⟩ => ⟨he, .same R hb⟩
    · rw [if_pos h1] at h
      cases h
      exact (copy_fail1 R b b' a n a' n' C _ rfl h1 (by omega)).mono fun e w' ⟨he, hb⟩ => ⟨he, .same R hb⟩
end
end Go.Proofs.YtgpkhdccchpljaaDoor.M
