/-
  Several texts of the proof in one: KModel, KSmall, KNum. No conditions of their own: each lemma states its own.
-/
import Derived.Test.YtgpkhdccchpljaaDoorMAll
import Derived.Test.YtgpkhdccchpljaaDoorCAll
import Derived.Deep.Light
import Derived.Deep.RegionHeld3
import Derived.Deep.DeepCutAuto
namespace Go.Proofs.YtgpkhdccchpljaaDoor
open Go.RowKit
open M (Wd MS loadR storeR copyR clearR freeR allocR)
open C (In Cr Pg)

abbrev wr (z : Int) : Int := wrap64 z
def z3 : Wd := ⟨false, 0, 0⟩
def nm (n : Int) : Wd := ⟨false, 0, n⟩

/-- how something came out: its kind (-1: not at its end yet), its number -/
structure Out where
  k : Int
  n : Int
  deriving DecidableEq
/-- what was told -/
structure Ev where
  k : Int
  t : Int
  a : Int
  n : Int
  deriving DecidableEq
/-- a function that runs -/
structure Ru where
  fn : List In
  nx : Nat
  fr : Wd
  rg : List Wd
/-- what a session turns: the memory, what is told, the fuel, what runs (the topmost first) -/
structure Se where
  S : MS
  told : List Ev
  fuel : Int
  rs : List Ru
/-- what it does not -/
structure Cx where
  p : Pg
  evs : List (Int × Int)
  task : Int

def stopO (e : Int) : Out := if e = 0 then ⟨-1, 0⟩ else if e = 10 then ⟨5, 0⟩ else ⟨6, e⟩
def offR (x : Wd) (k : Int) : Wd × Int := if x.p then (⟨true, x.a, wr (x.n + k)⟩, 0) else (z3, 11)
def numE (x : Wd) : Int := if x.p then 11 else 0
def numE2 (x y : Wd) : Int := if x.p || y.p then 11 else 0
def numR (S : MS) (x : Wd) (k : Int) : Int × Int :=
  if (offR x k).2 ≠ 0 then (0, (offR x k).2)
  else if (loadR S (offR x k).1.p (offR x k).1.a (offR x k).1.n).2 ≠ 0 then (0, (loadR S (offR x k).1.p (offR x k).1.a (offR x k).1.n).2)
  else ((loadR S (offR x k).1.p (offR x k).1.a (offR x k).1.n).1.n, numE (loadR S (offR x k).1.p (offR x k).1.a (offR x k).1.n).1)
def hasB (p : Pg) (co : Int) : Bool := decide (0 ≤ co) && decide (co < p.cs.length)
def noCr : Cr := ⟨0, 0, 0, 0⟩
def coOf (p : Pg) (co : Int) : Cr := p.cs.getD co.toNat noCr
def funOf (p : Pg) (f : Int) : List In := p.fs.getD f.toNat []

/-- a frame's state, its coroutine, or what is wrong -/
def lookR (p : Pg) (S : MS) (x : Wd) : Int × Cr × Int :=
  if (numR S x 0).2 ≠ 0 then (0, noCr, (numR S x 0).2)
  else if (numR S x 2).2 ≠ 0 then (0, noCr, (numR S x 2).2)
  else if hasB p (numR S x 2).1 = false then (0, noCr, 30)
  else ((numR S x 0).1, coOf p (numR S x 2).1, 0)

def layR (S : MS) (x : Wd) (k n : Int) : MS := (storeR S x.p x.a (wr (x.n + k)) (nm n)).2
def layArgs (S : MS) (x : Wd) : List Int → Nat → MS
  | [], _ => S
  | n :: l, i => layArgs (layR S x (3 + (i : Int)) n) x l (i + 1)
def frameR (p : Pg) (S : MS) (co : Int) (args : List Int) : (Wd × Int) × MS :=
  if (allocR S (coOf p co).wo).1.2 ≠ 0 then ((z3, (allocR S (coOf p co).wo).1.2), (allocR S (coOf p co).wo).2)
  else (((allocR S (coOf p co).wo).1.1, 0), layArgs (layR (layR (allocR S (coOf p co).wo).2 (allocR S (coOf p co).wo).1.1 0 0) (allocR S (coOf p co).wo).1.1 2 co) (allocR S (coOf p co).wo).1.1 args 0)

def Ru.get (r : Ru) (i : Int) : Wd := r.rg.getD i.toNat z3
def Ru.put (r : Ru) (i : Int) (x : Wd) : Ru := { r with rg := r.rg.set i.toNat x }
def In.lab (x : In) (i : Int) : Nat := (x.l.getD i.toNat 0).toNat

/-- the word that an instruction sets its register to, or what is wrong, and the memory behind it -/
def wordR (p : Pg) (S : MS) (r : Ru) (x : In) : (Wd × Int) × MS :=
  if x.op = 1 then (offR r.fr x.b, S)
  else if x.op = 2 then (offR (r.get x.b) x.c, S)
  else if x.op = 3 then (loadR S (r.get x.b).p (r.get x.b).a (r.get x.b).n, S)
  else if x.op = 16 then allocR S x.c
  else if x.op = 22 then frameR p S x.b []
  else ((nm x.b, 0), S)
def changeR (S : MS) (r : Ru) (x : In) : Int × MS :=
  if x.op = 4 then storeR S (r.get x.a).p (r.get x.a).a (r.get x.a).n (r.get x.b)
  else if x.op = 5 then copyR S (r.get x.a).p (r.get x.a).a (r.get x.a).n (r.get x.b).p (r.get x.b).a (r.get x.b).n x.c
  else if x.op = 6 then
    if (copyR S (r.get x.a).p (r.get x.a).a (r.get x.a).n (r.get x.b).p (r.get x.b).a (r.get x.b).n x.c).1 ≠ 0 then copyR S (r.get x.a).p (r.get x.a).a (r.get x.a).n (r.get x.b).p (r.get x.b).a (r.get x.b).n x.c
    else clearR (copyR S (r.get x.a).p (r.get x.a).a (r.get x.a).n (r.get x.b).p (r.get x.b).a (r.get x.b).n x.c).2 (r.get x.b).p (r.get x.b).a (r.get x.b).n x.c
  else if x.op = 7 then clearR S (r.get x.a).p (r.get x.a).a (r.get x.a).n x.c
  else freeR S (r.get x.a).p (r.get x.a).a (r.get x.a).n

def bitI (b : Bool) : Int := if b then 1 else 0
def fitsR (a b : Int) : Bool := if b = 0 then true else if b = -1 then a != -9223372036854775808 else wrap64 ((wrap64 (a * b)).tdiv b) == a
def reckR (op a b : Int) : Int × Bool :=
  if op = 8 then (wr (a + b), decide (wr (a + b) > a) == decide (b > 0))
  else if op = 9 then (wr (a - b), decide (wr (a - b) < a) == decide (b > 0))
  else if op = 10 then (wr (a * b), fitsR a b)
  else if op = 11 then (bitI (decide (a < b)), true)
  else (bitI (a == b), true)

def brought (evs : List (Int × Int)) (e : Int) : Option Int := (evs.find? fun q => q.1 == e).map (·.2)

/-- a function begins to run -/
def Se.begin (s : Se) (p : Pg) (f : Int) (fr r0 : Wd) : Se := { s with rs := ⟨funOf p f, 0, fr, r0 :: List.replicate 15 z3⟩ :: s.rs }
def Se.leave (s : Se) : Se := { s with rs := s.rs.tail }
def Se.note (s : Se) (e : Ev) : Se := { s with told := s.told ++ [e] }
def on : Out := ⟨-1, 0⟩

def goOnR (p : Pg) (s : Se) (x : Wd) : Out × Se :=
  if (lookR p s.S x).2.2 ≠ 0 then (stopO (lookR p s.S x).2.2, s)
  else if (lookR p s.S x).1 = -1 then (⟨2, 0⟩, s)
  else if (lookR p s.S x).1 = -2 then (⟨3, 0⟩, s)
  else (on, s.begin p (lookR p s.S x).2.1.re x z3)
def undoR (p : Pg) (s : Se) (x : Wd) : Out × Se :=
  if (lookR p s.S x).2.2 ≠ 0 then (stopO (lookR p s.S x).2.2, s)
  else if (lookR p s.S x).1 < 0 then (⟨2, 0⟩, s)
  else (on, s.begin p (lookR p s.S x).2.1.ca x z3)

/-- what the topmost run does with an instruction (s: behind its fetch) -/
def execR (c : Cx) (s : Se) (r : Ru) (rs : List Ru) (x : In) : Out × Se :=
  if x.op = 0 ∨ x.op = 1 ∨ x.op = 2 ∨ x.op = 3 ∨ x.op = 16 ∨ x.op = 22 then
    (stopO (wordR c.p s.S r x).1.2, { s with S := (wordR c.p s.S r x).2, rs := r.put x.a (wordR c.p s.S r x).1.1 :: rs })
  else if x.op = 4 ∨ x.op = 5 ∨ x.op = 6 ∨ x.op = 7 ∨ x.op = 17 then
    (stopO (changeR s.S r x).1, { s with S := (changeR s.S r x).2 })
  else if x.op = 8 ∨ x.op = 9 ∨ x.op = 10 ∨ x.op = 11 ∨ x.op = 12 then
    if numE2 (r.get x.b) (r.get x.c) ≠ 0 then (stopO (numE2 (r.get x.b) (r.get x.c)), s)
    else if (reckR x.op (r.get x.b).n (r.get x.c).n).2 then (on, { s with rs := r.put x.a (nm (reckR x.op (r.get x.b).n (r.get x.c).n).1) :: rs })
    else (on, { s with rs := { r with nx := In.lab x 0 } :: rs })
  else if x.op = 13 then (on, { s with rs := { r with nx := In.lab x 0 } :: rs })
  else if x.op = 14 then
    if numE (r.get x.a) ≠ 0 then (stopO (numE (r.get x.a)), s)
    else if (r.get x.a).n ≠ 0 then (on, { s with rs := { r with nx := In.lab x 0 } :: rs }) else (on, s)
  else if x.op = 15 then
    if numE (r.get x.a) ≠ 0 then (stopO (numE (r.get x.a)), s)
    else if (r.get x.a).n < 0 ∨ (x.l.length : Int) ≤ (r.get x.a).n then (stopO 31, s)
    else (on, { s with rs := { r with nx := In.lab x (r.get x.a).n } :: rs })
  else if x.op = 18 ∨ x.op = 19 ∨ x.op = 20 then
    if numE (r.get x.a) ≠ 0 then (stopO (numE (r.get x.a)), s)
    else if x.op = 20 then (⟨0, (r.get x.a).n⟩, { s with rs := rs })
    else if x.op = 19 then (on, s.note ⟨3, c.task, x.b, (r.get x.a).n⟩)
    else (on, s.note ⟨2, c.task, 0, (r.get x.a).n⟩)
  else if x.op = 21 then
    if numE (r.get x.b) ≠ 0 then (stopO (numE (r.get x.b)), s)
    else match brought c.evs (r.get x.b).n with
      | none => (⟨1, (r.get x.b).n⟩, { s with rs := rs })
      | some n => (on, { s with rs := r.put x.a (nm n) :: rs })
  else if x.op = 23 then goOnR c.p s (r.get x.a)
  else if x.op = 24 then goOnR c.p s (r.get x.b)
  else if x.op = 25 then undoR c.p s (r.get x.a)
  else if x.op = 26 then (on, s.begin c.p x.b z3 (r.get x.a))
  else if x.op = 29 then (⟨2, 0⟩, { s with rs := rs })
  else if (storeR s.S r.fr.p r.fr.a r.fr.n (nm (if x.op = 28 then -2 else -1))).1 ≠ 0 then
    (stopO (storeR s.S r.fr.p r.fr.a r.fr.n (nm (if x.op = 28 then -2 else -1))).1, { s with S := (storeR s.S r.fr.p r.fr.a r.fr.n (nm (if x.op = 28 then -2 else -1))).2 })
  else (⟨if x.op = 28 then 3 else 2, 0⟩, { s with S := (storeR s.S r.fr.p r.fr.a r.fr.n (nm (if x.op = 28 then -2 else -1))).2, rs := rs })

def noIn : In := ⟨29, 0, 0, 0, []⟩
def stepR (c : Cx) (s : Se) : Out × Se :=
  if s.fuel ≤ 0 then (⟨4, 0⟩, s)
  else match s.rs with
    | [] => (⟨4, 0⟩, s)
    | r :: rs => execR c { s with fuel := s.fuel - 1, rs := { r with nx := r.nx + 1 } :: rs } { r with nx := r.nx + 1 } rs (r.fn.getD r.nx noIn)

/-- how something came out is handed to what waits for it -/
def settleR (c : Cx) (o : Out) (s : Se) : Out × Se :=
  match s.rs with
  | [] => (o, s)
  | r :: rs =>
    let x := r.fn.getD (r.nx - 1) noIn
    if x.op = 26 then (on, s)
    else if x.op = 25 then (stopO (freeR s.S (r.get x.a).p (r.get x.a).a (r.get x.a).n).1, { s with S := (freeR s.S (r.get x.a).p (r.get x.a).a (r.get x.a).n).2 })
    else if o.k = 3 then (on, { s with rs := { r with nx := In.lab x 0 } :: rs })
    else if x.op = 24 then
      (on, { (if o.k = 0 then s.note ⟨5, c.task, 0, o.n⟩ else s) with rs := r.put x.a (nm (if o.k = 2 then 0 else 1)) :: rs })
    else if o.k = 2 then (on, s)
    else (o, { s with rs := rs })

/-- one round: none if it is at its end -/
def thr1 (c : Cx) (q : Out × Se) : Option (Out × Se) :=
  if q.1.k = -1 then some (stepR c q.2)
  else if q.1.k = 4 ∨ q.1.k = 5 ∨ q.1.k = 6 then none
  else if q.2.rs = [] then none
  else some (settleR c q.1 q.2)

inductive Thr (c : Cx) : Out × Se → Out × Se → Prop
  | done {q} : thr1 c q = none → Thr c q q
  | next {q q' z} : thr1 c q = some q' → Thr c q' z → Thr c q z

theorem Thr.det {c : Cx} {q z z' : Out × Se} (h : Thr c q z) (h' : Thr c q z') : z = z' := by
  induction h with
  | done h1 =>
    cases h' with
    | done _ => rfl
    | next h2 _ => rw [h1] at h2; cases h2
  | next h1 _ ih =>
    cases h' with
    | done h2 => rw [h1] at h2; cases h2
    | next h2 h3 => rw [h1] at h2; cases h2; exact ih h3
end Go.Proofs.YtgpkhdccchpljaaDoor

namespace Go.Proofs.YtgpkhdccchpljaaDoor
open Go.RowKit
open M (Wd)

def I64 (z : Int) : Prop := -9223372036854775808 ≤ z ∧ z ≤ 9223372036854775807

theorem truth_any (b : Bool) (w : World) : Calls Tryd.prog 83 #[.bool b] w fun e w' => e = .returned (.int .i64 (bitI b)) ∧ w' = w := by
  cases b
  all_goals
    go_enter Tryd.func83, Tryd.ntmps83
    go_wp2
    go_ret
    exact ⟨rfl, rfl⟩

theorem stop_any (er : Int) (w : World) : Calls Tryd.prog 23 #[.int .i64 er] w fun e w' => e = .returned (.agg #[.int .i64 (stopO er).k, .int .i64 (stopO er).n]) ∧ Below w.heap.size w w' := by
  by_cases h0 : er = 0
  · have t0 : (er == 0) = true := by simpa using h0
    have hs := Lib.hid (show stopO er = ⟨-1, 0⟩ by rw [stopO, if_pos h0])
    clear h0
    go_enter Tryd.func23, Tryd.ntmps23
    go_wp2
    go_returns
    exact ⟨by rw [hs.out], by go_grown⟩
  have t0 : (er == 0) = false := by simpa using h0
  by_cases h1 : er = 10
  · have t1 : (er == 10) = true := by simpa using h1
    have hs := Lib.hid (show stopO er = ⟨5, 0⟩ by rw [stopO, if_neg h0, if_pos h1])
    clear h0 h1
    go_enter Tryd.func23, Tryd.ntmps23
    go_wp2
    go_returns
    exact ⟨by rw [hs.out], by go_grown⟩
  · have t1 : (er == 10) = false := by simpa using h1
    have hs := Lib.hid (show stopO er = ⟨6, er⟩ by rw [stopO, if_neg h0, if_neg h1])
    clear h0 h1
    go_enter Tryd.func23, Tryd.ntmps23
    go_wp2
    go_returns
    exact ⟨by rw [hs.out], by go_grown⟩

theorem off_any (x : Wd) (k : Int) (w : World) : Calls Tryd.prog 44 #[.agg #[.bool x.p, .int .i64 x.a, .int .i64 x.n], .int .i64 k] w fun e w' =>
    e = .returned (.tuple #[.agg #[.bool (offR x k).1.p, .int .i64 (offR x k).1.a, .int .i64 (offR x k).1.n], .int .i64 (offR x k).2]) ∧ Below w.heap.size w w' := by
  obtain ⟨p, a, n⟩ := x
  cases p with
  | false =>
    go_enter Tryd.func44, Tryd.ntmps44
    go_wp2
    go_returns
    exact ⟨rfl, by go_grown⟩
  | true =>
    go_enter Tryd.func44, Tryd.ntmps44
    go_wp2
    go_returns
    exact ⟨rfl, by go_grown⟩

theorem fits_any (a b : Int) (w : World) : Calls Tryd.prog 82 #[.int .i64 a, .int .i64 b] w fun e w' => e = .returned (.bool (fitsR a b)) ∧ w' = w := by
  by_cases h0 : b = 0
  · have t0 : (b == 0) = true := by simpa using h0
    have hs := Lib.hid (show fitsR a b = true by rw [fitsR, if_pos h0])
    clear h0
    go_enter Tryd.func82, Tryd.ntmps82
    go_wp2
    go_returns
    exact ⟨by rw [hs.out]; rfl, rfl⟩
  have t0 : (b == 0) = false := by simpa using h0
  by_cases h1 : b = -1
  · have t1 : (b == -1) = true := by simpa using h1
    have hs := Lib.hid (show fitsR a b = (a != -9223372036854775808) by rw [fitsR, if_neg h0, if_pos h1])
    clear h0 h1
    go_enter Tryd.func82, Tryd.ntmps82
    go_wp2
    go_returns
    exact ⟨by rw [hs.out]; rfl, rfl⟩
  · have t1 : (b == -1) = false := by simpa using h1
    have hs := Lib.hid (show fitsR a b = (wrap64 ((wrap64 (a * b)).tdiv b) == a) by rw [fitsR, if_neg h0, if_neg h1])
    go_enter Tryd.func82, Tryd.ntmps82
    go_wp2
    go_ret
    exact ⟨by rw [hs.out]; rfl, rfl⟩

set_option maxHeartbeats 1000000 in
theorem reckoned_any (op a b : Int) (w : World) : Calls Tryd.prog 80 #[.int .i64 op, .int .i64 a, .int .i64 b] w fun e w' => e = .returned (.tuple #[.int .i64 (reckR op a b).1, .bool (reckR op a b).2]) ∧ w' = w := by
  go_enter Tryd.func80, Tryd.ntmps80
  go_wp2_with (first | (go_at_call 82; refine (fits_any _ _ _).mono ?_; rintro e w1 ⟨rfl, rfl⟩) | (go_at_call 83; refine (truth_any _ _).mono ?_; rintro e w1 ⟨rfl, rfl⟩))
  all_goals go_returns
  all_goals refine ⟨?_, rfl⟩
  all_goals go_light
  all_goals simp only [beq_iff_eq, beq_eq_false_iff_ne] at *
  all_goals (show Ending.returned (Value.tuple _) = Ending.returned (Value.tuple _); congr 2; simp_all [reckR])
  all_goals trace_state
end Go.Proofs.YtgpkhdccchpljaaDoor

namespace Go.Proofs.YtgpkhdccchpljaaDoor
open Go.RowKit
open M (Wd MS loadR)

/-- words in a block of their own -/
def WsAt (w : World) (g : Nat) (ws : List Wd) : Prop := ∀ (i : Nat) (x : Wd), ws[i]? = some x → w.cell? ⟨g, i * 3, none⟩ = some (.bool x.p) ∧ w.cell? ⟨g, i * 3 + 1, none⟩ = some (.int .i64 x.a) ∧ w.cell? ⟨g, i * 3 + 2, none⟩ = some (.int .i64 x.n)
def numL (ws : List Wd) : Int := if ws.any (·.p) then 11 else 0

set_option maxHeartbeats 1000000 in
theorem numbers_any (w : World) (g : Nat) (ws : List Wd) (hg : g < w.heap.size) (hA : WsAt w g ws) (hn : ws.length ≤ 16) : Calls Tryd.prog 46 #[.slice (some ⟨g, 0, none⟩) ws.length ws.length] w fun e w' => e = .returned (.int .i64 (numL ws)) ∧ Below w.heap.size w w' := by
  replace hA := Lib.hid hA
  go_enter Tryd.func46, Tryd.ntmps46
  go_wp2_with fail
  go_loopw [7] (fun u wr => ∃ j : Nat, j ≤ ws.length ∧ u = .int .i64 j ∧ (∀ x ∈ ws.take j, x.p = false) ∧ Below w.heap.size w wr) (fun u _ => ws.length - (intOf u).toNat)
  case atStart => exact ⟨0, by omega, rfl, fun x hx => by simp at hx, Below.refl _ _⟩
  case round =>
    obtain ⟨j, hj, rfl, hso, hb⟩ := hrel
    have HSO := Lib.hid hso
    have hb0 := Lib.hid hb
    have hgl : g < wr.heap.size := Nat.lt_of_lt_of_le hg hb.size
    clear hso
    by_cases hjl : j < ws.length
    · have t1 : decide ((j : Int) < ws.length) = true := by simp; omega
      obtain ⟨x, hx⟩ : ∃ x, ws[j]? = some x := ⟨_, List.getElem?_eq_getElem hjl⟩
      obtain ⟨g0, g1, g2⟩ := hA.out j x hx
      replace g0 := (hb.cell (p := ⟨g, j * 3, none⟩) hg).trans g0
      replace g1 := (hb.cell (p := ⟨g, j * 3 + 1, none⟩) hg).trans g1
      replace g2 := (hb.cell (p := ⟨g, j * 3 + 2, none⟩) hg).trans g2
      have HTK := Lib.hid (C.take_snoc ws j x hx)
      have hb2 := Lib.hid (hb.trans ((C.alloc_below wr (.cells #[.bool x.p, .int .i64 x.a, .int .i64 x.n] 38)).mono hb.size))
      have hmem := Lib.hid (List.mem_of_getElem? hx)
      clear hx hb
      cases hp : x.p with
      | true =>
        have hnl := Lib.hid (show numL ws = 11 by rw [numL, if_pos (List.any_eq_true.2 ⟨x, hmem.out, hp⟩)])
        rw [hp] at g0 hb2
        clear hp
        go_wp2
        go_returns
        exact ⟨by rw [hnl.out]; rfl, hb2.out⟩
      | false =>
        have HPF := Lib.hid hp
        rw [hp] at g0 hb2
        clear hp
        go_wp2
        go_roundw
        case rel =>
          refine ⟨j + 1, by omega, by go_num, fun y hy => ?_, hb2.out⟩
          rw [HTK.out] at hy
          rcases List.mem_append.1 hy with h | h
          · exact HSO.out y h
          · simp at h; rw [h]; exact HPF.out
        case measure => simp [intOf]; omega
    · have t1 : decide ((j : Int) < ws.length) = false := by simp; omega
      obtain rfl : j = ws.length := by omega
      have hnl := Lib.hid (show numL ws = 0 by
        rw [numL, if_neg]
        intro h
        obtain ⟨x, h1, h2⟩ := List.any_eq_true.1 h
        have := HSO.out x (by rw [List.take_length]; exact h1)
        rw [this] at h2; cases h2)
      go_wp2
      go_ret
      exact ⟨by rw [hnl.out]; rfl, hb0.out⟩

theorem ws_one (W : World) (x : Wd) (g : Nat) (hg : g = W.heap.size) : WsAt (W.alloc (.cells #[.bool x.p, .int .i64 x.a, .int .i64 x.n] 38)) g [x] := fun i y hy => by
  subst hg
  cases i with
  | zero =>
    simp at hy
    subst hy
    exact ⟨C.alloc_cell _ _ _ _ _ rfl, C.alloc_cell _ _ _ _ _ rfl, C.alloc_cell _ _ _ _ _ rfl⟩
  | succ i => simp at hy
theorem numL_one (x : Wd) : numL [x] = numE x := by
  unfold numL numE
  simp
theorem cells3 {w : World} {k : Nat} {v0 v1 v2 : Value} {t : TypeId} (h : w.heap[k]? = some (.cells #[v0, v1, v2] t)) :
    w.cell? ⟨k, 0, none⟩ = some v0 ∧ w.cell? ⟨k, 1, none⟩ = some v1 ∧ w.cell? ⟨k, 2, none⟩ = some v2 ∧ (∀ j, w.frozen? ⟨k, j, none⟩ = false) ∧ k < w.heap.size := by
  have hl := (Array.getElem?_eq_some_iff.1 h).1
  exact ⟨by simp [World.cell?, h], by simp [World.cell?, h], by simp [World.cell?, h], fun j => by simp [World.frozen?, h], hl⟩
theorem undrew (w : World) {w' : World} (h : Below w.drew.heap.size w.drew w') : Below w.heap.size w w' := ⟨h.os, h.tape, h.output, h.size, h.block⟩

theorem set3 {w : World} {k : Nat} {v0 v1 v2 u0 u1 u2 : Value} {t : TypeId} (h : w.heap[k]? = some (.cells #[v0, v1, v2] t)) :
    (((w.setCell ⟨k, 0, none⟩ u0).setCell ⟨k, 1, none⟩ u1).setCell ⟨k, 2, none⟩ u2).heap[k]? = some (.cells #[u0, u1, u2] t) := by
  have h1 := heap_setCell_same w k 0 _ t u0 h
  have h2 := heap_setCell_same (w.setCell ⟨k, 0, none⟩ u0) k 1 _ t u1 h1
  have h3 := heap_setCell_same ((w.setCell ⟨k, 0, none⟩ u0).setCell ⟨k, 1, none⟩ u1) k 2 _ t u2 h2
  simpa using h3
theorem set3_below {B k : Nat} {w0 w : World} {u0 u1 u2 : Value} (h : Below B w0 w) (hk : B ≤ k) : Below B w0 (((w.setCell ⟨k, 0, none⟩ u0).setCell ⟨k, 1, none⟩ u1).setCell ⟨k, 2, none⟩ u2) :=
  ((h.setCell hk _).setCell hk _).setCell hk _

set_option maxRecDepth 100000 in
set_option maxHeartbeats 4000000 in
theorem number_any {w : World} {mb mk : Nat} {lm : Option Nat} {loc : Nat → Nat} {S : MS} (R : M.RepAt w mb lm loc S) (hm : w.cell? ⟨mk, 2, none⟩ = some (.pointer (some ⟨mb, 0, none⟩))) (x : Wd) (k : Int) :
    Calls Tryd.prog 27 #[.pointer (some ⟨mk, 0, none⟩), .agg #[.bool x.p, .int .i64 x.a, .int .i64 x.n], .int .i64 k] w fun e w' => e = .returned (.tuple #[.int .i64 (numR S x k).1, .int .i64 (numR S x k).2]) ∧ Below w.heap.size w w' := by
  have hR := Lib.hid R
  have hmk := World.block_lt_of_cell? w _ hm
  have hM := Lib.hid (show ∀ w', Below w.heap.size w w' → w'.cell? ⟨mk, 2, none⟩ = some (.pointer (some ⟨mb, 0, none⟩)) ∧ mk < w'.heap.size from fun w' h => ⟨(h.cell hmk).trans hm, Nat.lt_of_lt_of_le hmk h.size⟩)
  have hof := off_any x k (w.alloc (.cells #[.bool x.p, .int .i64 x.a, .int .i64 x.n] 38))
  replace hof := Lib.hid hof
  obtain ⟨q, hq⟩ : ∃ q, q = (offR x k).1 := ⟨_, rfl⟩
  obtain ⟨eo, heo⟩ : ∃ eo, eo = (offR x k).2 := ⟨_, rfl⟩
  rw [← hq, ← heo] at hof
  have HQ := Lib.hid hq
  have HEO := Lib.hid heo
  clear R hm hmk hq heo
  go_enter Tryd.func27, Tryd.ntmps27
  go_wp2_with fail
  refine hof.out.mono ?_
  clear hof
  rintro e w1 ⟨rfl, hb1⟩
  have hx1 : w1.heap[w.heap.size]? = some (.cells #[.bool x.p, .int .i64 x.a, .int .i64 x.n] 38) := (hb1.block _ (by simp)).trans (heap_alloc_new _ _)
  have hb0 : Below w.heap.size w w1 := C.box_below hb1
  obtain ⟨b0, b1, b2, bf, bl⟩ := cells3 hx1
  clear hb1
  go_upto_region 2 with fail
  have hx2 := set3 (u0 := .bool q.p) (u1 := .int .i64 q.a) (u2 := .int .i64 q.n) hx1
  have hB2 := set3_below (u0 := .bool q.p) (u1 := .int .i64 q.a) (u2 := .int .i64 q.n) hb0 (Nat.le_refl _)
  generalize (((w1.setCell ⟨w.heap.size, 0, none⟩ (.bool q.p)).setCell ⟨w.heap.size, 1, none⟩ (.int .i64 q.a)).setCell ⟨w.heap.size, 2, none⟩ (.int .i64 q.n)) = W2 at hx2 hB2 ⊢
  clear b0 b1 b2 bf bl hx1 hb0
  obtain ⟨b0, b1, b2, bf, bl⟩ := cells3 hx2
  have HB2 := Lib.hid hB2
  obtain ⟨bx, hbx⟩ : ∃ bx, bx = w.heap.size := ⟨_, rfl⟩
  have HX2 := Lib.hid hx2
  rw [← hbx] at b0 b1 b2 bl HX2
  simp only [← hbx] at bf ⊢
  clear hx2 hB2
  replace hbx := Lib.hid hbx
  by_cases h0 : eo = 0
  · have t0 : (eo != 0) = false := by simp [h0]
    have HE0 := Lib.hid h0
    obtain ⟨y, ey, hld⟩ : ∃ y ey, loadR S q.p q.a q.n = (y, ey) := ⟨_, _, rfl⟩
    obtain ⟨m0, ml⟩ := hM.out W2 HB2.out
    have HLD := Lib.hid hld
    clear h0 hld
    go_upto_region 4 with fail
    go_cut [8, 9] (fun s8 s9 wc => s8 = .int .i64 ey ∧ ∃ b9, s9 = .pointer (some ⟨b9, 0, none⟩) ∧ wc.heap[b9]? = some (.cells #[.bool y.p, .int .i64 y.a, .int .i64 y.n] 38) ∧ Below w.heap.size w wc)
    case first =>
      have n1 : bx ≠ W2.heap.size := Nat.ne_of_lt bl
      have n2 : mk ≠ W2.heap.size := Nat.ne_of_lt ml
      have n3 : W2.heap.size ≠ bx := Nat.ne_of_gt bl
      have n4 : W2.heap.size ≠ mk := Nat.ne_of_gt ml
      go_region_held3 (fun w' => w'.cell? ⟨mk, 2, none⟩ = some (.pointer (some ⟨mb, 0, none⟩)) ∧ w'.cell? ⟨bx, 0, none⟩ = some (.bool q.p) ∧ w'.cell? ⟨bx, 1, none⟩ = some (.int .i64 q.a) ∧ w'.cell? ⟨bx, 2, none⟩ = some (.int .i64 q.n)) (first | (refine ⟨?_, ?_, ?_, ?_⟩ <;> assumption) | go_keep)
        (first
          | (go_at_call 45; refine (M.load_any (hR.out.below ((HB2.out.alloc HB2.out.size (.cells #[.bool false, .int .i64 0, .int .i64 0] 38)).drew)) q.p q.a q.n y ey HLD.out).mono ?_; rintro e w3 ⟨rfl, hb3⟩; have B3 : Below W2.heap.size W2 w3 := C.box_below (undrew (W2.alloc (.cells #[.bool false, .int .i64 0, .int .i64 0] 38)) hb3); obtain ⟨c0, c1, c2, cf, cl⟩ := cells3 ((B3.block _ bl).trans HX2.out); obtain ⟨m3, ml3⟩ := hM.out w3 (HB2.out.trans (B3.mono HB2.out.size)); have HN3 := ((undrew (W2.alloc (.cells #[.bool false, .int .i64 0, .int .i64 0] 38)) hb3).block W2.heap.size (by simp)).trans (heap_alloc_new W2 _); obtain ⟨d0, d1, d2, df, dl⟩ := cells3 HN3; have HF := Lib.hid (And.intro (set3 (u0 := .bool y.p) (u1 := .int .i64 y.a) (u2 := .int .i64 y.n) HN3) (set3_below (u0 := .bool y.p) (u1 := .int .i64 y.a) (u2 := .int .i64 y.n) (k := W2.heap.size) (HB2.out.trans (B3.mono HB2.out.size)) HB2.out.size)); clear hb3 HN3; replace B3 := Lib.hid B3)
          | (go_at_call 45; refine (M.load_any (hR.out.below (HB2.out.drew)) q.p q.a q.n y ey HLD.out).mono ?_; rintro e w3 ⟨rfl, hb3⟩; have B3 : Below W2.heap.size W2 w3 := undrew W2 hb3; obtain ⟨c0, c1, c2, cf, cl⟩ := cells3 ((B3.block _ bl).trans HX2.out); obtain ⟨m3, ml3⟩ := hM.out w3 (HB2.out.trans (B3.mono HB2.out.size)); have HF := Lib.hid (show (w3.alloc (.cells #[.bool y.p, .int .i64 y.a, .int .i64 y.n] 38)).heap[w3.heap.size]? = some (.cells #[.bool y.p, .int .i64 y.a, .int .i64 y.n] 38) ∧ Below w.heap.size w (w3.alloc (.cells #[.bool y.p, .int .i64 y.a, .int .i64 y.n] 38)) from ⟨heap_alloc_new _ _, (HB2.out.trans (B3.mono HB2.out.size)).alloc (HB2.out.trans (B3.mono HB2.out.size)).size _⟩); clear hb3; replace B3 := Lib.hid B3))
      all_goals (go_wp2_with fail; go_meet)
      all_goals exact ⟨rfl, _, rfl, HF.out.1, HF.out.2⟩
    case rest =>
      obtain ⟨rfl, b9, rfl, h9, hb9⟩ := hcut
      obtain ⟨d0, d1, d2, df, dl⟩ := cells3 h9
      have hb9' := Lib.hid hb9
      have h9' := Lib.hid h9
      clear b0 b1 b2 bf bl m0 ml h9 hb9
      by_cases h1 : ey = 0
      · have t1 : (ey != 0) = false := by simp [h1]
        have hs : Hid (numR S x k = (y.n, numE y)) := Lib.hid (by
          rw [numR, ← HEO.out, if_neg (by simp [HE0.out]), ← HQ.out, HLD.out, if_neg (by simp [h1])])
        have hnb := Lib.hid (show ∀ n : Nat, Below w.heap.size w (wc.drewN n) from fun n => ⟨hb9'.out.os, hb9'.out.tape, hb9'.out.output, hb9'.out.size, hb9'.out.block⟩)
        clear h1
        go_upto_region 7 with fail
        go_region_held3 (fun w' => w'.cell? ⟨b9, 0, none⟩ = some (.bool y.p) ∧ w'.cell? ⟨b9, 1, none⟩ = some (.int .i64 y.a) ∧ w'.cell? ⟨b9, 2, none⟩ = some (.int .i64 y.n)) (first | (refine ⟨?_, ?_, ?_⟩ <;> assumption) | go_keep)
          (first
            | (go_at_call 46; refine (numbers_any (wc.drew.alloc (.cells #[.bool y.p, .int .i64 y.a, .int .i64 y.n] 38)) wc.heap.size [y] (by simp) (ws_one wc.drew y _ rfl) (by simp)).mono ?_; rintro e w4 ⟨rfl, hb4⟩; have B4 : Below wc.heap.size wc w4 := undrew wc (C.box_below hb4); obtain ⟨e0, e1, e2, ef, el⟩ := cells3 ((B4.block _ dl).trans h9'.out); clear hb4; replace B4 := Lib.hid B4))
        have hfin := Lib.hid (hb9'.out.trans (B4.out.mono hb9'.out.size))
        rw [numL_one]
        go_wp2
        first | go_ret | go_returns
        exact ⟨by rw [hs.out]; rfl, hfin.out⟩
      · have t1 : (ey != 0) = true := by simp [h1]
        have hs : Hid (numR S x k = (0, ey)) := Lib.hid (by
          rw [numR, ← HEO.out, if_neg (by simp [HE0.out]), ← HQ.out, HLD.out, if_pos h1])
        clear h1
        go_wp2
        go_returns
        exact ⟨by rw [hs.out]; rfl, hb9'.out⟩
  · have t0 : (eo != 0) = true := by simp [h0]
    have hs : Hid (numR S x k = (0, eo)) := Lib.hid (by rw [numR, ← HEO.out, if_pos h0])
    clear h0
    go_wp2
    go_returns
    exact ⟨by rw [hs.out]; rfl, HB2.out⟩

theorem has_any {w : World} {mk : Nat} {p : C.Pg} {oac : Option Addr} {capc : Nat} (hc : w.cell? ⟨mk, 1, none⟩ = some (.slice oac p.cs.length capc)) (co : Int) :
    Calls Tryd.prog 22 #[.pointer (some ⟨mk, 0, none⟩), .int .i64 co] w fun e w' => e = .returned (.bool (hasB p co)) ∧ w' = w := by
  have hmk := World.block_lt_of_cell? w _ hc
  by_cases h0 : 0 ≤ co
  · have t0 : decide (co ≥ 0) = true := by simpa using h0
    by_cases h1 : co < p.cs.length
    · have t1 : decide (co < (p.cs.length : Int)) = true := by simpa using h1
      have hs := Lib.hid (show hasB p co = true by simp [hasB, h0, h1])
      clear h0 h1
      go_enter Tryd.func22, Tryd.ntmps22
      go_wp2
      go_ret
      exact ⟨by rw [hs.out]; rfl, rfl⟩
    · have t1 : decide (co < (p.cs.length : Int)) = false := by simpa using h1
      have hs := Lib.hid (show hasB p co = false by simp [hasB]; omega)
      clear h0 h1
      go_enter Tryd.func22, Tryd.ntmps22
      go_wp2
      go_ret
      exact ⟨by rw [hs.out]; rfl, rfl⟩
  · have t0 : decide (co ≥ 0) = false := by simpa using h0
    have hs := Lib.hid (show hasB p co = false by simp [hasB]; omega)
    clear h0
    go_enter Tryd.func22, Tryd.ntmps22
    go_wp2
    go_ret
    exact ⟨by rw [hs.out]; rfl, rfl⟩
end Go.Proofs.YtgpkhdccchpljaaDoor
