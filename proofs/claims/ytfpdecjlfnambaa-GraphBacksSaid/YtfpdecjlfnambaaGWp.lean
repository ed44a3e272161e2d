/-
  Ranges over functions walked with the plain walk: laws between the walk inside a fence and the plain one, at the wide fence. No conditions: laws alone.
-/
import Derived.RangeFuncNested
import Derived.RangeFuncBound
import Derived.RangeFuncCalls
import Derived.RangeFuncLeaves
import Derived.Shelf.Abstract
import Derived.Shelf.RegionOpen
import Derived.WalkKit
import Derived.OwnWalkIn
import Derived.TacticsInMore
import Derived.LoopNIn
import Derived.LoopIn
import Derived.Deep.RegionHeld3
import Derived.Deep.LoopGhost
import Derived.Deep.DeepCutAuto
import Derived.Lib.Hide
import Derived.Lib.MinMax
import Derived.Test.YtfpdecjlfnambaaProg
namespace Go.Proofs.Ytfpdecjlfnambaa
open Go Go.RowKit Go.Shelf

/-- The wide fence within a round. -/
abbrev WR (l : Nat) : Fence := Fence.wide.inRound l

theorem opIn_of_op {P : Program} {o : Oper} {a : Act} {w : World} {K : Act → World → Prop} {Q : Exit → Act → World → Prop} (l n : Nat) (hd : ∀ c, o.op ≠ .defer c) (h : o.wp P a w K Q) : o.wpIn (WR l) n P a w K Q := by
  refine ⟨fun _ _ => trivial, ?_⟩
  rw [Oper.semAt_eq _ _ _ hd]
  unfold Oper.wp at h
  generalize (execOp a.eval o).run P w = r at *
  cases r with
  | ok x w' =>
    cases x <;> simp only [Oper.upon, Oper.uponIn] at h ⊢
    case value => exact h
    case skip => exact h
    case defer => exact h
    case enter f args => exact ⟨fun h => (by cases h), CallsIn.inRound l (callsIn_wide.2 h)⟩
    case row row args =>
      refine ⟨fun h => (by cases h), fun c cs _ => ?_⟩
      obtain ⟨v, w'', hr, hs⟩ := h c cs
      exact ⟨v, w'', hr, stepsIn_wide.2 hs⟩
  | halt x w' => cases x <;> simp only [Oper.upon, Oper.uponIn] at h ⊢ <;> exact h

def notDefer (o : Oper) : Bool := match o.op with | .defer _ => false | _ => true
theorem notDefer_spec {ops : Array Oper} (h : ops.toList.all notDefer = true) : ∀ (i : Nat) (o : Oper), ops[i]? = some o → ∀ c, o.op ≠ .defer c := fun i o ho c hc => by
  have := List.all_eq_true.1 h o (List.mem_of_getElem? (by rw [Array.getElem?_toList]; exact ho))
  simp [notDefer, hc] at this

theorem opsIn_of_ops {P : Program} {ops : Array Oper} {Q : Exit → Act → World → Prop} (l n : Nat) (hd : ∀ (i : Nat) (o : Oper), ops[i]? = some o → ∀ c, o.op ≠ .defer c) (hL : ¬ LetsOut Q) :
    ∀ (is : List Nat) (a : Act) (w : World), wpOps P ops Q is a w → wpOpsIn (WR l) n P ops Q is a w
  | [], _, _, h => h
  | i :: rest, a, w, h => by
    simp only [wpOps, wpOpsIn] at h ⊢
    cases ho : ops[i]? with
    | none => simp only [ho] at h ⊢; exact opsIn_of_ops l n hd hL rest a w h
    | some o =>
      simp only [ho] at h ⊢
      split
      · rename_i hw
        rw [if_pos hw] at h
        rcases h with h | ⟨_, h⟩
        · exact Oper.wpIn_mono (fun a w => opsIn_of_ops l n hd hL rest a w) (opIn_of_op l n (hd i o ho) h)
        · exact absurd h hL
      · rename_i hw
        rw [if_neg hw] at h
        exact ⟨fun _ _ => trivial, opsIn_of_ops l n hd hL rest _ w h⟩

/-- A REGION THAT DRAWS ITS ORDER, WITHIN A ROUND, by the plain walk under a held condition. -/
theorem wpIn_region_held_in {P : Program} {ops : Array Oper} {Q : Exit → Act → World → Prop} {S : World → Prop} {id l n : Nat} {a : Act} {w : World} (hm : P.follows .mixedOrders = true) (hd : ops.toList.all notDefer = true) (hL : ¬ LetsOut Q) (hS : S w.drew)
    (h : S w.drew → wpAnyH P .any ops Q S ops.size (Array.replicate ops.size false) a w.drew) : (Code.region id ops true).wpIn (WR l) n P Q a w :=
  wpIn_region_draw fun t => by
    simp only [Region.schedule, hm, Bool.true_or, if_true]
    exact opsIn_of_ops l n (notDefer_spec hd) hL _ _ _ (wpAny_sound ops.size t _ a _ (wpAny_of_held _ _ _ _ (h hS)))

/-- A region that keeps its order, within a round, by the plain walk. -/
theorem wpIn_region_list_in {P : Program} {os : List Oper} {Q : Exit → Act → World → Prop} {id l n : Nat} {a : Act} {w : World} (hd : os.all notDefer = true) (hL : ¬ LetsOut Q)
    (h : wpList P os.toArray Q os a w) : (Code.region id os.toArray false).wpIn (WR l) n P Q a w :=
  wpIn_region (opsIn_of_ops l n (notDefer_spec (by simpa using hd)) hL _ _ _ (by
    rw [List.range_eq_range', List.size_toArray, wpOps_eq_wpList os 0 (by simp)]
    exact h))

theorem notOut {K : Act → World → Prop} {Q : Exit → Act → World → Prop} (h : ¬ LetsOut Q) : ¬ LetsOut (Exit.then K Q) := fun ⟨a, w, q⟩ => h ⟨a, w, q⟩

/-- A function's contract from the plain walk of its body, where that holds a range over a function. -/
theorem calls_of_wp_marks {P : Program} {f : FuncId} {fn : Func} {c : Code} {args : Array Value} {w : World} {R : Ending → World → Prop}
    (hf : P.funcs[f]? = some fn) (hb : fn.body = some c)
    (h : c.wp P (bodyPostM Fence.wide 0 P fn R) { tmps := args ++ Array.replicate (fn.ntmps - args.size) undef, defers := [] } w) : Calls P f args w R :=
  (callsIn_wide (n := 0)).1 (callsIn_of_wp_marks hf hb trivial (wpIn_wide.2 h))

abbrev mark (D : Nat) : Deferred := { target := .collected D, args := #[] }
/-- The world in which the marks' blocks are shut. -/
def shutAll (w : World) (ds : List Nat) : World := ds.foldl (fun w D => w.putObj D (.deferred none)) w

theorem shutAll_size : ∀ (ds : List Nat) (w : World), (shutAll w ds).heap.size = w.heap.size
  | [], _ => rfl
  | D :: ds, w => by
    show (shutAll (w.putObj D (.deferred none)) ds).heap.size = _
    rw [shutAll_size ds]
    simp
theorem shutAll_other : ∀ (ds : List Nat) (w : World) (k : Nat), k ∉ ds → (shutAll w ds).heap[k]? = w.heap[k]?
  | [], _, _, _ => rfl
  | D :: ds, w, k, h => by
    show (shutAll (w.putObj D (.deferred none)) ds).heap[k]? = _
    rw [shutAll_other ds _ k (fun e => h (by simp [e]))]
    exact World.putObj_heap_other (fun e => h (by simp [e]))
theorem shutAll_below {n : Nat} : ∀ (ds : List Nat) (w : World), (∀ D ∈ ds, n ≤ D) → Below n w (shutAll w ds)
  | [], w, _ => Below.refl n w
  | D :: ds, w, h => by
    have h1 : Below n w (w.putObj D (.deferred none)) := ⟨rfl, rfl, rfl, by simp, fun k hk => World.putObj_heap_other (fun e => by have := h D (by simp); omega)⟩
    exact h1.trans (shutAll_below ds _ (fun x hx => h x (by simp [hx])))

theorem leaves_marks {P : Program} {fn : Func} {tmps : Array Value} {R : Ending → World → Prop} {n : Nat} : ∀ (ds : List Nat) (w : World), ds.Nodup → (∀ D ∈ ds, w.heap[D]? = some (.deferred (some []))) →
    LeavesIn Fence.wide n P fn tmps R [] .returning (shutAll w ds) → LeavesInM Fence.wide n P fn tmps R (ds.map mark) .returning w
  | [], _, _, _, h => h
  | D :: ds, w, hn, hk, h => by
    refine ⟨by simp, .inl ⟨D, _, rfl, run_takeDeferred (hk D (by simp)), ?_⟩⟩
    refine leaves_marks ds _ (List.nodup_cons.1 hn).2 (fun x hx => ?_) h
    have hne : x ≠ D := fun e => by
      subst e
      exact (List.nodup_cons.1 hn).1 hx
    rw [World.putObj_heap_other hne]
    exact hk x (by simp [hx])

end Go.Proofs.Ytfpdecjlfnambaa
