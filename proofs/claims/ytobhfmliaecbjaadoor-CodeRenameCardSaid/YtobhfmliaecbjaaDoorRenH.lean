/-
  CodeRename answers true for every input. No conditions.
-/
import Derived.Test.YtobhfmliaecbjaaDoorOneH
import Derived.Test.YtobhfmliaecbjaaDoorRen
import Derived.Deep.RegionHeld3
import Derived.Deep.QuietTactic
import Derived.BigQuiet
namespace Go.Proofs.YtobhfmliaecbjaaDoor
open Go.RowKit Go.ChangeShapes Go.WideShapes Go.ChangeAt

theorem turned_any (n : Int) (w : World) : Calls Tryd.prog 25 #[.int .i64 n] w fun e w' => e = .returned (.int .i64 (turn n)) ∧ w' = w := by
  by_cases h1 : n < 1
  · have t1 : decide (n < 1) = true := by simpa using h1
    have e : turn n = n := if_neg (by omega)
    rw [e]
    clear e
    go_enter Tryd.func25, Tryd.ntmps25
    go_wp2
    go_ret
    exact ⟨rfl, rfl⟩
  have t1 : decide (n < 1) = false := by simpa using h1
  by_cases h2 : 15 < n
  · have t2 : decide (n > 15) = true := by simpa using h2
    have e : turn n = n := if_neg (by omega)
    rw [e]
    clear e
    go_enter Tryd.func25, Tryd.ntmps25
    go_wp2
    go_ret
    exact ⟨rfl, rfl⟩
  have t2 : decide (n > 15) = false := by simpa using h2
  have e : turn n = 16 - n := if_pos (by omega)
  rw [e]
  clear e
  go_enter Tryd.func25, Tryd.ntmps25
  go_wp2
  go_ret
  first | exact ⟨rfl, rfl⟩ | exact ⟨by go_num, rfl⟩ | exact ⟨by simp, rfl⟩

theorem tab_six : ∀ k : Fin 30, let s := tab.getD k.val ⟨0, 0, 0, 0⟩
    (s.f0 = 0 ∧ s.f1 ≠ 1 ∧ s.f2 ≠ 1) ∨ (s.f0 = 1 ∧ s.f1 ≠ 1 ∧ s.f2 ≠ 1) ∨ (s.f0 = 1 ∧ s.f1 = 1 ∧ s.f2 ≠ 1) ∨ (s.f0 = 2 ∧ s.f1 ≠ 1 ∧ s.f2 ≠ 1) ∨ (s.f0 = 2 ∧ s.f1 = 1 ∧ s.f2 ≠ 1) ∨ (s.f0 = 2 ∧ s.f1 = 1 ∧ s.f2 = 1) := by decide
theorem shp_six (op : Int) : ((shp op).f0 = 0 ∧ (shp op).f1 ≠ 1 ∧ (shp op).f2 ≠ 1) ∨ ((shp op).f0 = 1 ∧ (shp op).f1 ≠ 1 ∧ (shp op).f2 ≠ 1) ∨ ((shp op).f0 = 1 ∧ (shp op).f1 = 1 ∧ (shp op).f2 ≠ 1) ∨
    ((shp op).f0 = 2 ∧ (shp op).f1 ≠ 1 ∧ (shp op).f2 ≠ 1) ∨ ((shp op).f0 = 2 ∧ (shp op).f1 = 1 ∧ (shp op).f2 ≠ 1) ∨ ((shp op).f0 = 2 ∧ (shp op).f1 = 1 ∧ (shp op).f2 = 1) := by
  unfold shp
  split
  · by_cases h : op.toNat < 30
    · exact tab_six ⟨op.toNat, h⟩
    · rw [List.getD_eq_getElem?_getD, List.getElem?_eq_none (by show 30 ≤ op.toNat; omega)]
      decide
  · decide
/-- what is read, what is written, and the instruction turned: six ways -/
inductive Six (x : In) : List Int → Option Int → In → Prop
  | a : Six x [] none x
  | b : Six x [x.a] none ⟨x.op, turn x.a, x.b, x.c, x.l⟩
  | c : Six x [x.a, x.b] none ⟨x.op, turn x.a, turn x.b, x.c, x.l⟩
  | d : Six x [] (some x.a) ⟨x.op, turn x.a, x.b, x.c, x.l⟩
  | e : Six x [x.b] (some x.a) ⟨x.op, turn x.a, turn x.b, x.c, x.l⟩
  | f : Six x [x.b, x.c] (some x.a) ⟨x.op, turn x.a, turn x.b, turn x.c, x.l⟩
theorem six_is (x : In) : Six x (readsL x) (writesO x) (rnI x) := by
  obtain ⟨_, w1, w2⟩ := shp_f x.op
  rcases shp_six x.op with ⟨h0, h1, h2⟩ | ⟨h0, h1, h2⟩ | ⟨h0, h1, h2⟩ | ⟨h0, h1, h2⟩ | ⟨h0, h1, h2⟩ | ⟨h0, h1, h2⟩
  · have e1 : readsL x = [] := by simp [readsL, fl, h0, h1, h2]
    have e2 : writesO x = none := by simp [writesO, h0, w1, w2]
    have e3 : rnI x = x := by simp [rnI, h0, h1, h2]
    rw [e1, e2, e3]; exact .a
  · have e1 : readsL x = [x.a] := by simp [readsL, fl, h0, h1, h2]
    have e2 : writesO x = none := by simp [writesO, h0, w1, w2]
    have e3 : rnI x = ⟨x.op, turn x.a, x.b, x.c, x.l⟩ := by simp [rnI, h0, h1, h2]
    rw [e1, e2, e3]; exact .b
  · have e1 : readsL x = [x.a, x.b] := by simp [readsL, fl, h0, h1, h2]
    have e2 : writesO x = none := by simp [writesO, h0, h1, w2]
    have e3 : rnI x = ⟨x.op, turn x.a, turn x.b, x.c, x.l⟩ := by simp [rnI, h0, h1, h2]
    rw [e1, e2, e3]; exact .c
  · have e1 : readsL x = [] := by simp [readsL, fl, h0, h1, h2]
    have e2 : writesO x = some x.a := by simp [writesO, h0]
    have e3 : rnI x = ⟨x.op, turn x.a, x.b, x.c, x.l⟩ := by simp [rnI, h0, h1, h2]
    rw [e1, e2, e3]; exact .d
  · have e1 : readsL x = [x.b] := by simp [readsL, fl, h0, h1, h2]
    have e2 : writesO x = some x.a := by simp [writesO, h0]
    have e3 : rnI x = ⟨x.op, turn x.a, turn x.b, x.c, x.l⟩ := by simp [rnI, h0, h1, h2]
    rw [e1, e2, e3]; exact .e
  · have e1 : readsL x = [x.b, x.c] := by simp [readsL, fl, h0, h1, h2]
    have e2 : writesO x = some x.a := by simp [writesO, h0]
    have e3 : rnI x = ⟨x.op, turn x.a, turn x.b, turn x.c, x.l⟩ := by simp [rnI, h0, h1, h2]
    rw [e1, e2, e3]; exact .f

/-- what the loop has built -/
structure RenQ (B : Nat) (cv : Value) (p : Pg) (j : Nat) (w3 wr : World) : Prop where
  q : QAt B B wr cv ((p.fs.take j).map (List.map rnI))
  below : Below B w3 wr
theorem RenQ.next {B : Nat} {cv vq vq' v' : Value} {p : Pg} {j : Nat} {w3 w5 w6 wr : World} {fvs : List Value} {f : List In} {o : Obj} (hb5 : Below B w3 w5) (hB5 : B ≤ w5.heap.size)
    (hbox : w5.heap[B]? = some (.cells #[vq, cv] 35)) (hlen : fvs.length = ((p.fs.take j).map (List.map rnI)).length) (hF : ∀ (i : Nat) (fv : Value) (f : List In), fvs[i]? = some fv → ((p.fs.take j).map (List.map rnI))[i]? = some f → FunO B w5 fv f) (hnew : FunO B w5 v' (f.map rnI))
    (ha : (w5.alloc o).ownsRow B 39 1 vq fvs.length fvs) (h6 : w6.ownsRow B 39 1 vq' (fvs.length + 1) (fvs ++ [v'])) (hg : (w5.alloc o).grownBy w6 vq.ownBlock)
    (hfj : p.fs[j]? = some f) (hwr : wr = w6.setCell ⟨B, 0, none⟩ vq') : RenQ B cv p (j + 1) w3 wr := by
  subst hwr
  obtain ⟨hQ, hK⟩ := QAt.push hbox hlen hF hnew (Nat.le_refl _) ha h6 hg
  refine ⟨?_, hb5.trans (hK.below hB5)⟩
  rw [take_snoc p.fs j f hfj, List.map_append]
  exact hQ

end Go.Proofs.YtobhfmliaecbjaaDoor
