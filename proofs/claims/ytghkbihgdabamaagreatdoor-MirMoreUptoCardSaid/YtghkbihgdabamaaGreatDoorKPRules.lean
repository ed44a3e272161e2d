/-
  Several texts of the proof in one: PTok, PNeed, PBox, QFind, PRules. No conditions of their own: each lemma states its own.
-/
import Derived.Test.YtghkbihgdabamaaGreatDoorKPNext
import Derived.Recover
import Derived.Deep.MidRow
import Derived.Shelf.Abstract
namespace Go.Proofs.YtghkbihgdabamaaGreatDoor
open Go.RowKit

end Go.Proofs.YtghkbihgdabamaaGreatDoor

namespace Go.Proofs.YtghkbihgdabamaaGreatDoor
open Go.RowKit

end Go.Proofs.YtghkbihgdabamaaGreatDoor

namespace Go.Proofs.YtghkbihgdabamaaGreatDoor
open Go.RowKit


theorem below_setCells (B b : Nat) (hB : B ≤ b) : ∀ (vs : List Value) (o : Nat) (w0 w : World), Below B w0 w → Below B w0 (w.setCells b o vs)
  | [], _, _, _, h => h
  | v :: vs, o, w0, _, h => below_setCells B b hB vs (o + 1) w0 _ (h.setCell (p := ⟨b, o, none⟩) hB v)
theorem size_setCells (b : Nat) : ∀ (vs : List Value) (o : Nat) (w : World), (w.setCells b o vs).heap.size = w.heap.size
  | [], _, _ => rfl
  | _ :: vs, o, _ => (size_setCells b vs (o + 1) _).trans (by simp [World.setCell])
theorem there_block {w : World} {b : Nat} {Z : Array Value} {t : TypeId} (h : w.heap[b]? = some (.cells Z t)) (n : Nat) (hn : n ≤ Z.size) : w.there b 0 n := fun j hj => by
  refine ⟨?_, by simp [World.frozen?, h]⟩
  have hz : j < Z.size := by omega
  simp only [World.cell?, h, Nat.zero_add, Array.getElem?_eq_getElem hz]
  rfl
theorem there_new (w : World) (Z : Array Value) (t : TypeId) (n : Nat) (hn : n ≤ Z.size) : (w.alloc (.cells Z t)).there w.heap.size 0 n := there_block (heap_alloc_new _ _) n hn

theorem rangeAt_box (w : World) (cs : List Value) (t : TypeId) : (w.alloc (.cells cs.toArray t)).rangeAt w.heap.size 0 cs := fun j v hv => by
  simp only [World.cell?, Nat.zero_add]
  rw [heap_alloc_new]
  simpa using hv
theorem Row.range {α : Type} {w : World} {b off sz : Nat} {l : List α} {C : α → List Value} (h : ∀ (i : Nat) (x : α), l[i]? = some x → ∀ (j : Nat) (v : Value), (C x)[j]? = some v → w.cell? ⟨b, off + i * sz + j, none⟩ = some v) (i : Nat) (x : α) (hx : l[i]? = some x) : w.rangeAt b (off + i * sz) (C x) := h i x hx


/-- A list whose elements from o on are others. -/
def splL : List Value → Nat → List Value → List Value
  | l, _, [] => l
  | l, o, v :: vs => splL (l.set o v) (o + 1) vs
theorem splL_full : ∀ (vs pre l : List Value), l.length = vs.length → splL (pre ++ l) pre.length vs = pre ++ vs
  | [], pre, l, h => by simp at h; simp [splL, h]
  | v :: vs, pre, [], h => by simp at h
  | v :: vs, pre, a :: l, h => by
    have e : (pre ++ a :: l).set pre.length v = (pre ++ [v]) ++ l := by simp
    rw [splL, e]
    have := splL_full vs (pre ++ [v]) l (by simpa using h)
    simpa using this
theorem splL_all (vs l : List Value) (h : l.length = vs.length) : splL l 0 vs = vs := by simpa using splL_full vs [] l h
theorem heap_setCells (b : Nat) (t : TypeId) : ∀ (vs : List Value) (o : Nat) (w : World) (l : List Value), w.heap[b]? = some (.cells l.toArray t) → (w.setCells b o vs).heap[b]? = some (.cells (splL l o vs).toArray t)
  | [], _, _, _, h => h
  | v :: vs, o, w, l, h => by
    have h1 := heap_setCell_same w b o _ t v h
    refine heap_setCells b t vs (o + 1) _ (l.set o v) ?_
    simpa using h1
theorem heap_setCells_other (b k : Nat) (hk : k ≠ b) : ∀ (vs : List Value) (o : Nat) (w : World), (w.setCells b o vs).heap[k]? = w.heap[k]?
  | [], _, _ => rfl
  | v :: vs, o, w => (heap_setCells_other b k hk vs (o + 1) _).trans (Below.heap_setCell w ⟨b, o, none⟩ v k hk)

/-- A copy into a variable that was just made: the block is known whole. -/
theorem wpList_store_new2 {P : Program} {ops : Array Oper} {rest : List Oper} {op : Oper} {a : Act} {Q : Exit → Act → World → Prop} (hgd : op.guard = none) (ty : TypeId) (x y : Operand) (ho : op.op = .store ty x y) (w : World) (Z : Array Value) (t : TypeId) (g : Nat) (hg : g = w.heap.size)
    (hx : a.eval x = .pointer (some ⟨g, 0, none⟩)) (cs : List Value) (hy : a.eval y = .agg cs.toArray) (hZ : Z.size = cs.length) (hi : (P.info? ty).map (·.size) = some cs.length) (h1 : ∀ v ∈ cs, v.oneCell' = true)
    (h : ∀ W, Below w.heap.size w W → W.heap[g]? = some (.cells cs.toArray t) → W.heap.size = w.heap.size + 1 → wpList P ops Q rest (a.put op.dst undef) W) :
    wpList P ops Q (op :: rest) a (w.alloc (.cells Z t)) := by
  subst hg
  have ht : (w.alloc (.cells Z t)).there w.heap.size 0 cs.length := there_new w Z t _ (by omega)
  refine wpList_store_mid hgd ty x y ho w.heap.size 0 cs.toArray hx hy (by simpa using ht) (by simpa using hi) (all_oneCell_toArray h1) ?_
  refine h _ ?_ ?_ ?_
  · exact below_setCells _ _ (Nat.le_refl _) _ _ _ _ (alloc_below w _)
  · have hb := heap_setCells w.heap.size t cs 0 (w.alloc (.cells Z t)) Z.toList (by rw [heap_alloc_new])
    rw [splL_all cs Z.toList (by simpa using hZ)] at hb
    simpa using hb
  · rw [size_setCells]; simp

theorem run_storeVar_box {P : Program} (w : World) (b o : Nat) (ty : TypeId) (v : Value) (vs : List Value) (hv : v.cells = vs.toArray) (ht : w.there b o vs.length) (hi : (P.info? ty).map (·.size) = some vs.length) (h1 : ∀ v ∈ vs, v.oneCell' = true) :
    (storeVar ty ⟨b, o, none⟩ v).run P w = .ok () (w.setCells b o vs) := by
  have := run_storeCells_cells (P := P) b o vs 0 w (fun j hj => by simpa using (ht j hj).1) (fun j hj => by simpa using (ht j hj).2) h1
  cases hq : P.info? ty with
  | none => simp [hq] at hi
  | some i =>
    have hs : vs.length = i.size := by simp [hq] at hi; omega
    simp only [Nat.add_zero] at this
    simp [storeVar, sizeOf, typeInfo, hq, hv, hs, this]

theorem there_box {w : World} {b : Nat} {cs : List Value} {t : TypeId} (h : w.heap[b]? = some (.cells cs.toArray t)) (o n : Nat) (hn : o + n ≤ cs.length) : w.there b o n := fun j hj => by
  have h0 := there_block h cs.length (by simp) (o + j) (by omega)
  simpa using h0

/-- A store into a piece of a box whose block is known. -/
theorem wpList_store_box {P : Program} {ops : Array Oper} {rest : List Oper} {op : Oper} {a : Act} {w : World} {Q : Exit → Act → World → Prop} (hgd : op.guard = none) (ty : TypeId) (x y : Operand) (ho : op.op = .store ty x y) (b o : Nat)
    (hx : a.eval x = .pointer (some ⟨b, o, none⟩)) (v : Value) (hy : a.eval y = v) (vs : List Value) (hv : v.cells = vs.toArray) (cs : List Value) (t : TypeId) (hbox : w.heap[b]? = some (.cells cs.toArray t)) (hlen : o + vs.length ≤ cs.length)
    (hi : (P.info? ty).map (·.size) = some vs.length) (h1 : ∀ v ∈ vs, v.oneCell' = true) (B : Nat) (hB : B ≤ b) (w0 : World) (hb0 : Below B w0 w)
    (h : ∀ W, Below B w0 W → W.heap[b]? = some (.cells (splL cs o vs).toArray t) → (∀ k, k ≠ b → W.heap[k]? = w.heap[k]?) → wpList P ops Q rest (a.put op.dst undef) W) : wpList P ops Q (op :: rest) a w :=
  wpList_plain hgd fun _ hK => by
    unfold Oper.wp execOp
    have hr := run_storeVar_box (P := P) w b o ty v vs hv (there_box hbox o _ hlen) hi h1
    simp only [ho, hx, hy, Instr.storeAt, Instr.sureAddr, Sem.run_bind, Sem.run_pure, Result.andThen_ok, hr]
    exact hK _ _ (h _ (below_setCells B b hB _ _ _ _ hb0) (heap_setCells b t vs o w cs hbox) (fun k hk => heap_setCells_other b k hk vs o w))

/-- A guarded load of many cells. -/
theorem wpList_load_midW {P : Program} {ops : Array Oper} {rest : List Oper} {op : Oper} {a : Act} {w : World} {Q : Exit → Act → World → Prop} (hw : Region.wanted op (yielded ops a.tmps) = true) (ty : TypeId) (x : Operand) (ho : op.op = .load ty x)
    (b o : Nat) (hx : a.eval x = .pointer (some ⟨b, o, none⟩)) (cs : List Value) (d : TypeDesc) (hc : w.rangeAt b o cs)
    (hu : P.underlying ty = some d) (hd : d.isRow = true) (hi : (P.info? ty).map (·.size) = some cs.length)
    (h : wpList P ops Q rest (a.put op.dst (.agg cs.toArray)) w) : wpList P ops Q (op :: rest) a w :=
  wpList_step fun K hK => by
    rw [if_pos hw]
    exact wp_load_mid ty x ho b o hx cs d hc hu hd hi (hK _ _ h)
theorem rangeAt_of_box {w : World} {b : Nat} {cs : List Value} {t : TypeId} (h : w.heap[b]? = some (.cells cs.toArray t)) : w.rangeAt b 0 cs := fun j v hv => by
  simp only [World.cell?, Nat.zero_add, h]
  simpa using hv

theorem cells2p {w : World} {k : Nat} {v0 v1 : Value} {t : TypeId} (h : w.heap[k]? = some (.cells #[v0, v1] t)) :
    w.cell? ⟨k, 0, none⟩ = some v0 ∧ w.cell? ⟨k, 1, none⟩ = some v1 ∧ (∀ j, w.frozen? ⟨k, j, none⟩ = false) ∧ k < w.heap.size := by
  have hl := (Array.getElem?_eq_some_iff.1 h).1
  exact ⟨by simp [World.cell?, h], by simp [World.cell?, h], fun j => by simp [World.frozen?, h], hl⟩
theorem cells1p {w : World} {k : Nat} {v0 : Value} {t : TypeId} (h : w.heap[k]? = some (.cells #[v0] t)) :
    w.cell? ⟨k, 0, none⟩ = some v0 ∧ (∀ j, w.frozen? ⟨k, j, none⟩ = false) ∧ k < w.heap.size := by
  have hl := (Array.getElem?_eq_some_iff.1 h).1
  exact ⟨by simp [World.cell?, h], fun j => by simp [World.frozen?, h], hl⟩
theorem Kb.box {b k : Nat} {w w1 w2 : World} (h : Kb b w w1) (hk : w.heap.size ≤ k) (hb : Below k w1 w2) (hn : ∀ x, x ≠ k → w2.heap[x]? = w1.heap[x]?) : Kb b w w2 :=
  h.next hb.os hb.tape hb.output hb.size fun x hx _ => hn x (by omega)
theorem Kb.kept {b k : Nat} {w w' : World} {o : Obj} (h : Kb b w w') (hx : w.heap[k]? = some o) (hn : k ≠ b) : w'.heap[k]? = some o :=
  (h.block k (Array.getElem?_eq_some_iff.1 hx).1 hn).trans hx
/-- a row of values is written into new boxes: what lies in the other blocks stays so -/
theorem pal2 (w : World) (a c : Obj) : Below w.heap.size w ((w.alloc a).alloc c) ∧ ((w.alloc a).alloc c).heap[w.heap.size]? = some a ∧ ((w.alloc a).alloc c).heap[w.heap.size + 1]? = some c := by
  have h1 := alloc_below w a
  have h2 := alloc_below (w.alloc a) c
  have e : (w.alloc a).heap.size = w.heap.size + 1 := by simp
  refine ⟨h1.trans (h2.mono h1.size), keepB (heap_alloc_new w a) h2, ?_⟩
  have := heap_alloc_new (w.alloc a) c
  rwa [e] at this
theorem pal3 (w : World) (a c d : Obj) : Below w.heap.size w (((w.alloc a).alloc c).alloc d) ∧ (((w.alloc a).alloc c).alloc d).heap[w.heap.size]? = some a ∧ (((w.alloc a).alloc c).alloc d).heap[w.heap.size + 1]? = some c ∧ (((w.alloc a).alloc c).alloc d).heap[w.heap.size + 1 + 1]? = some d := by
  obtain ⟨h1, h2, h3⟩ := pal2 w a c
  have h4 := alloc_below ((w.alloc a).alloc c) d
  have e : ((w.alloc a).alloc c).heap.size = w.heap.size + 1 + 1 := by simp
  refine ⟨h1.trans (h4.mono h1.size), keepB h2 h4, keepB h3 h4, ?_⟩
  have := heap_alloc_new ((w.alloc a).alloc c) d
  rwa [e] at this
theorem blk_lt {w : World} {k : Nat} {o : Obj} (h : w.heap[k]? = some o) : k < w.heap.size := (Array.getElem?_eq_some_iff.1 h).1
end Go.Proofs.YtghkbihgdabamaaGreatDoor

namespace Go.Proofs.YtghkbihgdabamaaGreatDoor
open Go.RowKit

theorem strq2_eq (s t : ByteArray) : (s.toList == t.toList) = decide (s = t) := by
  rw [Bool.eq_iff_iff, beq_iff_eq, decide_eq_true_eq, Lib.toList_data, Lib.toList_data]
  constructor
  · intro h
    cases s; cases t
    simpa using h
  · rintro rfl; rfl
/-- names alike -/
def nmB (s t : ByteArray) : Bool := decide (s = t)
/-- the place of the first one, from j on -/
def fiO {α : Type} (g : α → Bool) : List α → Nat → Int
  | [], _ => -1
  | x :: l, j => if g x then (j : Int) else fiO g l (j + 1)
theorem fiO_yes {α : Type} {g : α → Bool} {x : α} {l : List α} {j : Nat} (h : g x = true) : fiO g (x :: l) j = j := by rw [fiO, if_pos h]
theorem fiO_no {α : Type} {g : α → Bool} {x : α} {l : List α} {j : Nat} (h : g x = false) : fiO g (x :: l) j = fiO g l (j + 1) := by rw [fiO, if_neg (by simp [h])]
/-- what is found stands there, and none ahead of it -/
theorem fiO_spec {α : Type} {g : α → Bool} : ∀ (l : List α) (j : Nat), (fiO g l j = -1 ∧ ∀ x ∈ l, g x = false) ∨ ∃ i x, l[i]? = some x ∧ g x = true ∧ fiO g l j = ((j + i : Nat) : Int) ∧ ∀ k, k < i → ∀ y, l[k]? = some y → g y = false
  | [], j => .inl ⟨rfl, fun _ h => by cases h⟩
  | x :: l, j => by
    cases hg : g x with
    | true => exact .inr ⟨0, x, rfl, hg, by rw [fiO_yes hg]; rfl, fun k hk => absurd hk (Nat.not_lt_zero _)⟩
    | false =>
      rw [fiO_no hg]
      rcases fiO_spec l (j + 1) with ⟨h1, h2⟩ | ⟨i, y, h1, h2, h3, h4⟩
      · refine .inl ⟨h1, fun y hy => ?_⟩
        rcases List.mem_cons.1 hy with rfl | hy
        · exact hg
        · exact h2 y hy
      · refine .inr ⟨i + 1, y, by simpa using h1, h2, by rw [h3, show j + 1 + i = j + (i + 1) by omega], fun k hk z hz => ?_⟩
        cases k with
        | zero => simp at hz; subst hz; exact hg
        | succ k => exact h4 k (by omega) z (by simpa using hz)

set_option maxRecDepth 100000 in
set_option maxHeartbeats 4000000 in
theorem idxSu_any (F : Nat) (c : Nat) (hE : ∀ args w, (callFunc F args).run Tryz.prog w = .ok (.enter F args) w) (g : Su5 → Bool) (P : World → Su5 → Prop) (hPb : ∀ w w' x, P w x → Below w.heap.size w w' → P w' x)
    (w : World) (hF : ∀ x W, P W x → Below w.heap.size w W → Calls Tryz.prog F #[suV x, .pointer (some ⟨c, 0, none⟩)] W fun e w' => e = .returned (.bool (g x)) ∧ Below W.heap.size W w')
    (ha : Hd) (la : List Su5) (hA : Row w ha 4 la suC (P w)) :
    Calls Tryz.prog 110 #[.slice ha.oa la.length ha.cap, .func (.func F) #[] #[.pointer (some ⟨c, 0, none⟩)]] w fun e w' => e = .returned (.int .i64 (fiO g la 0)) ∧ Below w.heap.size w w' := by
  obtain ⟨oa, capa⟩ := ha
  obtain ⟨ha1, ha2, ha3, ha4⟩ := hA
  dsimp only at ha1 ha2 ha3 ⊢
  unfold maxLen at ha2
  replace ha3 := Lib.hid ha3
  replace ha4 := Lib.hid ha4
  replace hF := Lib.hid hF
  replace hPb := Lib.hid hPb
  obtain ⟨R, hR⟩ : ∃ R, R = fiO g la 0 := ⟨_, rfl⟩
  rw [← hR]
  replace hR := Lib.hid hR
  go_enter Tryz.func110, Tryz.ntmps110
  go_wp2_with fail
  go_loopw [8] (fun u wr => ∃ j : Nat, j ≤ la.length ∧ u = .int .i64 j ∧ fiO g (la.drop j) j = R ∧ Below w.heap.size w wr) (fun u _ => la.length - (intOf u).toNat)
  case atStart => exact ⟨0, by omega, rfl, by simpa using hR.out.symm, Below.refl _ _⟩
  case round =>
    obtain ⟨j, hj, rfl, hs, hbw⟩ := hrel
    have HS := Lib.hid hs
    clear hs
    by_cases hjl : j < la.length
    · have t1 : decide ((j : Int) < la.length) = true := by simp; omega
      obtain ⟨ba, offa, rfl, hxlt, hxc⟩ := ha3.out (by omega)
      obtain ⟨x, hx⟩ : ∃ x, la[j]? = some x := ⟨_, List.getElem?_eq_getElem hjl⟩
      have hdx : la.drop j = x :: la.drop (j + 1) := by rw [List.drop_eq_getElem_cons hjl]; rw [List.getElem?_eq_getElem hjl] at hx; rw [Option.some.inj hx]
      have HD := Lib.hid (show fiO g (x :: la.drop (j + 1)) j = R by rw [← HS.out, hdx])
      have hpx := hPb.out _ _ _ (ha4.out x (List.mem_of_getElem? hx)) hbw
      have hcall : ∀ W, Below wr.heap.size wr W → Calls Tryz.prog F #[suV x, .pointer (some ⟨c, 0, none⟩)] W fun e w' => e = .returned (.bool (g x)) ∧ Below W.heap.size W w' := fun W hW => hF.out x W (hPb.out _ _ _ hpx hW) (hbw.trans (hW.mono hbw.size))
      clear hpx hdx
      cases hbv : g x with
      | true =>
        have HR := Lib.hid (show (j : Int) = R by rw [← HD.out, fiO_yes hbv])
        rw [hbv] at hcall
        clear hbv
        obtain ⟨un1, ud1, uh1, uf1, up1⟩ := x
        simp only [suV, suC] at hcall
        replace hcall := Lib.hid hcall
        have gx0 : wr.cell? ⟨ba, offa + j * 4, none⟩ = some (.string un1) := (hbw.cell (p := ⟨ba, offa + j * 4, none⟩) hxlt).trans (by simpa using hxc j _ hx 0 _ rfl)
        have gx1 : wr.cell? ⟨ba, offa + j * 4 + 1, none⟩ = some (.bool ud1) := (hbw.cell (p := ⟨ba, offa + j * 4 + 1, none⟩) hxlt).trans (by simpa using hxc j _ hx 1 _ rfl)
        have gx2 : wr.cell? ⟨ba, offa + j * 4 + 2, none⟩ = some (.slice uh1.oa uf1.length uh1.cap) := (hbw.cell (p := ⟨ba, offa + j * 4 + 2, none⟩) hxlt).trans (by simpa using hxc j _ hx 2 _ rfl)
        have gx3 : wr.cell? ⟨ba, offa + j * 4 + 3, none⟩ = some (.int .i64 up1) := (hbw.cell (p := ⟨ba, offa + j * 4 + 3, none⟩) hxlt).trans (by simpa using hxc j _ hx 3 _ rfl)
        clear hx hxc
        have hsz := hbw.size
        go_wp2_with (go_at_fn F; refine (hcall.out _ (Below.refl _ _)).mono ?_; rintro e w1 ⟨rfl, hb1⟩; have B1 := Lib.hid hb1; clear hb1)
        go_ret
        exact ⟨by rw [← HR.out]; rfl, hbw.trans (B1.out.mono hbw.size)⟩
      | false =>
        have HR := Lib.hid (show fiO g (la.drop (j + 1)) (j + 1) = R by rw [← HD.out, fiO_no hbv])
        rw [hbv] at hcall
        clear hbv
        obtain ⟨un1, ud1, uh1, uf1, up1⟩ := x
        simp only [suV, suC] at hcall
        replace hcall := Lib.hid hcall
        have gx0 : wr.cell? ⟨ba, offa + j * 4, none⟩ = some (.string un1) := (hbw.cell (p := ⟨ba, offa + j * 4, none⟩) hxlt).trans (by simpa using hxc j _ hx 0 _ rfl)
        have gx1 : wr.cell? ⟨ba, offa + j * 4 + 1, none⟩ = some (.bool ud1) := (hbw.cell (p := ⟨ba, offa + j * 4 + 1, none⟩) hxlt).trans (by simpa using hxc j _ hx 1 _ rfl)
        have gx2 : wr.cell? ⟨ba, offa + j * 4 + 2, none⟩ = some (.slice uh1.oa uf1.length uh1.cap) := (hbw.cell (p := ⟨ba, offa + j * 4 + 2, none⟩) hxlt).trans (by simpa using hxc j _ hx 2 _ rfl)
        have gx3 : wr.cell? ⟨ba, offa + j * 4 + 3, none⟩ = some (.int .i64 up1) := (hbw.cell (p := ⟨ba, offa + j * 4 + 3, none⟩) hxlt).trans (by simpa using hxc j _ hx 3 _ rfl)
        clear hx hxc
        have hsz := hbw.size
        go_wp2_with (go_at_fn F; refine (hcall.out _ (Below.refl _ _)).mono ?_; rintro e w1 ⟨rfl, hb1⟩; have B1 := Lib.hid hb1; clear hb1)
        go_roundw
        case rel => exact ⟨j + 1, by omega, by go_num, HR.out, hbw.trans (B1.out.mono hbw.size)⟩
        case measure => simp [intOf]; omega
    · have t1 : decide ((j : Int) < la.length) = false := by simp; omega
      obtain rfl : j = la.length := by omega
      have HZ := Lib.hid (show (-1 : Int) = R by rw [← HS.out, List.drop_length]; rfl)
      go_wp2
      go_ret
      exact ⟨by rw [← HZ.out]; first | done | rfl, hbw⟩

set_option maxRecDepth 100000 in
theorem ofSu1_any (x : Su5) (c : Nat) (nm : ByteArray) (w : World) (hc : w.cell? ⟨c, 0, none⟩ = some (.string nm)) :
    Calls Tryz.prog 111 #[suV x, .pointer (some ⟨c, 0, none⟩)] w fun e w' => e = .returned (.bool (nmB x.nm nm)) ∧ Below w.heap.size w w' := by
  obtain ⟨un1, ud1, uh1, uf1, up1⟩ := x
  simp only [suV, suC]
  have hlt : c < w.heap.size := World.block_lt_of_cell? w _ hc
  go_enter Tryz.func111, Tryz.ntmps111
  go_wp2
  go_ret
  exact ⟨by simp only [nmB, strq2_eq]; rfl, (Below.refl _ _).alloc (Nat.le_refl _) _⟩
theorem entersSuo : ∀ args w, (callFunc 111 args).run Tryz.prog w = .ok (.enter 111 args) w := enters_of Tryz.func111 (by kernel_rfl) rfl
set_option maxRecDepth 100000 in
set_option maxHeartbeats 4000000 in
theorem SuOf_any (n : Nat) (s : So5) (nm : ByteArray) (w : World) (hs : SoH n w s) : Calls Tryz.prog 82 #[soV s, .string nm] w fun e w' => e = .returned (.int .i64 (fiO (fun x => nmB x.nm nm) s.structs 0)) ∧ Below w.heap.size w w' := by
  have hcon := fun W c (hW : Below w.heap.size w W) (hc : W.cell? ⟨c, 0, none⟩ = some (.string nm)) => idxSu_any 111 c entersSuo (fun x => nmB x.nm nm) (SuH n) (fun _ _ _ h hb => SuH.below h hb) W (fun x V _ hV => ofSu1_any x c nm V ((hV.cell (p := ⟨c, 0, none⟩) (World.block_lt_of_cell? W _ hc)).trans hc)) s.hs s.structs (Row.below hs.1 hW fun _ _ h => SuH.below h hW)
  obtain ⟨hs1, ss, he1, es, hf1, fs⟩ := s
  dsimp only at hcon ⊢
  obtain ⟨R, hR⟩ : ∃ R, R = fiO (fun x => nmB x.nm nm) ss 0 := ⟨_, rfl⟩
  rw [← hR] at hcon ⊢
  have HC := Lib.hid hcon
  clear hcon hR hs
  simp only [soV]
  go_enter Tryz.func82, Tryz.ntmps82
  go_wp2_with (go_at_call 110; refine (HC.out _ _ (((Below.refl _ _).alloc (Nat.le_refl _) _).alloc (by simp) _) (by simp)).mono ?_; rintro e w1 ⟨rfl, hb1⟩; have B1 := Lib.hid ((((Below.refl w.heap.size w).alloc (Nat.le_refl _) _).alloc (by simp) _).trans (hb1.mono (by simp; omega))); clear hb1)
  go_ret
  exact ⟨rfl, B1.out⟩

set_option maxRecDepth 100000 in
set_option maxHeartbeats 4000000 in
theorem idxEn_any (F : Nat) (c : Nat) (hE : ∀ args w, (callFunc F args).run Tryz.prog w = .ok (.enter F args) w) (g : En5 → Bool) (P : World → En5 → Prop) (hPb : ∀ w w' x, P w x → Below w.heap.size w w' → P w' x)
    (w : World) (hF : ∀ x W, P W x → Below w.heap.size w W → Calls Tryz.prog F #[enV x, .pointer (some ⟨c, 0, none⟩)] W fun e w' => e = .returned (.bool (g x)) ∧ Below W.heap.size W w')
    (ha : Hd) (la : List En5) (hA : Row w ha 3 la enC (P w)) :
    Calls Tryz.prog 151 #[.slice ha.oa la.length ha.cap, .func (.func F) #[] #[.pointer (some ⟨c, 0, none⟩)]] w fun e w' => e = .returned (.int .i64 (fiO g la 0)) ∧ Below w.heap.size w w' := by
  obtain ⟨oa, capa⟩ := ha
  obtain ⟨ha1, ha2, ha3, ha4⟩ := hA
  dsimp only at ha1 ha2 ha3 ⊢
  unfold maxLen at ha2
  replace ha3 := Lib.hid ha3
  replace ha4 := Lib.hid ha4
  replace hF := Lib.hid hF
  replace hPb := Lib.hid hPb
  obtain ⟨R, hR⟩ : ∃ R, R = fiO g la 0 := ⟨_, rfl⟩
  rw [← hR]
  replace hR := Lib.hid hR
  go_enter Tryz.func151, Tryz.ntmps151
  go_wp2_with fail
  go_loopw [8] (fun u wr => ∃ j : Nat, j ≤ la.length ∧ u = .int .i64 j ∧ fiO g (la.drop j) j = R ∧ Below w.heap.size w wr) (fun u _ => la.length - (intOf u).toNat)
  case atStart => exact ⟨0, by omega, rfl, by simpa using hR.out.symm, Below.refl _ _⟩
  case round =>
    obtain ⟨j, hj, rfl, hs, hbw⟩ := hrel
    have HS := Lib.hid hs
    clear hs
    by_cases hjl : j < la.length
    · have t1 : decide ((j : Int) < la.length) = true := by simp; omega
      obtain ⟨ba, offa, rfl, hxlt, hxc⟩ := ha3.out (by omega)
      obtain ⟨x, hx⟩ : ∃ x, la[j]? = some x := ⟨_, List.getElem?_eq_getElem hjl⟩
      have hdx : la.drop j = x :: la.drop (j + 1) := by rw [List.drop_eq_getElem_cons hjl]; rw [List.getElem?_eq_getElem hjl] at hx; rw [Option.some.inj hx]
      have HD := Lib.hid (show fiO g (x :: la.drop (j + 1)) j = R by rw [← HS.out, hdx])
      have hpx := hPb.out _ _ _ (ha4.out x (List.mem_of_getElem? hx)) hbw
      have hcall : ∀ W, Below wr.heap.size wr W → Calls Tryz.prog F #[enV x, .pointer (some ⟨c, 0, none⟩)] W fun e w' => e = .returned (.bool (g x)) ∧ Below W.heap.size W w' := fun W hW => hF.out x W (hPb.out _ _ _ hpx hW) (hbw.trans (hW.mono hbw.size))
      clear hpx hdx
      cases hbv : g x with
      | true =>
        have HR := Lib.hid (show (j : Int) = R by rw [← HD.out, fiO_yes hbv])
        rw [hbv] at hcall
        clear hbv
        obtain ⟨un1, uh1, uf1, up1⟩ := x
        simp only [enV, enC] at hcall
        replace hcall := Lib.hid hcall
        have gx0 : wr.cell? ⟨ba, offa + j * 3, none⟩ = some (.string un1) := (hbw.cell (p := ⟨ba, offa + j * 3, none⟩) hxlt).trans (by simpa using hxc j _ hx 0 _ rfl)
        have gx1 : wr.cell? ⟨ba, offa + j * 3 + 1, none⟩ = some (.slice uh1.oa uf1.length uh1.cap) := (hbw.cell (p := ⟨ba, offa + j * 3 + 1, none⟩) hxlt).trans (by simpa using hxc j _ hx 1 _ rfl)
        have gx2 : wr.cell? ⟨ba, offa + j * 3 + 2, none⟩ = some (.int .i64 up1) := (hbw.cell (p := ⟨ba, offa + j * 3 + 2, none⟩) hxlt).trans (by simpa using hxc j _ hx 2 _ rfl)
        clear hx hxc
        have hsz := hbw.size
        go_wp2_with (go_at_fn F; refine (hcall.out _ (Below.refl _ _)).mono ?_; rintro e w1 ⟨rfl, hb1⟩; have B1 := Lib.hid hb1; clear hb1)
        go_ret
        exact ⟨by rw [← HR.out]; rfl, hbw.trans (B1.out.mono hbw.size)⟩
      | false =>
        have HR := Lib.hid (show fiO g (la.drop (j + 1)) (j + 1) = R by rw [← HD.out, fiO_no hbv])
        rw [hbv] at hcall
        clear hbv
        obtain ⟨un1, uh1, uf1, up1⟩ := x
        simp only [enV, enC] at hcall
        replace hcall := Lib.hid hcall
        have gx0 : wr.cell? ⟨ba, offa + j * 3, none⟩ = some (.string un1) := (hbw.cell (p := ⟨ba, offa + j * 3, none⟩) hxlt).trans (by simpa using hxc j _ hx 0 _ rfl)
        have gx1 : wr.cell? ⟨ba, offa + j * 3 + 1, none⟩ = some (.slice uh1.oa uf1.length uh1.cap) := (hbw.cell (p := ⟨ba, offa + j * 3 + 1, none⟩) hxlt).trans (by simpa using hxc j _ hx 1 _ rfl)
        have gx2 : wr.cell? ⟨ba, offa + j * 3 + 2, none⟩ = some (.int .i64 up1) := (hbw.cell (p := ⟨ba, offa + j * 3 + 2, none⟩) hxlt).trans (by simpa using hxc j _ hx 2 _ rfl)
        clear hx hxc
        have hsz := hbw.size
        go_wp2_with (go_at_fn F; refine (hcall.out _ (Below.refl _ _)).mono ?_; rintro e w1 ⟨rfl, hb1⟩; have B1 := Lib.hid hb1; clear hb1)
        go_roundw
        case rel => exact ⟨j + 1, by omega, by go_num, HR.out, hbw.trans (B1.out.mono hbw.size)⟩
        case measure => simp [intOf]; omega
    · have t1 : decide ((j : Int) < la.length) = false := by simp; omega
      obtain rfl : j = la.length := by omega
      have HZ := Lib.hid (show (-1 : Int) = R by rw [← HS.out, List.drop_length]; rfl)
      go_wp2
      go_ret
      exact ⟨by rw [← HZ.out]; first | done | rfl, hbw⟩

set_option maxRecDepth 100000 in
theorem ofEn1_any (x : En5) (c : Nat) (nm : ByteArray) (w : World) (hc : w.cell? ⟨c, 0, none⟩ = some (.string nm)) :
    Calls Tryz.prog 152 #[enV x, .pointer (some ⟨c, 0, none⟩)] w fun e w' => e = .returned (.bool (nmB x.nm nm)) ∧ Below w.heap.size w w' := by
  obtain ⟨un1, uh1, uf1, up1⟩ := x
  simp only [enV, enC]
  have hlt : c < w.heap.size := World.block_lt_of_cell? w _ hc
  go_enter Tryz.func152, Tryz.ntmps152
  go_wp2
  go_ret
  exact ⟨by simp only [nmB, strq2_eq]; rfl, (Below.refl _ _).alloc (Nat.le_refl _) _⟩
theorem entersEno : ∀ args w, (callFunc 152 args).run Tryz.prog w = .ok (.enter 152 args) w := enters_of Tryz.func152 (by kernel_rfl) rfl
set_option maxRecDepth 100000 in
set_option maxHeartbeats 4000000 in
theorem EnOf_any (n : Nat) (s : So5) (nm : ByteArray) (w : World) (hs : SoH n w s) : Calls Tryz.prog 136 #[soV s, .string nm] w fun e w' => e = .returned (.int .i64 (fiO (fun x => nmB x.nm nm) s.enums 0)) ∧ Below w.heap.size w w' := by
  have hcon := fun W c (hW : Below w.heap.size w W) (hc : W.cell? ⟨c, 0, none⟩ = some (.string nm)) => idxEn_any 152 c entersEno (fun x => nmB x.nm nm) (EnH n) (fun _ _ _ h hb => EnH.below h hb) W (fun x V _ hV => ofEn1_any x c nm V ((hV.cell (p := ⟨c, 0, none⟩) (World.block_lt_of_cell? W _ hc)).trans hc)) s.he s.enums (Row.below hs.2.1 hW fun _ _ h => EnH.below h hW)
  obtain ⟨hs1, ss, he1, es, hf1, fs⟩ := s
  dsimp only at hcon ⊢
  obtain ⟨R, hR⟩ : ∃ R, R = fiO (fun x => nmB x.nm nm) es 0 := ⟨_, rfl⟩
  rw [← hR] at hcon ⊢
  have HC := Lib.hid hcon
  clear hcon hR hs
  simp only [soV]
  go_enter Tryz.func136, Tryz.ntmps136
  go_wp2_with (go_at_call 151; refine (HC.out _ _ (((Below.refl _ _).alloc (Nat.le_refl _) _).alloc (by simp) _) (by simp)).mono ?_; rintro e w1 ⟨rfl, hb1⟩; have B1 := Lib.hid ((((Below.refl w.heap.size w).alloc (Nat.le_refl _) _).alloc (by simp) _).trans (hb1.mono (by simp; omega))); clear hb1)
  go_ret
  exact ⟨rfl, B1.out⟩

set_option maxRecDepth 100000 in
set_option maxHeartbeats 4000000 in
theorem idxFn_any (F : Nat) (c : Nat) (hE : ∀ args w, (callFunc F args).run Tryz.prog w = .ok (.enter F args) w) (g : Fn5 → Bool) (P : World → Fn5 → Prop) (hPb : ∀ w w' x, P w x → Below w.heap.size w w' → P w' x)
    (w : World) (hF : ∀ x W, P W x → Below w.heap.size w W → Calls Tryz.prog F #[fnV x, .pointer (some ⟨c, 0, none⟩)] W fun e w' => e = .returned (.bool (g x)) ∧ Below W.heap.size W w')
    (ha : Hd) (la : List Fn5) (hA : Row w ha 4 la fnC (P w)) :
    Calls Tryz.prog 153 #[.slice ha.oa la.length ha.cap, .func (.func F) #[] #[.pointer (some ⟨c, 0, none⟩)]] w fun e w' => e = .returned (.int .i64 (fiO g la 0)) ∧ Below w.heap.size w w' := by
  obtain ⟨oa, capa⟩ := ha
  obtain ⟨ha1, ha2, ha3, ha4⟩ := hA
  dsimp only at ha1 ha2 ha3 ⊢
  unfold maxLen at ha2
  replace ha3 := Lib.hid ha3
  replace ha4 := Lib.hid ha4
  replace hF := Lib.hid hF
  replace hPb := Lib.hid hPb
  obtain ⟨R, hR⟩ : ∃ R, R = fiO g la 0 := ⟨_, rfl⟩
  rw [← hR]
  replace hR := Lib.hid hR
  go_enter Tryz.func153, Tryz.ntmps153
  go_wp2_with fail
  go_loopw [8] (fun u wr => ∃ j : Nat, j ≤ la.length ∧ u = .int .i64 j ∧ fiO g (la.drop j) j = R ∧ Below w.heap.size w wr) (fun u _ => la.length - (intOf u).toNat)
  case atStart => exact ⟨0, by omega, rfl, by simpa using hR.out.symm, Below.refl _ _⟩
  case round =>
    obtain ⟨j, hj, rfl, hs, hbw⟩ := hrel
    have HS := Lib.hid hs
    clear hs
    by_cases hjl : j < la.length
    · have t1 : decide ((j : Int) < la.length) = true := by simp; omega
      obtain ⟨ba, offa, rfl, hxlt, hxc⟩ := ha3.out (by omega)
      obtain ⟨x, hx⟩ : ∃ x, la[j]? = some x := ⟨_, List.getElem?_eq_getElem hjl⟩
      have hdx : la.drop j = x :: la.drop (j + 1) := by rw [List.drop_eq_getElem_cons hjl]; rw [List.getElem?_eq_getElem hjl] at hx; rw [Option.some.inj hx]
      have HD := Lib.hid (show fiO g (x :: la.drop (j + 1)) j = R by rw [← HS.out, hdx])
      have hpx := hPb.out _ _ _ (ha4.out x (List.mem_of_getElem? hx)) hbw
      have hcall : ∀ W, Below wr.heap.size wr W → Calls Tryz.prog F #[fnV x, .pointer (some ⟨c, 0, none⟩)] W fun e w' => e = .returned (.bool (g x)) ∧ Below W.heap.size W w' := fun W hW => hF.out x W (hPb.out _ _ _ hpx hW) (hbw.trans (hW.mono hbw.size))
      clear hpx hdx
      cases hbv : g x with
      | true =>
        have HR := Lib.hid (show (j : Int) = R by rw [← HD.out, fiO_yes hbv])
        rw [hbv] at hcall
        clear hbv
        obtain ⟨un1, uh1, uf1, ug1, ub1, up1⟩ := x
        simp only [fnV, fnC] at hcall
        replace hcall := Lib.hid hcall
        have gx0 : wr.cell? ⟨ba, offa + j * 4, none⟩ = some (.string un1) := (hbw.cell (p := ⟨ba, offa + j * 4, none⟩) hxlt).trans (by simpa using hxc j _ hx 0 _ rfl)
        have gx1 : wr.cell? ⟨ba, offa + j * 4 + 1, none⟩ = some (.slice uh1.oa uf1.length uh1.cap) := (hbw.cell (p := ⟨ba, offa + j * 4 + 1, none⟩) hxlt).trans (by simpa using hxc j _ hx 1 _ rfl)
        have gx2 : wr.cell? ⟨ba, offa + j * 4 + 2, none⟩ = some (.slice ug1.oa ub1.length ug1.cap) := (hbw.cell (p := ⟨ba, offa + j * 4 + 2, none⟩) hxlt).trans (by simpa using hxc j _ hx 2 _ rfl)
        have gx3 : wr.cell? ⟨ba, offa + j * 4 + 3, none⟩ = some (.int .i64 up1) := (hbw.cell (p := ⟨ba, offa + j * 4 + 3, none⟩) hxlt).trans (by simpa using hxc j _ hx 3 _ rfl)
        clear hx hxc
        have hsz := hbw.size
        go_wp2_with (go_at_fn F; refine (hcall.out _ (Below.refl _ _)).mono ?_; rintro e w1 ⟨rfl, hb1⟩; have B1 := Lib.hid hb1; clear hb1)
        go_ret
        exact ⟨by rw [← HR.out]; rfl, hbw.trans (B1.out.mono hbw.size)⟩
      | false =>
        have HR := Lib.hid (show fiO g (la.drop (j + 1)) (j + 1) = R by rw [← HD.out, fiO_no hbv])
        rw [hbv] at hcall
        clear hbv
        obtain ⟨un1, uh1, uf1, ug1, ub1, up1⟩ := x
        simp only [fnV, fnC] at hcall
        replace hcall := Lib.hid hcall
        have gx0 : wr.cell? ⟨ba, offa + j * 4, none⟩ = some (.string un1) := (hbw.cell (p := ⟨ba, offa + j * 4, none⟩) hxlt).trans (by simpa using hxc j _ hx 0 _ rfl)
        have gx1 : wr.cell? ⟨ba, offa + j * 4 + 1, none⟩ = some (.slice uh1.oa uf1.length uh1.cap) := (hbw.cell (p := ⟨ba, offa + j * 4 + 1, none⟩) hxlt).trans (by simpa using hxc j _ hx 1 _ rfl)
        have gx2 : wr.cell? ⟨ba, offa + j * 4 + 2, none⟩ = some (.slice ug1.oa ub1.length ug1.cap) := (hbw.cell (p := ⟨ba, offa + j * 4 + 2, none⟩) hxlt).trans (by simpa using hxc j _ hx 2 _ rfl)
        have gx3 : wr.cell? ⟨ba, offa + j * 4 + 3, none⟩ = some (.int .i64 up1) := (hbw.cell (p := ⟨ba, offa + j * 4 + 3, none⟩) hxlt).trans (by simpa using hxc j _ hx 3 _ rfl)
        clear hx hxc
        have hsz := hbw.size
        go_wp2_with (go_at_fn F; refine (hcall.out _ (Below.refl _ _)).mono ?_; rintro e w1 ⟨rfl, hb1⟩; have B1 := Lib.hid hb1; clear hb1)
        go_roundw
        case rel => exact ⟨j + 1, by omega, by go_num, HR.out, hbw.trans (B1.out.mono hbw.size)⟩
        case measure => simp [intOf]; omega
    · have t1 : decide ((j : Int) < la.length) = false := by simp; omega
      obtain rfl : j = la.length := by omega
      have HZ := Lib.hid (show (-1 : Int) = R by rw [← HS.out, List.drop_length]; rfl)
      go_wp2
      go_ret
      exact ⟨by rw [← HZ.out]; first | done | rfl, hbw⟩

set_option maxRecDepth 100000 in
theorem ofFn1_any (x : Fn5) (c : Nat) (nm : ByteArray) (w : World) (hc : w.cell? ⟨c, 0, none⟩ = some (.string nm)) :
    Calls Tryz.prog 154 #[fnV x, .pointer (some ⟨c, 0, none⟩)] w fun e w' => e = .returned (.bool (nmB x.nm nm)) ∧ Below w.heap.size w w' := by
  obtain ⟨un1, uh1, uf1, ug1, ub1, up1⟩ := x
  simp only [fnV, fnC]
  have hlt : c < w.heap.size := World.block_lt_of_cell? w _ hc
  go_enter Tryz.func154, Tryz.ntmps154
  go_wp2
  go_ret
  exact ⟨by simp only [nmB, strq2_eq]; rfl, (Below.refl _ _).alloc (Nat.le_refl _) _⟩
theorem entersFno : ∀ args w, (callFunc 154 args).run Tryz.prog w = .ok (.enter 154 args) w := enters_of Tryz.func154 (by kernel_rfl) rfl
set_option maxRecDepth 100000 in
set_option maxHeartbeats 4000000 in
theorem FnOf_any (n : Nat) (s : So5) (nm : ByteArray) (w : World) (hs : SoH n w s) : Calls Tryz.prog 137 #[soV s, .string nm] w fun e w' => e = .returned (.int .i64 (fiO (fun x => nmB x.nm nm) s.fns 0)) ∧ Below w.heap.size w w' := by
  have hcon := fun W c (hW : Below w.heap.size w W) (hc : W.cell? ⟨c, 0, none⟩ = some (.string nm)) => idxFn_any 154 c entersFno (fun x => nmB x.nm nm) (FnH n) (fun _ _ _ h hb => FnH.below h hb) W (fun x V _ hV => ofFn1_any x c nm V ((hV.cell (p := ⟨c, 0, none⟩) (World.block_lt_of_cell? W _ hc)).trans hc)) s.hf s.fns (Row.below hs.2.2 hW fun _ _ h => FnH.below h hW)
  obtain ⟨hs1, ss, he1, es, hf1, fs⟩ := s
  dsimp only at hcon ⊢
  obtain ⟨R, hR⟩ : ∃ R, R = fiO (fun x => nmB x.nm nm) fs 0 := ⟨_, rfl⟩
  rw [← hR] at hcon ⊢
  have HC := Lib.hid hcon
  clear hcon hR hs
  simp only [soV]
  go_enter Tryz.func137, Tryz.ntmps137
  go_wp2_with (go_at_call 153; refine (HC.out _ _ (((Below.refl _ _).alloc (Nat.le_refl _) _).alloc (by simp) _) (by simp)).mono ?_; rintro e w1 ⟨rfl, hb1⟩; have B1 := Lib.hid ((((Below.refl w.heap.size w).alloc (Nat.le_refl _) _).alloc (by simp) _).trans (hb1.mono (by simp; omega))); clear hb1)
  go_ret
  exact ⟨rfl, B1.out⟩

end Go.Proofs.YtghkbihgdabamaaGreatDoor

namespace Go.Proofs.YtghkbihgdabamaaGreatDoor
open Go.RowKit

end Go.Proofs.YtghkbihgdabamaaGreatDoor
