/-
  The walks of (*mem.Memory).Alloc. Conditions: the memory lies in the heap.
-/
import Derived.Test.YtbcockaleegicaaOps
namespace Go.Proofs.Ytbcockaleegicaa
open Go.RowKit

theorem quiet_box_below {w : World} {o : Obj} {q : Nat} : Below w.heap.size w ((w.alloc o).drewN q) := below_drewN ((Below.refl _ _).alloc (Nat.le_refl _) _) _

set_option maxHeartbeats 400000 in
theorem alloc_neg (mb : Nat) (n : Int) (w : World) (hn : n < 0) :
    Calls Try.prog 15 #[.pointer (some ⟨mb, 0, none⟩), .int .i64 n] w fun e w' => e = .returned (.tuple #[.agg #[.bool false, .int .i64 0, .int .i64 0], .int .i64 1]) ∧ Below w.heap.size w w' := by
  have hd : decide (n < 0) = true := by simpa using hn
  go_enter Try.func15, Try.ntmps15
  go_wp2
  go_returns
  exact ⟨rfl, by go_grown⟩

theorem info69 : (Try.prog.info? 69).map (fun i => (i.zero, i.size, i.bytes)) = some (some (.agg #[.bool false, .int .i64 0, .int .i64 0, .bool false]), 4, 32) := by kernel_rfl

theorem zeros_eq (n : Nat) : madeCells #[.bool false, .int .i64 0, .int .i64 0, .bool false] (n * 4) = (rowv (List.replicate n none)).toArray := by
  apply Array.ext_getElem?
  intro i
  by_cases hi : i < n * 4
  · have h := rowv_get (List.replicate n none) (i / 4) (i % 4) none (by rw [List.getElem?_replicate, if_pos (by omega)]) (Nat.mod_lt _ (by omega))
    rw [show 4 * (i / 4) + i % 4 = i from Nat.div_add_mod i 4] at h
    simp only [List.getElem?_toArray, h]
    simp only [madeCells, Array.getElem?_map, Array.getElem?_range, hi, if_true, Option.map_some]
    have h4 : i % 4 < 4 := Nat.mod_lt _ (by omega)
    show some (#[Value.bool false, .int .i64 0, .int .i64 0, .bool false][i % 4]!) = _
    generalize i % 4 = r at h4 ⊢
    match r, h4 with
    | 0, _ => rfl
    | 1, _ => rfl
    | 2, _ => rfl
    | 3, _ => rfl
  · rw [Array.getElem?_eq_none (by rw [size_madeCells]; omega), Array.getElem?_eq_none (by simp [rowv_length]; omega)]

theorem make_cells (w : World) (n : Nat) (hn : n ≤ 1048576) :
    (Instr.makeSlice 64 (.int .i64 n) (.int .i64 n)).run Try.prog w = .ok (.slice (some ⟨w.heap.size, 0, none⟩) n n) (w.alloc (.cells (rowv (List.replicate n none)).toArray 69)) := by
  obtain ⟨i, hi, hz, hs, hb⟩ := info_parts info69
  have h := run_make (P := Try.prog) w 64 69 i _ Try.underlying64 hi hz .i64 .i64 n n (by omega) (by omega) (by rw [hb]; omega) (by omega)
  rw [hs] at h
  simpa [zeros_eq, Value.cells] using h

theorem heap_setCell_same {w : World} {b : Nat} {c : Array Value} {t : TypeId} {f : Nat × Nat} (h : w.heap[b]? = some (.cells c t f)) (j : Nat) (v : Value) : (w.setCell ⟨b, j, none⟩ v).heap[b]? = some (.cells (c.setIfInBounds j v) t f) := by
  simp [World.setCell, Array.getElem?_modify, h]

/-- ahead of the map's turn: the counts are set, the result's room is laid -/
structure Half (w W : World) (mb : Nat) (r q m : Int) (lm : Option Nat) : Prop where
  os : W.os = w.os
  tape : W.tape = w.tape
  output : W.output = w.output
  size : w.heap.size < W.heap.size
  obj : W.heap[mb]? = some (memObj r q m lm)
  res : W.heap[w.heap.size]? = some (.cells #[.bool false, .int .i64 0, .int .i64 0] 30)
  block : ∀ b, b < w.heap.size → b ≠ mb → W.heap[b]? = w.heap[b]?

theorem half_some {w : World} {mb : Nat} {r q m : Int} {lm : Option Nat} (h : w.heap[mb]? = some (memObj r q m lm)) (nq : Nat) (q' m' : Int) :
    Half w ((((w.alloc (Obj.cells #[Value.bool false, Value.int IntKind.i64 0, Value.int IntKind.i64 0] 30)).drewN nq).setCell { block := mb, off := 2 } (Value.int IntKind.i64 m')).setCell { block := mb, off := 1 } (Value.int IntKind.i64 q')) mb r q' m' lm := by
  have hlt : mb < w.heap.size := (Array.getElem?_eq_some_iff.1 h).1
  have h1 : ((w.alloc (Obj.cells #[Value.bool false, Value.int IntKind.i64 0, Value.int IntKind.i64 0] 30)).drewN nq).heap[mb]? = some (memObj r q m lm) := (Below.heap_alloc w _ _ hlt).trans h
  have h2 := heap_setCell_same (heap_setCell_same h1 2 (.int .i64 m')) 1 (.int .i64 q')
  have hres : ((w.alloc (Obj.cells #[Value.bool false, Value.int IntKind.i64 0, Value.int IntKind.i64 0] 30)).drewN nq).heap[w.heap.size]? = some (.cells #[.bool false, .int .i64 0, .int .i64 0] 30) := heap_alloc_new w _
  refine ⟨rfl, rfl, rfl, ?_, h2, ?_, ?_⟩
  · simp [World.setCell, World.drewN]
  · rw [Below.heap_setCell _ _ _ _ (by simp; omega), Below.heap_setCell _ _ _ _ (by simp; omega)]
    exact hres
  · intro b hb hne
    rw [Below.heap_setCell _ _ _ _ (by simpa using hne), Below.heap_setCell _ _ _ _ (by simpa using hne)]
    exact Below.heap_alloc w _ _ hb

theorem Half.cell {w W : World} {mb : Nat} {r q m : Int} {lm : Option Nat} (h : Half w W mb r q m lm) (j : Nat) (v : Value) (hv : #[Value.bool false, .int .i64 0, .int .i64 0][j]? = some v) : W.cell? ⟨w.heap.size, j, none⟩ = some v := by
  simp only [World.cell?, h.res]
  simpa using hv

def MS.push (S : MS) (n : Nat) : MS := ⟨S.room, S.blocks ++ [some (List.replicate n none)]⟩
theorem words_push (S : MS) (n : Nat) : (S.push n).words = S.words + n := by simp [MS.words, MS.push, szO]
theorem live_push (S : MS) (n : Nat) : (S.push n).live = S.live + 1 := by simp [MS.live, MS.push]
theorem at_push (S : MS) (n k : Nat) : (S.push n).at k = if k = S.blocks.length then some (List.replicate n none) else S.at k := by
  unfold MS.at MS.push
  by_cases h : k < S.blocks.length
  · rw [List.getElem?_append_left h, if_neg (by omega)]
  · by_cases h2 : k = S.blocks.length
    · subst h2; simp
    · rw [if_neg h2, List.getElem?_eq_none (by simp; omega), List.getElem?_eq_none (by omega)]
theorem at_none {S : MS} {k : Nat} (h : S.blocks.length ≤ k) : S.at k = none := by
  unfold MS.at
  rw [List.getElem?_eq_none h]
  rfl

/-- what a call that writes leaves: a memory that is S', in its own blocks and new ones -/
def Turned (w w' : World) (mb : Nat) (lm : Option Nat) (loc : Nat → Nat) (S S' : MS) : Prop :=
  ∃ lm' loc', RepAt w' mb lm' loc' S' ∧ (∀ b, Owned mb lm' loc' S' b → Owned mb lm loc S b ∨ w.heap.size ≤ b) ∧ Kept (Owned mb lm loc S) w w'

theorem RepAt.loc_ne {w : World} {mb : Nat} {lm : Option Nat} {loc : Nat → Nat} {S : MS} (R : RepAt w mb lm loc S) {k : Nat} {l : List Cl} (h : S.at k = some l) : loc k ≠ mb ∧ lm ≠ some (loc k) := by
  have h1 := R.blk k l h
  refine ⟨fun e => ?_, fun e => ?_⟩
  · rw [e, R.obj] at h1
    simp [memObj] at h1
  · obtain ⟨D, ⟨es, clock, hb, _⟩, _⟩ := R.map _ e
    rw [h1] at hb
    cases hb

theorem alloc_rep {w W9 W10 W11 : World} {mb lb : Nat} {lm : Option Nat} {loc : Nat → Nat} {S : MS} {n : Nat} {D : DataW Unit} (R : RepAt w mb lm loc S) (hn : (n : Int) ≤ S.room - S.words) (hmade : S.blocks.length + 1 < 1000)
    (hlm : lm = some lb ∨ lm = none ∧ w.heap.size < lb)
    (hh : Half w W9 mb S.room (S.words + n) (S.blocks.length + 1) (some lb)) (hM : MapIs S loc D) (hD : Maps.Tidy D) (hlb : lb < W9.heap.size) (hlb2 : lb ≠ mb) (hlb3 : lb ≠ w.heap.size)
    (hD10 : W10.ownsMap Try.prog 3 locElem lb (S.blocks.length + 1) (D.put (key S.blocks.length) (locd W9.heap.size n)))
    (hg : (W9.alloc (.cells (rowv (List.replicate n none)).toArray 69)).drew.grownBy W10 (some lb))
    (hk : Below w.heap.size W10 W11) (hk2 : ∀ b, b ≠ w.heap.size → W11.heap[b]? = W10.heap[b]?) : Turned w W11 mb lm loc S (S.push n) := by
  have hmb := R.lt mb (.inl rfl)
  have hsz := hh.size
  have hs10 : W9.heap.size + 1 ≤ W10.heap.size := by have := hg.size; simpa using this
  have old : ∀ b, b < W9.heap.size → b ≠ lb → b ≠ w.heap.size → W11.heap[b]? = W9.heap[b]? := fun b hb hne hnr =>
    (hk2 b hnr).trans ((hg.block b (by show b < (W9.alloc _).heap.size; simp; omega) (by simpa using hne)).trans (Below.heap_alloc W9 _ b hb))
  have hnew : W11.heap[W9.heap.size]? = some (.cells (rowv (List.replicate n none)).toArray 69) := by
    refine (hk2 _ (by omega)).trans ((hg.block _ (by show W9.heap.size < (W9.alloc _).heap.size; simp) (by simp; omega)).trans ?_)
    exact heap_alloc_new W9 _
  have hloc : ∀ k l, S.at k = some l → loc k < w.heap.size ∧ loc k ≠ mb ∧ loc k ≠ lb := fun k l h => by
    refine ⟨R.lt _ (.inr (.inr ⟨k, l, h, rfl⟩)), (R.loc_ne h).1, fun e => ?_⟩
    rcases hlm with h1 | ⟨_, h1⟩
    · exact (R.loc_ne h).2 (by rw [h1, e])
    · have := R.lt _ (.inr (.inr ⟨k, l, h, rfl⟩))
      omega
  refine ⟨some lb, fun k => if k = S.blocks.length then W9.heap.size else loc k, ⟨?_, R.room0, R.room1, ?_, ?_, by simp, ?_, ?_, ?_⟩, ?_, ?_⟩
  · rw [old mb (by omega) hlb2.symm (by omega), hh.obj, words_push]
    simp [MS.push]
  · rw [words_push]
    show ((S.words + n : Nat) : Int) ≤ S.room
    omega
  · simpa [MS.push] using hmade
  · intro lb' e
    cases e
    refine ⟨D.put (key S.blocks.length) (locd W9.heap.size n), ?_, ?_⟩
    · obtain ⟨es, clock, hb, r⟩ := hD10
      have : (S.push n).blocks.length = S.blocks.length + 1 := by simp [MS.push]
      rw [this]
      exact ⟨es, clock, (hk2 lb hlb3).trans hb, r⟩
    · refine ⟨?_, ?_, ?_⟩
      · rw [live_push, Maps.size_put hD, hM.none _ (at_none (Nat.le_refl _)), hM.size]
        rfl
      · intro k l hl
        rw [at_push] at hl
        split at hl
        · rename_i hk'
          subst hk'
          cases hl
          simp only [if_pos, List.length_replicate]
          exact ⟨Maps.has_put_same hD.isMap (key_lit _) _, fun z => Maps.atKey_put_same hD.isMap (key_lit _) _ _⟩
        · rename_i hk'
          simp only [if_neg hk']
          rw [Maps.has_put_other (key_ne hk')]
          exact ⟨(hM.some k l hl).1, fun z => (Maps.atKey_put_other (key_ne hk') _ _).trans ((hM.some k l hl).2 z)⟩
      · intro k hl
        rw [at_push] at hl
        split at hl
        · cases hl
        · rename_i hk'
          rw [Maps.has_put_other (key_ne hk')]
          exact hM.none k hl
  · intro k l hl
    rw [at_push] at hl
    split at hl
    · rename_i hk'
      cases hl
      simp only [if_pos hk']
      exact hnew
    · rename_i hk'
      simp only [if_neg hk']
      obtain ⟨h1, h2, h3⟩ := hloc k l hl
      rw [old _ (by omega) h3 (by omega), hh.block _ h1 h2]
      exact R.blk k l hl
  · intro j k l l' hj hk' e
    rw [at_push] at hj hk'
    split at hj <;> split at hk'
    · omega
    · rename_i h1 h2
      rw [if_pos h1, if_neg h2] at e
      have := (hloc k _ hk').1
      omega
    · rename_i h1 h2
      rw [if_neg h1, if_pos h2] at e
      have := (hloc j _ hj).1
      omega
    · rename_i h1 h2
      rw [if_neg h1, if_neg h2] at e
      exact R.inj j k l l' hj hk' e
  · rintro b (rfl | hb | ⟨k, l, hl, rfl⟩)
    · exact .inl (.inl rfl)
    · cases hb
      rcases hlm with h1 | ⟨_, h1⟩
      · exact .inl (.inr (.inl h1))
      · exact .inr (by omega)
    · rw [at_push] at hl
      split at hl
      · rename_i hk'
        right
        simp only [if_pos hk']
        omega
      · rename_i hk'
        left
        simp only [if_neg hk']
        exact .inr (.inr ⟨k, l, hl, rfl⟩)
  · refine ⟨hk.os.trans (hg.os.trans hh.os), hk.tape.trans (hg.tape.trans hh.tape), hk.output.trans (hg.output.trans hh.output), by have := hk.size; omega, fun b hb ho => ?_⟩
    have h1 : b ≠ mb := fun e => ho (.inl e)
    have h2 : b ≠ lb := fun e => by
      rcases hlm with h1 | ⟨_, h1⟩
      · exact ho (.inr (.inl (by rw [h1, e])))
      · omega
    rw [old b (by omega) h2 (by omega), hh.block b hb h1]

section
variable {w : World} {mb : Nat} {lm : Option Nat} {loc : Nat → Nat} {S : MS}

set_option maxHeartbeats 400000 in
theorem alloc_room (R : RepAt w mb lm loc S) (n : Int) (h0 : 0 ≤ n) (hn : S.room - S.words < n) :
    Calls Try.prog 15 #[.pointer (some ⟨mb, 0, none⟩), .int .i64 n] w fun e w' => e = .returned (.tuple #[.agg #[.bool false, .int .i64 0, .int .i64 0], .int .i64 10]) ∧ Below w.heap.size w w' := by
  obtain ⟨c0, c1, c2, c3⟩ := obj_cells R.obj
  have hmb := R.lt mb (.inl rfl)
  have b1 := R.room0
  have b2 := R.room1
  have b3 := R.words
  have hd : decide (n < 0) = false := by simpa using h0
  have hd2 : decide (S.room - S.words < n) = true := by simpa using hn
  go_enter Try.func15, Try.ntmps15
  go_wp2
  go_quiet (fail)
  go_wp2
  go_returns
  exact ⟨rfl, (((below_box _ _ _ _).setCell (Nat.le_refl _) _).setCell (Nat.le_refl _) _).setCell (Nat.le_refl _) _⟩

set_option maxHeartbeats 400000 in
theorem alloc_some {lb : Nat} (R : RepAt w mb (some lb) loc S) (n : Nat) (hn : (n : Int) ≤ S.room - S.words) (hmade : S.blocks.length + 1 < 1000) :
    Calls Try.prog 15 #[.pointer (some ⟨mb, 0, none⟩), .int .i64 n] w fun e w' => e = .returned (.tuple #[.agg #[.bool true, .int .i64 ((S.blocks.length : Int) + 1), .int .i64 0], .int .i64 0]) ∧ Turned w w' mb (some lb) loc S (S.push n) := by
  obtain ⟨c0, c1, c2, c3⟩ := obj_cells R.obj
  have hmb := R.lt mb (.inl rfl)
  have b1 := R.room0
  have b2 := R.room1
  have b3 := R.words
  have b4 := R.made
  have hd : decide ((n : Int) < 0) = false := by simp
  have hd2 : decide (S.room - S.words < n) = false := by simpa using hn
  have hf : ∀ j, w.frozen? ⟨mb, j, none⟩ = false := fun j => by simp [World.frozen?, R.obj, memObj]
  have heq := fun (w : World) (r : Option Nat) => run_eql_map_nil (P := Try.prog) w 61 3 64 r Try.underlying61
  have HO := Lib.hid R.obj
  obtain ⟨D, hD, hM⟩ := R.map lb rfl
  have hlt := hD.lt
  have hne : lb ≠ mb := by
    rintro rfl
    obtain ⟨es, clock, hb, _⟩ := hD
    rw [R.obj] at hb
    cases hb
  go_enter Try.func15, Try.ntmps15
  go_wp2
  go_quiet (fail)
  go_wp2
  have hh := half_some HO.out nq (S.words + n) (S.blocks.length + 1)
  generalize hW9 : (((w.alloc (Obj.cells #[Value.bool false, Value.int IntKind.i64 0, Value.int IntKind.i64 0] 30)).drewN nq).setCell { block := mb, off := 2 } (Value.int IntKind.i64 ((S.blocks.length : Int) + 1))).setCell { block := mb, off := 1 } (Value.int IntKind.i64 ((S.words : Int) + n)) = W9 at hh ⊢
  clear hW9
  have hmk := fun w => make_cells w n (by omega)
  obtain ⟨d0, d1, d2, d3⟩ := obj_cells hh.obj
  have hD9 : W9.ownsMap Try.prog 3 locElem lb S.blocks.length D := by
    obtain ⟨es, clock, hb, r⟩ := hD
    exact ⟨es, clock, (hh.block _ hlt hne).trans hb, r⟩
  have hsz := hh.size
  have hmb9 : mb < W9.heap.size := by omega
  obtain ⟨W10, hupd, hD10, hturn⟩ := ((hD9.alloc (.cells (rowv (List.replicate n none)).toArray 69)).drew).store keyLaw Try.underlying61 (by unfold maxLen; omega) (keyOf_key (by omega : S.blocks.length < 1000000)) (locElem_mk W9.heap.size n)
  have hg := hturn.grown
  have hs10 := hg.size
  have e2 : W10.cell? ⟨mb, 2, none⟩ = some (.int .i64 ((S.blocks.length : Int) + 1)) := hg.cell (show (W9.alloc _).cell? _ = _ from (World.cell?_of_block (Below.heap_alloc W9 _ mb hmb9)).trans d2) (by simpa using hne.symm)
  clear c0 c1 c2 c3 d0 d1 hf
  have h10 : ∀ b, b < W9.heap.size → b ≠ lb → W10.heap[b]? = W9.heap[b]? := fun b hb hne => (hg.block b (by show b < (W9.alloc _).heap.size; simp; omega) (by simpa using hne)).trans (Below.heap_alloc W9 _ b hb)
  have hres := (h10 _ hsz (by omega)).trans hh.res
  have r0 : W10.cell? ⟨w.heap.size, 0, none⟩ = some (.bool false) := by simp [World.cell?, hres]
  have r1 : W10.cell? ⟨w.heap.size, 1, none⟩ = some (.int .i64 0) := by simp [World.cell?, hres]
  have r2 : W10.cell? ⟨w.heap.size, 2, none⟩ = some (.int .i64 0) := by simp [World.cell?, hres]
  have f0 : W10.frozen? ⟨w.heap.size, 0, none⟩ = false := by simp [World.frozen?, hres]
  have f1 : W10.frozen? ⟨w.heap.size, 1, none⟩ = false := by simp [World.frozen?, hres]
  have f2 : W10.frozen? ⟨w.heap.size, 2, none⟩ = false := by simp [World.frozen?, hres]
  have HR := Lib.hid hres
  clear h10 hres hs10 heq
  go_region
  go_wp2
  refine bodyPost_ret (v := .tuple #[.agg #[.bool true, .int .i64 ((S.blocks.length : Int) + 1), .int .i64 0], .int .i64 0]) (by simp [results, Try.results15, go_sem, r0, r1, r2]) rfl ⟨rfl, ?_⟩
  refine alloc_rep R hn hmade (.inl rfl) hh hM (hD.tidy keyLaw) (by omega) hne (by omega) hD10 hg ((((Below.refl w.heap.size W10).setCell (Nat.le_refl w.heap.size) _).setCell (Nat.le_refl w.heap.size) _).setCell (Nat.le_refl w.heap.size) _) fun b hb => ?_
  rw [Below.heap_setCell _ _ _ _ hb, Below.heap_setCell _ _ _ _ hb, Below.heap_setCell _ _ _ _ hb]
end
end Go.Proofs.Ytbcockaleegicaa
