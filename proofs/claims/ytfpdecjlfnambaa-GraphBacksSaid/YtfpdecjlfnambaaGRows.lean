/-
  Graph: rows. Conditions: the flow and its row of what counts lie in the heap.
-/
import Derived.Test.YtfpdecjlfnambaaGMul
namespace Go.Proofs.Ytfpdecjlfnambaa
open Go Go.RowKit Go.Shelf

attribute [local go_sem] Oper.semAt_some

theorem below_cell {w w' : World} (h : Below w.heap.size w w') {a : Addr} {v : Value} (hc : w.cell? a = some v) : w'.cell? a = some v := (h.cell (World.block_lt_of_cell? w a hc)).trans hc
theorem below_froz {w w' : World} (h : Below w.heap.size w w') {a : Addr} {v : Value} (hc : w.cell? a = some v ∧ w.frozen? a = false) : w'.frozen? a = false := (h.frozen (World.block_lt_of_cell? w a hc.1)).trans hc.2
theorem frozA {w : World} {a : Addr} {v : Value} (o : Obj) (hc : w.cell? a = some v) (hf : w.frozen? a = false) : (w.alloc o).cell? a = some v ∧ (w.alloc o).frozen? a = false := by
  have hlt := World.block_lt_of_cell? w a hc
  exact ⟨cellA o hc, (World.frozen?_of_block (Below.heap_alloc w o a.block hlt)).trans hf⟩
theorem Bx.shut {w : World} {b : Nat} {t : TypeId} {l : List Value} {ds : List Nat} (h : Bx w b t l) (hd : ∀ D ∈ ds, ∃ o, w.heap[D]? = some o ∧ o.isCells = false) : Bx (shutAll w ds) b t l := h.of_heap (shutAll_other ds w b (fun hb => by
  obtain ⟨o, h1, h2⟩ := hd b hb
  rw [show w.heap[b]? = _ from h] at h1
  cases h1
  cases h2))
theorem make_rows (n : Nat) (h : n ≤ 1000) (w : World) : (Instr.makeSlice 44 (.int .i64 (n : Int)) (.int .i64 (n : Int))).run Try.prog w = .ok (.slice (some ⟨w.heap.size, 0, none⟩) n n) (w.alloc (.cells (List.replicate n (.slice none 0 0)).toArray 26)) := by
  rw [run_make_row' 44 26 (.slice none 0 0) 24 Try.underlying44 (by kernel_rfl) rfl .i64 .i64 n (by omega) (by omega) w, made_one]

/-- The matrix's rows while k of the blocks that count have theirs. -/
def mK (c : List Bool) (n k : Nat) (R : Nat → Nat) : List Value := (List.range c.length).map fun i => if i ∈ (ones c).take k then .slice (some ⟨R i, 0, none⟩) n n else .slice none 0 0
theorem ones_nodup (c : List Bool) : (ones c).Nodup := List.Nodup.sublist List.filter_sublist List.nodup_range
theorem mem_take_succ {l : List Nat} {k : Nat} (h : k < l.length) (i : Nat) : i ∈ l.take (k + 1) ↔ i ∈ l.take k ∨ i = l[k] := by
  rw [List.take_add_one, List.getElem?_eq_getElem h]
  simp only [Option.toList, List.mem_append, List.mem_singleton]
theorem not_mem_take {l : List Nat} (hn : l.Nodup) {k : Nat} (h : k < l.length) : l[k] ∉ l.take k := fun hm => by
  obtain ⟨j, hj, e⟩ := List.mem_take_iff_getElem.1 hm
  have := (List.getElem_inj hn).1 e
  omega
theorem mK_set {c : List Bool} {n k : Nat} {R : Nat → Nat} (h : k < (ones c).length) (r : Nat) : (mK c n k R).set (ones c)[k] (.slice (some ⟨r, 0, none⟩) n n) = mK c n (k + 1) (fun i => if i = (ones c)[k] then r else R i) := by
  have hnm := not_mem_take (ones_nodup c) h
  apply List.ext_getElem?
  intro i
  rw [List.getElem?_set]
  simp only [mK, List.length_map, List.length_range]
  by_cases hi : i < c.length
  · simp only [List.getElem?_map, List.getElem?_range hi, Option.map_some]
    by_cases e : (ones c)[k] = i
    · subst e
      rw [if_pos rfl, if_pos hi, if_pos ((mem_take_succ h _).2 (.inr rfl))]
      simp
    · rw [if_neg e]
      have e' : ¬ i = (ones c)[k] := fun x => e x.symm
      by_cases hm : i ∈ (ones c).take k
      · rw [if_pos hm, if_pos ((mem_take_succ h _).2 (.inl hm)), if_neg e']
      · rw [if_neg hm, if_neg (fun x => ((mem_take_succ h _).1 x).elim hm e')]
  · have e : ¬ (ones c)[k] = i := fun x => hi (x ▸ (ones_lt (List.getElem_mem h)).1)
    rw [if_neg e]
    simp [hi]
theorem mK_all {c : List Bool} {n : Nat} {R : Nat → Nat} : mK c n (ones c).length R = mC c n R := by
  simp only [mK, mC, List.take_length]
  apply List.map_congr_left
  intro i hi
  rw [List.mem_range] at hi
  have e : i ∈ ones c ↔ c[i]?.getD false = true := by simp [ones, hi]
  by_cases h : c[i]?.getD false = true
  · rw [if_pos (e.2 h), mrow, if_pos h]
  · rw [if_neg (fun x => h (e.1 x)), mrow, if_neg h]
theorem mK_zero {c : List Bool} {n : Nat} {R : Nat → Nat} : mK c n 0 R = List.replicate c.length (.slice none 0 0) := by
  apply List.ext_getElem?
  intro i
  by_cases hi : i < c.length
  · simp [mK, hi]
  · simp [mK, hi]

set_option maxRecDepth 100000 in
set_option maxHeartbeats 4000000 in
theorem rows_any (f m : Nat) (B : Bv) (n : Nat) (back : Bool) (fi no al : Value) (bc capc : Nat) (c : List Bool) (ex : List Value) (flag : Bool) (w : World)
    (hf : Bx w f 79 (flC m B n (.slice (some ⟨bc, 0, none⟩) c.length capc) back fi no al)) (hbc : Bx w bc 4 (bC c ++ ex)) (hcl : c.length = B.g.length) (hn : n ≤ 1000) (hc : c.length ≤ 1000) :
    Calls Try.prog 43 #[.pointer (some ⟨f, 0, none⟩), .bool flag] w fun e w' => ∃ bm R, e = .returned (.slice (some ⟨bm, 0, none⟩) c.length c.length) ∧ w.heap.size ≤ bm ∧ (∀ i ∈ ones c, w.heap.size ≤ R i) ∧
      (∀ i ∈ ones c, ∀ j ∈ ones c, R i = R j → i = j) ∧ Below w.heap.size w w' ∧ Mat w' bm c n R (fun _ => List.replicate n flag) := by
  obtain ⟨L, hL⟩ : ∃ L, L = c.length := ⟨_, rfl⟩
  have hL1 : L ≤ 1000 := by omega
  have c1 := hf.cell 4
  have c2 := hf.cell 5
  simp [flC] at c1 c2
  rw [← hcl, ← hL] at c1
  rw [← hL]
  have hfl := hf.lt
  have hbl := hbc.lt
  have HA := Lib.hid (And.intro hf (And.intro hbc hL))
  have hmk := make_rows L hL1
  clear hf hbc hcl hc hL
  refine calls_of_wp_marks Try.func43 rfl ?_
  simp only [Try.ntmps43, List.size_toArray, List.length_cons, List.length_nil, Nat.reduceAdd, Nat.reduceSub, Array.replicate_succ, Array.replicate_zero, List.push_toArray, List.append_toArray, List.nil_append, List.cons_append]
  go_wp2_with (go_at_call 44; refine (each_any f _).mono ?_; rintro e w' ⟨rfl, rfl⟩)
  obtain ⟨w1, hw1⟩ : ∃ w1, w1 = ((((w.alloc (.cells #[.pointer (some ⟨f, 0, none⟩)] 73)).alloc (.cells #[.bool flag] 4)).alloc (.cells (Array.replicate L (.slice none 0 0)) 26)).alloc (.cells #[.slice (some ⟨w.heap.size + 1 + 1, 0, none⟩) L L] 44)).alloc (.cells #[.pointer (some ⟨f, 0, none⟩)] 73) := ⟨_, rfl⟩
  rw [← hw1]
  obtain ⟨s, hs⟩ : ∃ s, s = w.heap.size := ⟨_, rfl⟩
  obtain ⟨hf, hbc, hL⟩ := HA.out
  have v1 : Bx w1 s 73 [.pointer (some ⟨f, 0, none⟩)] := by
    rw [hw1, hs]
    exact ((((Bx.new w _ [.pointer (some ⟨f, 0, none⟩)]).alloc _).alloc _).alloc _).alloc _
  have v2 : Bx w1 (s + 1) 4 [.bool flag] := by
    rw [hw1, hs]
    have := (((Bx.new (w.alloc (.cells #[.pointer (some ⟨f, 0, none⟩)] 73)) 4 [.bool flag]).alloc (.cells (Array.replicate L (.slice none 0 0)) 26)).alloc (.cells #[.slice (some ⟨w.heap.size + 1 + 1, 0, none⟩) L L] 44)).alloc (.cells #[.pointer (some ⟨f, 0, none⟩)] 73)
    rwa [World.size_alloc] at this
  have v3 : Bx w1 (s + 1 + 1) 26 (List.replicate L (.slice none 0 0)) := by
    rw [hw1, hs, ← List.toArray_replicate]
    have := ((Bx.new ((w.alloc (.cells #[.pointer (some ⟨f, 0, none⟩)] 73)).alloc (.cells #[.bool flag] 4)) 26 (List.replicate L (.slice none 0 0))).alloc (.cells #[.slice (some ⟨w.heap.size + 1 + 1, 0, none⟩) L L] 44)).alloc (.cells #[.pointer (some ⟨f, 0, none⟩)] 73)
    rwa [World.size_alloc, World.size_alloc] at this
  have v4 : Bx w1 (s + 1 + 1 + 1) 44 [.slice (some ⟨s + 1 + 1, 0, none⟩) L L] := by
    rw [hw1, hs]
    have := (Bx.new (((w.alloc (.cells #[.pointer (some ⟨f, 0, none⟩)] 73)).alloc (.cells #[.bool flag] 4)).alloc (.cells (Array.replicate L (.slice none 0 0)) 26)) 44 [.slice (some ⟨w.heap.size + 1 + 1, 0, none⟩) L L]).alloc (.cells #[.pointer (some ⟨f, 0, none⟩)] 73)
    rwa [World.size_alloc, World.size_alloc, World.size_alloc] at this
  have v5 : Bx w1 (s + 1 + 1 + 1 + 1) 73 [.pointer (some ⟨f, 0, none⟩)] := by
    rw [hw1, hs]
    have := Bx.new ((((w.alloc (.cells #[.pointer (some ⟨f, 0, none⟩)] 73)).alloc (.cells #[.bool flag] 4)).alloc (.cells (Array.replicate L (.slice none 0 0)) 26)).alloc (.cells #[.slice (some ⟨w.heap.size + 1 + 1, 0, none⟩) L L] 44)) 73 [.pointer (some ⟨f, 0, none⟩)]
    rwa [World.size_alloc, World.size_alloc, World.size_alloc, World.size_alloc] at this
  have hsz : w1.heap.size = s + 1 + 1 + 1 + 1 + 1 := by rw [hw1, hs]; simp
  have hbel : Below w.heap.size w w1 := by
    rw [hw1]
    exact (((((Below.refl _ w).alloc (Nat.le_refl _) _).alloc (by simp) _).alloc (by simp; omega) _).alloc (by simp; omega) _).alloc (by simp; omega) _
  have hf1 := hf.below hbel hf.lt
  have hbc1 := hbc.below hbel hbc.lt
  have HW := Lib.hid (And.intro v1 (And.intro v2 (And.intro v3 (And.intro v4 (And.intro v5 (And.intro hsz (And.intro hbel (And.intro hf1 (And.intro hbc1 (And.intro hs hL))))))))))
  rw [← hs]
  clear v1 v2 v3 v4 v5 hbel hf1 hbc1 hs hL hf hbc hw1 hmk c1 c2
  refine wp_range (each_giv (s + 1 + 1 + 1 + 1) f bc capc c ex (by have := HA.out.2.2; omega)) rfl (enters_of Try.func59 (by kernel_rfl) rfl) (fun _ => rfl) (fun b => b = s + 1 + 1) (by omega)
    (fun k W => Kep (fun b => b = s + 1 + 1) w1 W ∧ ∃ R : Nat → Nat, (∀ i ∈ (ones c).take k, w1.heap.size ≤ R i ∧ Bx W (R i) 4 (bC (List.replicate n flag))) ∧ (∀ i ∈ (ones c).take k, ∀ j ∈ (ones c).take k, R i = R j → i = j) ∧ Bx W (s + 1 + 1) 26 (mK c n k R))
    ?hI ?hID ?h0 ?hround ?hdone
  case hI =>
    rintro k W r o o' hr ho hoc ⟨h1, R, h2, h3, h4⟩
    exact ⟨h1.put (.inl hr) _, R, fun i hi => ⟨(h2 i hi).1, (h2 i hi).2.put _ ho hoc⟩, h3, h4.put _ ho hoc⟩
  case hID =>
    rintro k W ⟨h1, -⟩
    obtain ⟨v1, v2, v3, v4, v5, hsz, hbel, hf1, hbc1, hs, hL⟩ := HW.out
    exact ⟨v5.kep h1 (by omega), ⟨_, hf1.kep h1 (by omega), rfl⟩, hbc1.kep h1 (by omega)⟩
  case h0 =>
    intro r
    obtain ⟨v1, v2, v3, v4, v5, hsz, hbel, hf1, hbc1, hs, hL⟩ := HW.out
    refine ⟨((Kep.refl _ _).alloc _).alloc _, fun _ => 0, fun i hi => by simp at hi, fun i hi => by simp at hi, ?_⟩
    rw [mK_zero, ← hL]
    exact (v3.alloc _).alloc _
  case hround =>
    rintro k hk W ⟨h1, R, h2, h3, h4⟩ hrec -
    obtain ⟨x, hx⟩ : ∃ x, x = (ones c)[k] := ⟨_, rfl⟩
    rw [← hx]
    have hxL : x < L := by
      have h := (ones_lt (hx ▸ List.getElem_mem hk)).1
      have := HW.out.2.2.2.2.2.2.2.2.2.2
      omega
    have HI := Lib.hid (And.intro h1 (And.intro h2 (And.intro h3 (And.intro h4 (And.intro hrec hx)))))
    clear h1 h2 h3 h4 hrec hx
    gi_wp2
    refine ⟨Kep.refl _ _, fun rr => ?_⟩
    obtain ⟨W2, hW2⟩ : ∃ W2, W2 = W.putObj (w1.heap.size + 1) (.loop rr) := ⟨_, rfl⟩
    rw [← hW2]
    obtain ⟨h1, h2, h3, h4, ⟨r0, hrec⟩, -⟩ := HI.out
    obtain ⟨v1, v2, v3, v4, v5, hsz, hbel, hf1, hbc1, hs, hL⟩ := HW.out
    have h1' : Kep (fun b => b = s + 1 + 1) w1 W2 := by
      rw [hW2]
      exact h1.put (.inl (by omega)) _
    have h2' : ∀ i ∈ (ones c).take k, w1.heap.size ≤ R i ∧ Bx W2 (R i) 4 (bC (List.replicate n flag)) := by
      rw [hW2]
      exact fun i hi => ⟨(h2 i hi).1, (h2 i hi).2.put _ hrec rfl⟩
    have h4' : Bx W2 (s + 1 + 1) 26 (mK c n k R) := by
      rw [hW2]
      exact h4.put _ hrec rfl
    have y1 := (v4.kep h1' (by omega)).cell 0
    have y2 := (v2.kep h1' (by omega)).cell 0
    have y3 := (v1.kep h1' (by omega)).cell 0
    have y4 := (hf1.kep h1' (by omega)).cell 5
    simp [flC] at y1 y2 y3 y4
    have hxm : x < (mK c n k R).length := by simp [mK]; omega
    have x1 := h4'.cell x
    obtain ⟨u, hu⟩ : ∃ u, (mK c n k R)[x]? = some u := ⟨_, List.getElem?_eq_getElem hxm⟩
    rw [hu] at x1
    have HX := Lib.hid (And.intro x1 (h4'.frozen x))
    have HS := Lib.hid (And.intro y1 (And.intro y2 (And.intro y3 y4)))
    have HCALL := Lib.hid (repeat_any W2.drew.heap.size flag n hn (W2.drew.alloc (.cells #[.bool flag] 4)) ((Bx.new W2.drew 4 [.bool flag]).cell 0))
    have HJ := Lib.hid (And.intro h1' (And.intro h2' (And.intro h3 h4')))
    clear h1 h2 h3 h4 hrec v1 v2 v3 v4 v5 hsz hbel hf1 hbc1 hs hL h1' h2' h4' hW2 x1 hxm hu
    gi_wp2
    refine wpIn_region_held_in (S := (fun w' => w'.cell? ⟨s + 1 + 1 + 1, 0, none⟩ = some (.slice (some ⟨s + 1 + 1, 0, none⟩) L L) ∧ w'.cell? ⟨s + 1, 0, none⟩ = some (.bool flag) ∧ w'.cell? ⟨s, 0, none⟩ = some (.pointer (some ⟨f, 0, none⟩)) ∧ w'.cell? ⟨f, 5, none⟩ = some (.int .i64 (n : Int)))) (by kernel_rfl) (by kernel_rfl) (fun ⟨_, _, h⟩ => h) ?_ (fun hHeld => ?_)
    · exact ⟨y1, y2, y3, y4⟩
    clear y1 y2 y3 y4
    refine wpAnyH_take (i := 0) (oi := { dst := some 17, op := Op.load 44 (Operand.tmp 5), type := 44, pos := "flow.go:84", after := #[], guard := none }) (v := ?vq0_1) rfl (by kernel_rfl) (by kernel_rfl) (by kernel_rfl) (fun _ _ _ h => h) (Or.inl ⟨by rfl, ?hq0_1⟩) (by assumption) ?_
    case hq0_1 => intro w hSw; (try dsimp only at hSw); go_simp; try (with_reducible rfl)
    (try simp only [Act.put, List.setIfInBounds_toArray, List.set_cons_zero, List.set_cons_succ])
    refine wpAnyH_take (i := 1) (oi := { dst := some 18, op := Op.move (Operand.tmp 6), type := 3, pos := "flow.go:84", after := #[], guard := none }) (v := ?vq1_2) rfl (by kernel_rfl) (by kernel_rfl) (by kernel_rfl) (fun _ _ _ h => h) (Or.inl ⟨by rfl, ?hq1_2⟩) (by assumption) ?_
    case hq1_2 => intro w hSw; (try dsimp only at hSw); go_simp; try (with_reducible rfl)
    (try simp only [Act.put, List.setIfInBounds_toArray, List.set_cons_zero, List.set_cons_succ])
    refine wpAnyH_take (i := 2) (oi := { dst := some 19, op := Op.load 4 (Operand.tmp 3), type := 4, pos := "flow.go:84", after := #[], guard := none }) (v := ?vq2_3) rfl (by kernel_rfl) (by kernel_rfl) (by kernel_rfl) (fun _ _ _ h => h) (Or.inl ⟨by rfl, ?hq2_3⟩) (by assumption) ?_
    case hq2_3 => intro w hSw; (try dsimp only at hSw); go_simp; try (with_reducible rfl)
    (try simp only [Act.put, List.setIfInBounds_toArray, List.set_cons_zero, List.set_cons_succ])
    refine wpAnyH_take (i := 4) (oi := { dst := some 21, op := Op.load 73 (Operand.tmp 2), type := 73, pos := "flow.go:84", after := #[], guard := none }) (v := ?vq4_4) rfl (by kernel_rfl) (by kernel_rfl) (by kernel_rfl) (fun _ _ _ h => h) (Or.inl ⟨by rfl, ?hq4_4⟩) (by assumption) ?_
    case hq4_4 => intro w hSw; (try dsimp only at hSw); go_simp; try (with_reducible rfl)
    (try simp only [Act.put, List.setIfInBounds_toArray, List.set_cons_zero, List.set_cons_succ])
    refine wpAnyH_take (i := 5) (oi := { dst := some 22, op := Op.nilCheck (Operand.tmp 21), type := 0, pos := "flow.go:84", after := #[{ on := 4, ground := Ground.data }], guard := none }) (v := ?vq5_5) rfl (by kernel_rfl) (by kernel_rfl) (by kernel_rfl) (fun _ _ _ h => h) (Or.inl ⟨by rfl, ?hq5_5⟩) (by assumption) ?_
    case hq5_5 => intro w hSw; (try dsimp only at hSw); go_simp; try (with_reducible rfl)
    (try simp only [Act.put, List.setIfInBounds_toArray, List.set_cons_zero, List.set_cons_succ])
    refine wpAnyH_take (i := 6) (oi := { dst := some 23, op := Op.fieldAddr 79 (Operand.tmp 22) 2, type := 0, pos := "flow.go:84", after := #[{ on := 5, ground := Ground.data }], guard := none }) (v := ?vq6_6) rfl (by kernel_rfl) (by kernel_rfl) (by kernel_rfl) (fun _ _ _ h => h) (Or.inl ⟨by rfl, ?hq6_6⟩) (by assumption) ?_
    case hq6_6 => intro w hSw; (try dsimp only at hSw); go_simp; try (with_reducible rfl)
    (try simp only [Act.put, List.setIfInBounds_toArray, List.set_cons_zero, List.set_cons_succ])
    refine wpAnyH_take (i := 7) (oi := { dst := some 24, op := Op.load 3 (Operand.tmp 23), type := 3, pos := "flow.go:84", after := #[{ on := 6, ground := Ground.data }], guard := none }) (v := ?vq7_7) rfl (by kernel_rfl) (by kernel_rfl) (by kernel_rfl) (fun _ _ _ h => h) (Or.inl ⟨by rfl, ?hq7_7⟩) (by assumption) ?_
    case hq7_7 => intro w hSw; (try dsimp only at hSw); go_simp; try (with_reducible rfl)
    (try simp only [Act.put, List.setIfInBounds_toArray, List.set_cons_zero, List.set_cons_succ])
    refine wpAnyH_ready (rs := [3]) (by kernel_rfl) (by simp) ?_
    refine AllReadyH.cons (o := { dst := some 20, op := Op.buildSlice 26 1 #[(0, Operand.tmp 19)], type := 26, pos := "flow.go:84", after := #[{ on := 2, ground := Ground.data }], guard := none }) rfl (fun K hK => ?_) AllReadyH.nil
    go_simp
    refine hK.out _ _ ?_ (fun hHeld => ?_)
    · exact ⟨cellA _ HS.out.1, cellA _ HS.out.2.1, cellA _ HS.out.2.2.1, cellA _ HS.out.2.2.2⟩
    clear hK K
    (try simp only [Act.put, List.setIfInBounds_toArray, List.set_cons_zero, List.set_cons_succ])
    refine wpAnyH_ready (rs := [8]) (by kernel_rfl) (by simp) ?_
    refine AllReadyH.cons (o := { dst := some 25, op := Op.call { callee := Callee.value (Operand.func 36), args := #[Operand.tmp 20, Operand.tmp 24], argTypes := #[26, 3] }, type := 26, pos := "flow.go:84", after := #[{ on := 3, ground := Ground.data }, { on := 7, ground := Ground.data }], guard := none }) rfl (fun K hK => ?_) AllReadyH.nil
    go_simp
    refine HCALL.out.mono ?_
    rintro e W3 ⟨r, rfl, hr1, hr2, hr3⟩
    have HR := Lib.hid (And.intro hr1 (And.intro hr2 hr3))
    clear hr1 hr2 hr3
    refine hK.out _ _ ?_ (fun hHeld => ?_)
    · obtain ⟨hr1, hr2, hr3⟩ := HR.out
      exact ⟨below_cell hr2 (cellA _ HS.out.1), below_cell hr2 (cellA _ HS.out.2.1), below_cell hr2 (cellA _ HS.out.2.2.1), below_cell hr2 (cellA _ HS.out.2.2.2)⟩
    clear hK K
    (try simp only [Act.put, List.setIfInBounds_toArray, List.set_cons_zero, List.set_cons_succ])
    refine wpAnyH_take (i := 9) (oi := { dst := some 26, op := Op.indexAddr 44 (Operand.tmp 17) (Operand.tmp 18), type := 0, pos := "flow.go:84", after := #[{ on := 0, ground := Ground.data }, { on := 1, ground := Ground.data }, { on := 0, ground := Ground.phase }, { on := 1, ground := Ground.phase }, { on := 2, ground := Ground.phase }, { on := 3, ground := Ground.phase }, { on := 4, ground := Ground.phase }, { on := 5, ground := Ground.phase }, { on := 6, ground := Ground.phase }, { on := 7, ground := Ground.phase }, { on := 8, ground := Ground.phase }], guard := none }) (v := ?vq9_8) rfl (by kernel_rfl) (by kernel_rfl) (by kernel_rfl) (fun _ _ _ h => h) (Or.inl ⟨by rfl, ?hq9_8⟩) (by assumption) ?_
    case hq9_8 => intro w hSw; (try dsimp only at hSw); go_simp; try (with_reducible rfl)
    (try simp only [Act.put, List.setIfInBounds_toArray, List.set_cons_zero, List.set_cons_succ])
    have hcx := below_cell HR.out.2.1 (cellA (.cells #[.bool flag] 4) HX.out.1)
    have hfx := below_froz HR.out.2.1 (frozA (.cells #[.bool flag] 4) HX.out.1 HX.out.2)
    refine wpAnyH_ready (rs := [10]) (by kernel_rfl) (by simp) ?_
    refine AllReadyH.cons (o := { dst := none, op := Op.store 26 (Operand.tmp 26) (Operand.tmp 25), type := 0, pos := "flow.go:84", after := #[{ on := 9, ground := Ground.data }, { on := 8, ground := Ground.data }, { on := 8, ground := Ground.chain }, { on := 0, ground := Ground.phase }, { on := 1, ground := Ground.phase }, { on := 2, ground := Ground.phase }, { on := 3, ground := Ground.phase }, { on := 4, ground := Ground.phase }, { on := 5, ground := Ground.phase }, { on := 6, ground := Ground.phase }, { on := 7, ground := Ground.phase }, { on := 8, ground := Ground.phase }], guard := none }) rfl (fun K hK => ?_) AllReadyH.nil
    go_simp
    refine hK.out _ _ ?_ (fun hHeld => ?_)
    · obtain ⟨hr1, hr2, hr3⟩ := HR.out
      have hs := HW.out.2.2.2.2.2.2.2.2.2.1
      exact ⟨(World.cell?_setCell_far _ _ _ _ (show (s + 1 + 1 : Nat) ≠ s + 1 + 1 + 1 by omega)).trans (below_cell hr2 (cellA _ HS.out.1)), (World.cell?_setCell_far _ _ _ _ (show (s + 1 + 1 : Nat) ≠ s + 1 by omega)).trans (below_cell hr2 (cellA _ HS.out.2.1)), (World.cell?_setCell_far _ _ _ _ (show (s + 1 + 1 : Nat) ≠ s by omega)).trans (below_cell hr2 (cellA _ HS.out.2.2.1)), (World.cell?_setCell_far _ _ _ _ (show (s + 1 + 1 : Nat) ≠ f by omega)).trans (below_cell hr2 (cellA _ HS.out.2.2.2))⟩
    clear hK K
    (try simp only [Act.put, List.setIfInBounds_toArray, List.set_cons_zero, List.set_cons_succ])
    refine wpAnyH_done (by kernel_rfl) ?_ _
    simp +zetaDelta only [Exit.inBlock, RoundQ]
    obtain ⟨h1', h2', h3, h4'⟩ := HJ.out
    obtain ⟨hr1, hr2, hr3⟩ := HR.out
    have hx := HI.out.2.2.2.2.2
    have hsz := HW.out.2.2.2.2.2.1
    have hkk : Kep (fun _ => False) W2 W3 := Kep.of_below ((Below.refl _ W2).drew.alloc (Nat.le_refl _) _ |>.trans (hr2.mono (by simp)))
    have hkw : Kep (fun b => b = s + 1 + 1) W2 (W3.setCell ⟨s + 1 + 1, x, none⟩ (.slice (some ⟨r, 0, none⟩) n n)) := Kep.setCell (M := fun b => b = s + 1 + 1) (p := ⟨s + 1 + 1, x, none⟩) (hkk.mono (fun _ _ h => h.elim)) (.inr rfl) _
    have hrW : W2.heap.size < r := Nat.lt_of_lt_of_le (by simp) hr1
    have hW2 := h1'.size
    refine ⟨hkw, h1'.trans hkw, fun i => if i = x then r else R i, fun i hi => ?_, fun i hi j hj e => ?_, ?_⟩
    · rcases (mem_take_succ hk i).1 hi with h | h
      · have hne : i ≠ x := fun e => not_mem_take (ones_nodup c) hk (by rw [← hx, ← e]; exact h)
        simp only [if_neg hne]
        obtain ⟨q1, q2⟩ := h2' i h
        exact ⟨q1, q2.kep hkw (fun e => bx_ne q2 h4' (by decide) e)⟩
      · have he : i = x := h.trans hx.symm
        simp only [if_pos he]
        exact ⟨by omega, hr3.far (by show s + 1 + 1 ≠ r; omega) _⟩
    · have hb : ∀ i ∈ (ones c).take k, R i < W2.heap.size := fun i hi => (h2' i hi).2.lt
      have hc : ∀ i, i ∈ (ones c).take (k + 1) → (i = x ∨ i ∈ (ones c).take k ∧ i ≠ x) := fun i hi => by
        rcases (mem_take_succ hk i).1 hi with h | h
        · exact .inr ⟨h, fun e => not_mem_take (ones_nodup c) hk (by rw [← hx, ← e]; exact h)⟩
        · exact .inl (h.trans hx.symm)
      rcases hc i hi with h | ⟨h, hn1⟩
      · rcases hc j hj with h' | ⟨h', hn2⟩
        · rw [h, h']
        · simp only [if_pos h, if_neg hn2] at e
          have := hb j h'
          omega
      · rcases hc j hj with h' | ⟨h', hn2⟩
        · simp only [if_neg hn1, if_pos h'] at e
          have := hb i h
          omega
        · simp only [if_neg hn1, if_neg hn2] at e
          exact h3 i h j h' e
    · have h5 := (h4'.kep hkk (fun h => h)).set x (.slice (some ⟨r, 0, none⟩) n n)
      have h6 := mK_set (n := n) (R := R) hk r
      rw [← hx] at h6
      rw [h6] at h5
      exact h5
  case hdone =>
    rintro W ⟨h1, R, h2, h3, h4⟩ hD
    obtain ⟨v1, v2, v3, v4, v5, hsz, hbel, hf1, hbc1, hs, hL⟩ := HW.out
    have y1 := (v4.kep h1 (by omega)).cell 0
    simp at y1
    have HI := Lib.hid (And.intro h1 (And.intro h2 (And.intro h3 (And.intro h4 hD))))
    clear h1 h2 h3 h4 hD v1 v2 v3 v4 v5 hsz hbel hf1 hbc1 hs hL
    go_wp2
    refine leaves_marks [w1.heap.size] W (by simp) (fun D hD => by
      rw [List.mem_singleton] at hD
      subst hD
      exact HI.out.2.2.2.2) ⟨_, results_tmp rfl _ _ _, ?_⟩
    obtain ⟨h1, h2, h3, h4, hD⟩ := HI.out
    obtain ⟨v1, v2, v3, v4, v5, hsz, hbel, hf1, hbc1, hs, hL⟩ := HW.out
    have hds : ∀ D ∈ [w1.heap.size], ∃ o, W.heap[D]? = some o ∧ o.isCells = false := fun D hD' => by
      rw [List.mem_singleton] at hD'
      subst hD'
      exact ⟨_, hD, rfl⟩
    rw [List.take_length] at h2 h3
    rw [mK_all] at h4
    refine ⟨s + 1 + 1, R, rfl, by omega, fun i hi => by have := (h2 i hi).1; omega, h3, ?_, h4.shut hds, fun i hi => ⟨by simp, (h2 i hi).2.shut hds⟩⟩
    exact (hbel.trans (h1.to_below (by omega) (fun q hq h => by omega))).trans (shutAll_below _ _ (fun D hD => by
      rw [List.mem_singleton] at hD
      omega))
end Go.Proofs.Ytfpdecjlfnambaa
