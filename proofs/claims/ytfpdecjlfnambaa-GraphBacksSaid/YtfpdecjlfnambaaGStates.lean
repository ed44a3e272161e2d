/-
  Graph: states. Conditions: the flow, its rows, and the body lie in the heap.
-/
import Derived.Test.YtfpdecjlfnambaaGStateP
namespace Go.Proofs.Ytfpdecjlfnambaa
open Go Go.RowKit Go.Shelf

attribute [local go_sem] Oper.semAt_some

set_option maxRecDepth 100000 in
set_option maxHeartbeats 8000000 in
theorem states_any (n0 : Nat) (B : Bv) (f m base bf : Nat) (l : KL) (rv : Key3 → Value) (n : Nat) (C : List Chg) (bc capc : Nat) (c : List Bool) (ex : List Value) (back : Bool) (no al : Value) (R : Nat → Nat) (F : Nat → List Bool) (w : World)
    (hB : B.At n0 w) (hs : B.Small) (hcs : CSmall C) (hf : Bx w f 79 (flC m B n (.slice (some ⟨bc, 0, none⟩) c.length capc) back (.slice (some ⟨bf, 0, none⟩) c.length c.length) no al)) (hch : ChAt w base m (rlF B.g n C) l rv) (hm : Mat w bf c n R F) (hbc : Bx w bc 4 (bC c ++ ex)) (hcl : c.length = B.g.length) (hn : n ≤ 1000) (hn0 : n0 ≤ w.heap.size) :
    Calls Try.prog 32 #[.pointer (some ⟨f, 0, none⟩)] w fun e w' => ∃ bl, e = .returned (.slice (some ⟨bl, 0, none⟩) c.length c.length) ∧ Below w.heap.size w w' ∧ StK w' bl c (ones c).length (fun i => stO B.g n C back i (F i)) := by
  have hc1k : c.length ≤ 1000 := by rw [hcl]; exact hs.1
  have c1 := hf.cell 4
  simp [flC] at c1
  rw [← hcl] at c1
  have hfl := hf.lt
  have hbl := hbc.lt
  have HA := Lib.hid (And.intro hB (And.intro hs (And.intro hcs (And.intro hf (And.intro hch (And.intro hm (And.intro hbc (And.intro hcl hn0))))))))
  have hmk := make_rows3 c.length hc1k
  clear hB hs hcs hf hch hm hbc hcl hn0
  refine calls_of_wp_marks Try.func32 rfl ?_
  simp only [Try.ntmps32, List.size_toArray, List.length_cons, List.length_nil, Nat.reduceAdd, Nat.reduceSub, Array.replicate_succ, Array.replicate_zero, List.push_toArray, List.append_toArray, List.nil_append, List.cons_append]
  go_wp2_with (go_at_call 44; refine (each_any f _).mono ?_; rintro e w' ⟨rfl, rfl⟩)
  obtain ⟨w1, hw1⟩ : ∃ w1, w1 = (((w.alloc (.cells #[.pointer (some ⟨f, 0, none⟩)] 73)).alloc (.cells (Array.replicate c.length (.slice none 0 0)) 44)).alloc (.cells #[.slice (some ⟨w.heap.size + 1, 0, none⟩) c.length c.length] 31)).alloc (.cells #[.pointer (some ⟨f, 0, none⟩)] 73) := ⟨_, rfl⟩
  rw [← hw1]
  obtain ⟨s, hs'⟩ : ∃ s, s = w.heap.size := ⟨_, rfl⟩
  obtain ⟨hB, hs, hcs, hf, hch, hm, hbc, hcl, hn0⟩ := HA.out
  have v1 : Bx w1 s 73 [.pointer (some ⟨f, 0, none⟩)] := by
    rw [hw1, hs']
    exact (((Bx.new w _ [.pointer (some ⟨f, 0, none⟩)]).alloc _).alloc _).alloc _
  have v2 : Bx w1 (s + 1) 44 (List.replicate c.length (.slice none 0 0)) := by
    rw [hw1, hs', ← List.toArray_replicate]
    have := ((Bx.new (w.alloc (.cells #[.pointer (some ⟨f, 0, none⟩)] 73)) 44 (List.replicate c.length (.slice none 0 0))).alloc (.cells #[.slice (some ⟨w.heap.size + 1, 0, none⟩) c.length c.length] 31)).alloc (.cells #[.pointer (some ⟨f, 0, none⟩)] 73)
    rwa [World.size_alloc] at this
  have v3 : Bx w1 (s + 1 + 1) 31 [.slice (some ⟨s + 1, 0, none⟩) c.length c.length] := by
    rw [hw1, hs']
    have := (Bx.new ((w.alloc (.cells #[.pointer (some ⟨f, 0, none⟩)] 73)).alloc (.cells (Array.replicate c.length (.slice none 0 0)) 44)) 31 [.slice (some ⟨w.heap.size + 1, 0, none⟩) c.length c.length]).alloc (.cells #[.pointer (some ⟨f, 0, none⟩)] 73)
    rwa [World.size_alloc, World.size_alloc] at this
  have v4 : Bx w1 (s + 1 + 1 + 1) 73 [.pointer (some ⟨f, 0, none⟩)] := by
    rw [hw1, hs']
    have := Bx.new (((w.alloc (.cells #[.pointer (some ⟨f, 0, none⟩)] 73)).alloc (.cells (Array.replicate c.length (.slice none 0 0)) 44)).alloc (.cells #[.slice (some ⟨w.heap.size + 1, 0, none⟩) c.length c.length] 31)) 73 [.pointer (some ⟨f, 0, none⟩)]
    rwa [World.size_alloc, World.size_alloc, World.size_alloc] at this
  have hsz : w1.heap.size = s + 1 + 1 + 1 + 1 := by rw [hw1, hs']; simp
  have hbel : Below w.heap.size w w1 := by
    rw [hw1]
    exact ((((Below.refl _ w).alloc (Nat.le_refl _) _).alloc (by simp) _).alloc (by simp; omega) _).alloc (by simp; omega) _
  have f1 := hf.below hbel hf.lt
  have bc1 := hbc.below hbel hbc.lt
  have ch1 := hch.below hbel
  have m1 := hm.below hbel
  have B1 := hB.below hbel hn0
  have hlow : f < s ∧ bf < s ∧ bc < s ∧ n0 ≤ s ∧ ∀ i ∈ ones c, R i < s := by
    rw [hs']
    exact ⟨hf.lt, hm.rows.lt, hbc.lt, hn0, fun i hi => (hm.row i hi).2.lt⟩
  have HW := Lib.hid (And.intro v1 (And.intro v2 (And.intro v3 (And.intro v4 (And.intro hsz (And.intro hbel (And.intro f1 (And.intro bc1 (And.intro ch1 (And.intro m1 (And.intro B1 (And.intro hlow hs'))))))))))))
  rw [← hs']
  clear v1 v2 v3 v4 hbel f1 bc1 ch1 m1 B1 hs' hB hs hcs hf hch hm hbc hcl hn0 hw1 hmk c1
  refine wp_range (each_giv (s + 1 + 1 + 1) f bc capc c ex hc1k) rfl (enters_of Try.func59 (by kernel_rfl) rfl) (fun _ => rfl) (fun b => b = s + 1) (by omega)
    (fun k W => Kep (fun b => b = s + 1) w1 W ∧ StK W (s + 1) c k (fun i => stO B.g n C back i (F i))) ?hI ?hID ?h0 ?hround ?hdone
  case hI =>
    rintro k W r o o' hr ho hoc ⟨h1, h2⟩
    exact ⟨h1.put (.inl hr) _, h2.put _ ho hoc⟩
  case hID =>
    rintro k W ⟨h1, -⟩
    obtain ⟨v1, v2, v3, v4, hsz, hbel, f1, bc1, ch1, m1, B1, hlow, hs'⟩ := HW.out
    exact ⟨v4.kep h1 (by omega), ⟨_, f1.kep h1 (by omega), rfl⟩, bc1.kep h1 (by omega)⟩
  case h0 =>
    intro r
    obtain ⟨v1, v2, v3, v4, hsz, hbel, f1, bc1, ch1, m1, B1, hlow, hs'⟩ := HW.out
    exact ⟨((Kep.refl _ _).alloc _).alloc _, (StK.zero v2).far0 (((Kep.refl _ _).alloc _).alloc _)⟩
  case hround =>
    rintro k hk W ⟨h1, h2⟩ hrec -
    obtain ⟨x, hx⟩ : ∃ x, x = (ones c)[k] := ⟨_, rfl⟩
    rw [← hx]
    have hxc : x ∈ ones c := hx ▸ List.getElem_mem hk
    have hxL : x < c.length := (ones_lt hxc).1
    have HI := Lib.hid (And.intro h1 (And.intro h2 (And.intro hrec hx)))
    clear h1 h2 hrec hx
    gi_wp2
    refine ⟨(Kep.refl _ _).alloc _, fun rr => ?_⟩
    obtain ⟨V, hV⟩ : ∃ V, V = (W.alloc (.cells #[.int .i64 (x : Int)] 3)).putObj (w1.heap.size + 1) (.loop rr) := ⟨_, rfl⟩
    obtain ⟨q0, hq0⟩ : ∃ q0, q0 = W.heap.size := ⟨_, rfl⟩
    obtain ⟨v1, v2, v3, v4, hsz', hbel, f1, bc1, ch1, m1, B1, hlow, hs'⟩ := HW.out
    obtain ⟨h1, h2, ⟨r0, hrec⟩, hx⟩ := HI.out
    have hrl : w1.heap.size + 1 < W.heap.size := (Array.getElem?_eq_some_iff.1 hrec).1
    have hrec' : (W.alloc (.cells #[.int .i64 (x : Int)] 3)).heap[w1.heap.size + 1]? = some (.loop r0) := (Below.heap_alloc _ _ _ hrl).trans hrec
    have kV : Kep (fun b => b = s + 1) w1 V := by
      rw [hV]
      exact (h1.alloc _).put (.inl (by omega)) _
    have x1 : Bx V q0 3 [.int .i64 (x : Int)] := by
      rw [hV, hq0]
      exact (Bx.new W _ [.int .i64 (x : Int)]).put _ hrec' rfl
    have sV : StK V (s + 1) c k (fun i => stO B.g n C back i (F i)) := by
      rw [hV]
      exact (h2.far0 ((Kep.refl _ _).alloc _)).put _ hrec' rfl
    have hl0 : ∃ r, V.heap[w1.heap.size + 1]? = some (.loop r) := by
      rw [hV]
      exact ⟨rr, World.putObj_heap_same (Nat.lt_of_lt_of_le hrl (by simp))⟩
    have hVs : V.heap.size = q0 + 1 := by rw [hV, hq0]; simp
    obtain ⟨us, su1, su2, su3⟩ := sV
    have hunil : us[x]? = some (.slice none 0 0) := by
      obtain ⟨u, a1, a2, a3⟩ := su3 x hxL
      rw [a1, a3 (by rw [hx]; exact not_mem_take (ones_nodup c) hk)]
    have z1 := (v1.kep kV (by omega)).cell 0
    have fV := f1.kep kV (by omega)
    have z2 := fV.cell 8
    have z3 := x1.cell 0
    have mV := m1.kep kV (by omega) (fun i hi => by have := hlow.2.2.2.2 i hi; omega)
    have z4 := mV.cellR hxc
    simp [flC] at z1 z2 z3
    have HV := Lib.hid (And.intro kV (And.intro x1 (And.intro su1 (And.intro su2 (And.intro su3 (And.intro hunil (And.intro hl0 (And.intro hVs (And.intro fV (And.intro mV (And.intro hx (show w1.heap.size + 1 < q0 by omega))))))))))))
    rw [← hV, ← hq0]
    clear v1 v2 v3 v4 hsz' hbel f1 bc1 ch1 m1 B1 hlow hs' h1 h2 hrec hx hrl hrec' kV x1 su1 su2 su3 hunil hl0 hVs fV mV hV hq0
    gi_wp2
    refine wpIn_region_held_in (S := (fun w' => w'.cell? ⟨s, 0, none⟩ = some (.pointer (some ⟨f, 0, none⟩)) ∧ w'.cell? ⟨f, 8, none⟩ = some (.slice (some ⟨bf, 0, none⟩) c.length c.length) ∧ w'.cell? ⟨q0, 0, none⟩ = some (.int .i64 (x : Int)) ∧ w'.cell? ⟨bf, x, none⟩ = some (.slice (some ⟨R x, 0, none⟩) n n))) (by kernel_rfl) (by kernel_rfl) (fun ⟨_, _, h⟩ => h) ?_ (fun hHeld => ?_)
    · exact ⟨z1, z2, z3, z4⟩
    obtain ⟨Vd, hVd⟩ : ∃ Vd, Vd = V.drew := ⟨_, rfl⟩
    have hSd : Vd.cell? ⟨s, 0, none⟩ = some (.pointer (some ⟨f, 0, none⟩)) ∧ Vd.cell? ⟨f, 8, none⟩ = some (.slice (some ⟨bf, 0, none⟩) c.length c.length) ∧ Vd.cell? ⟨q0, 0, none⟩ = some (.int .i64 (x : Int)) ∧ Vd.cell? ⟨bf, x, none⟩ = some (.slice (some ⟨R x, 0, none⟩) n n) := by rw [hVd]; exact ⟨z1, z2, z3, z4⟩
    rw [← hVd]
    have HVD := Lib.hid hVd
    clear z1 z2 z3 z4 hVd
    refine wpAnyH_take (i := 0) (oi := { dst := some 17, op := Op.load 73 (Operand.tmp 1), type := 73, pos := "flow.go:151", after := #[], guard := none }) (v := ?vq0_1) rfl (by kernel_rfl) (by kernel_rfl) (by kernel_rfl) (fun _ _ _ h => h) (Or.inl ⟨by rfl, ?hq0_1⟩) (by assumption) ?_
    case hq0_1 => intro w hSw; (try dsimp only at hSw); go_simp; try (with_reducible rfl)
    (try simp only [Act.put, List.setIfInBounds_toArray, List.set_cons_zero, List.set_cons_succ])
    refine wpAnyH_take (i := 1) (oi := { dst := some 18, op := Op.nilCheck (Operand.tmp 17), type := 0, pos := "flow.go:151", after := #[{ on := 0, ground := Ground.data }], guard := none }) (v := ?vq1_2) rfl (by kernel_rfl) (by kernel_rfl) (by kernel_rfl) (fun _ _ _ h => h) (Or.inl ⟨by rfl, ?hq1_2⟩) (by assumption) ?_
    case hq1_2 => intro w hSw; (try dsimp only at hSw); go_simp; try (with_reducible rfl)
    (try simp only [Act.put, List.setIfInBounds_toArray, List.set_cons_zero, List.set_cons_succ])
    refine wpAnyH_take (i := 2) (oi := { dst := some 19, op := Op.fieldAddr 79 (Operand.tmp 18) 5, type := 0, pos := "flow.go:151", after := #[{ on := 1, ground := Ground.data }], guard := none }) (v := ?vq2_3) rfl (by kernel_rfl) (by kernel_rfl) (by kernel_rfl) (fun _ _ _ h => h) (Or.inl ⟨by rfl, ?hq2_3⟩) (by assumption) ?_
    case hq2_3 => intro w hSw; (try dsimp only at hSw); go_simp; try (with_reducible rfl)
    (try simp only [Act.put, List.setIfInBounds_toArray, List.set_cons_zero, List.set_cons_succ])
    refine wpAnyH_take (i := 3) (oi := { dst := some 20, op := Op.load 44 (Operand.tmp 19), type := 44, pos := "flow.go:151", after := #[{ on := 2, ground := Ground.data }], guard := none }) (v := ?vq3_4) rfl (by kernel_rfl) (by kernel_rfl) (by kernel_rfl) (fun _ _ _ h => h) (Or.inl ⟨by rfl, ?hq3_4⟩) (by assumption) ?_
    case hq3_4 => intro w hSw; (try dsimp only at hSw); go_simp; try (with_reducible rfl)
    (try simp only [Act.put, List.setIfInBounds_toArray, List.set_cons_zero, List.set_cons_succ])
    refine wpAnyH_take (i := 4) (oi := { dst := some 21, op := Op.load 3 (Operand.tmp 4), type := 3, pos := "flow.go:151", after := #[], guard := none }) (v := ?vq4_5) rfl (by kernel_rfl) (by kernel_rfl) (by kernel_rfl) (fun _ _ _ h => h) (Or.inl ⟨by rfl, ?hq4_5⟩) (by assumption) ?_
    case hq4_5 => intro w hSw; (try dsimp only at hSw); go_simp; try (with_reducible rfl)
    (try simp only [Act.put, List.setIfInBounds_toArray, List.set_cons_zero, List.set_cons_succ])
    refine wpAnyH_take (i := 5) (oi := { dst := some 22, op := Op.indexAddr 44 (Operand.tmp 20) (Operand.tmp 21), type := 0, pos := "flow.go:151", after := #[{ on := 3, ground := Ground.data }, { on := 4, ground := Ground.data }], guard := none }) (v := ?vq5_6) rfl (by kernel_rfl) (by kernel_rfl) (by kernel_rfl) (fun _ _ _ h => h) (Or.inl ⟨by rfl, ?hq5_6⟩) (by assumption) ?_
    case hq5_6 => intro w hSw; (try dsimp only at hSw); go_simp; try (with_reducible rfl)
    (try simp only [Act.put, List.setIfInBounds_toArray, List.set_cons_zero, List.set_cons_succ])
    refine wpAnyH_take (i := 6) (oi := { dst := some 23, op := Op.load 26 (Operand.tmp 22), type := 26, pos := "flow.go:151", after := #[{ on := 5, ground := Ground.data }], guard := none }) (v := ?vq6_7) rfl (by kernel_rfl) (by kernel_rfl) (by kernel_rfl) (fun _ _ _ h => h) (Or.inl ⟨by rfl, ?hq6_7⟩) (by assumption) ?_
    case hq6_7 => intro w hSw; (try dsimp only at hSw); go_simp; try (with_reducible rfl)
    (try simp only [Act.put, List.setIfInBounds_toArray, List.set_cons_zero, List.set_cons_succ])
    refine wpAnyH_ready (rs := [7]) (by kernel_rfl) (by simp) ?_
    refine AllReadyH.cons (o := { dst := some 5, op := Op.alloc 26, type := 0, pos := "flow.go:151", after := #[], guard := none }) rfl (fun K hK => ?_) AllReadyH.nil
    go_simp
    obtain ⟨Va, hVa⟩ : ∃ Va, Va = Vd.alloc (.cells #[.slice none 0 0] 26) := ⟨_, rfl⟩
    obtain ⟨q1, hq1⟩ : ∃ q1, q1 = V.heap.size := ⟨_, rfl⟩
    have hVd := HVD.out
    have hq1' : Vd.heap.size = q1 := by rw [hVd, hq1]; rfl
    rw [← hVa, hq1']
    have hSa : Va.cell? ⟨s, 0, none⟩ = some (.pointer (some ⟨f, 0, none⟩)) ∧ Va.cell? ⟨f, 8, none⟩ = some (.slice (some ⟨bf, 0, none⟩) c.length c.length) ∧ Va.cell? ⟨q0, 0, none⟩ = some (.int .i64 (x : Int)) ∧ Va.cell? ⟨bf, x, none⟩ = some (.slice (some ⟨R x, 0, none⟩) n n) := by
      rw [hVa]
      exact ⟨cellA _ hSd.1, cellA _ hSd.2.1, cellA _ hSd.2.2.1, cellA _ hSd.2.2.2⟩
    have hxa : Bx Va q1 26 [.slice none 0 0] := by
      rw [hVa, ← hq1']
      exact Bx.new Vd 26 [.slice none 0 0]
    refine hK.out _ _ hSa (fun hHeld => ?_)
    clear hK K
    have ca := hxa.cell 0
    have fa := hxa.frozen 0
    simp at ca
    have HXA := Lib.hid (And.intro hxa (And.intro hVa (And.intro hVd hq1)))
    clear hxa hVa hVd hq1
    (try simp only [Act.put, List.setIfInBounds_toArray, List.set_cons_zero, List.set_cons_succ])
    refine wpAnyH_ready (rs := [8]) (by kernel_rfl) (by simp) ?_
    refine AllReadyH.cons (o := { dst := none, op := Op.store 26 (Operand.tmp 5) (Operand.tmp 23), type := 0, pos := "flow.go:151", after := #[{ on := 7, ground := Ground.data }, { on := 6, ground := Ground.data }, { on := 0, ground := Ground.phase }, { on := 1, ground := Ground.phase }, { on := 2, ground := Ground.phase }, { on := 3, ground := Ground.phase }, { on := 4, ground := Ground.phase }, { on := 5, ground := Ground.phase }, { on := 6, ground := Ground.phase }, { on := 7, ground := Ground.phase }], guard := none }) rfl (fun K hK => ?_) AllReadyH.nil
    go_simp
    obtain ⟨V1, hV1⟩ : ∃ V1, V1 = Va.setCell ⟨q1, 0, none⟩ (.slice (some ⟨R x, 0, none⟩) n n) := ⟨_, rfl⟩
    rw [← hV1]
    obtain ⟨hxa, hVa, hVd, hq1⟩ := HXA.out
    obtain ⟨kV, x1, su1, su2, su3, hunil, hl0, hVs, fV, mV, hx, hqq⟩ := HV.out
    obtain ⟨v1, v2, v3, v4, hsz', hbel, f1, bc1, ch1, m1, B1, hlow, hs'⟩ := HW.out
    have bV : Below V.heap.size V V1 := by
      rw [hV1, hVa, hVd]
      exact (((Below.refl _ V).drew).alloc (Nat.le_refl _) _).setCell (by show V.heap.size ≤ q1; omega) _
    have hSb : V1.cell? ⟨s, 0, none⟩ = some (.pointer (some ⟨f, 0, none⟩)) ∧ V1.cell? ⟨f, 8, none⟩ = some (.slice (some ⟨bf, 0, none⟩) c.length c.length) ∧ V1.cell? ⟨q0, 0, none⟩ = some (.int .i64 (x : Int)) ∧ V1.cell? ⟨bf, x, none⟩ = some (.slice (some ⟨R x, 0, none⟩) n n) := by
      have i1 := (v1.kep kV (by omega)).below bV (by omega)
      have i2 := fV.below bV fV.lt
      have i3 := x1.below bV x1.lt
      have i4 := mV.below bV
      exact ⟨by simpa using i1.cell 0, by simpa [flC] using i2.cell 8, by simpa using i3.cell 0, i4.cellR hxc⟩
    have hxb : Bx V1 q1 26 [.slice (some ⟨R x, 0, none⟩) n n] := by
      rw [hV1]
      exact hxa.set 0 _
    have HB1 := Lib.hid (And.intro bV (And.intro hxb hq1))
    clear bV hxb hq1 hxa hVa hVd hV1 kV x1 su1 su2 su3 hunil hl0 hVs fV mV hx hqq v1 v2 v3 v4 hsz' hbel f1 bc1 ch1 m1 B1 hlow hs'
    refine hK.out _ _ hSb (fun hHeld => ?_)
    clear hK K hSb hSa hSd ca fa hq1'
    (try simp only [Act.put, List.setIfInBounds_toArray, List.set_cons_zero, List.set_cons_succ])
    refine wpAnyH_done (by kernel_rfl) ?_ _
    gi_wp2
    obtain ⟨i3, hi3, hz3, hs3, hb3⟩ := info_parts infoRow
    have HI3 := Lib.hid (And.intro hi3 (And.intro hz3 (And.intro hs3 hb3)))
    clear hi3 hz3 hs3 hb3
    obtain ⟨ua5, hua5⟩ : ∃ ua5, ua5 = V1.heap.size := ⟨_, rfl⟩
    have HUA5 := Lib.hid hua5
    clear hua5
    have hx5 : us[x]? = some (.slice none 0 0) := HV.out.2.2.2.2.2.1
    have HP5 := Lib.hid (by
      obtain ⟨kV, x1, su1, su2, su3, hunil, hl0, hVs, fV, mV, hx, hqq⟩ := HV.out
      obtain ⟨v1, v2, v3, v4, hsz', hbel, f1, bc1, ch1, m1, B1, hlow, hs'⟩ := HW.out
      obtain ⟨bV, hxb, hq1⟩ := HB1.out
      exact (And.intro ((v3.kep kV (by omega)).below bV (by omega)) (And.intro (x1.below bV x1.lt) (And.intro hxb (And.intro (su1.below bV su1.lt) (And.intro (World.ownsRow_nil V1 V1.heap.size 26 1) (And.intro (show V1.heap.size ≤ V1.heap.size ∧ s + 1 ≠ q0 ∧ s + 1 ≠ q1 from ⟨Nat.le_refl _, by omega, by omega⟩) (show ¬ (Value.slice none 0 0).ownBlock = some q1 from fun h => by cases h)))))) : Bx V1 (s + 1 + 1) 31 [.slice (some ⟨s + 1, 0, none⟩) c.length c.length] ∧ Bx V1 q0 3 [.int .i64 (x : Int)] ∧ Bx V1 q1 26 [.slice (some ⟨R x, 0, none⟩) n n] ∧ Bx V1 (s + 1) 44 us ∧ V1.ownsRow V1.heap.size 26 1 (.slice none 0 0) 0 [] ∧ (V1.heap.size ≤ V1.heap.size ∧ s + 1 ≠ q0 ∧ s + 1 ≠ q1) ∧ ¬ (Value.slice none 0 0).ownBlock = some q1))
    refine wpIn_mono (Q := AppQ (fun gA capA => { tmps := #[.pointer (some ⟨f, 0, none⟩), .pointer (some ⟨s, 0, none⟩), .slice none 0 0, .pointer (some ⟨s + 1 + 1, 0, none⟩), .pointer (some ⟨q0, 0, none⟩), .pointer (some ⟨q1, 0, none⟩), undef, .pointer (some ⟨f, 0, none⟩), .pointer (some ⟨f, 0, none⟩), .pointer (some ⟨f, 1, none⟩), .pointer (some ⟨f, 4, none⟩), .slice B.oa c.length B.cap, .int .i64 (c.length : Int), .slice (some ⟨s + 1, 0, none⟩) c.length c.length, .pointer (some ⟨f, 0, none⟩), .func (.func 59) #[] #[.pointer (some ⟨s + 1 + 1 + 1, 0, none⟩)], .int .i64 (x : Int), .pointer (some ⟨f, 0, none⟩), .pointer (some ⟨f, 0, none⟩), .pointer (some ⟨f, 8, none⟩), .slice (some ⟨bf, 0, none⟩) c.length c.length, .int .i64 (x : Int), .pointer (some ⟨bf, x, none⟩), .slice (some ⟨R x, 0, none⟩) n n, .slice (some ⟨s + 1, 0, none⟩) c.length c.length, .int .i64 (x : Int), .slice (some ⟨s + 1, 0, none⟩) c.length c.length, .int .i64 (x : Int), .pointer (some ⟨s + 1, x, none⟩), .slice none 0 0, .slice (some ⟨R x, 0, none⟩) n n, .slice (some ⟨ua5, 0, none⟩) 1 1, .slice (some ⟨gA, 0, none⟩) (0 + 1) capA, .pointer (some ⟨s + 1, x, none⟩), undef, undef, undef, undef, undef, undef, undef, undef, undef, undef, undef, undef, undef, undef, undef, undef, undef, undef, undef, undef, undef, undef, undef, undef, undef, undef, undef, undef, undef, undef, undef, undef, undef, undef, undef], defers := [] }) V1 (s + 1) x (us) (.slice none 0 0) (V1.heap.size) (0) ([]) (.slice (some ⟨R x, 0, none⟩) n n)) ?reg5 ?cont5
    case reg5 =>
      have hSU : V1.cell? ⟨s + 1 + 1, 0, none⟩ = some (.slice (some ⟨s + 1, 0, none⟩) c.length c.length) ∧ V1.cell? ⟨q0, 0, none⟩ = some (.int .i64 (x : Int)) ∧ V1.cell? ⟨q1, 0, none⟩ = some (.slice (some ⟨R x, 0, none⟩) n n) := by
        obtain ⟨hP1, hP2, hP3, hP4, hP5, hP6, hP7⟩ := HP5.out
        exact ⟨by simpa using hP1.cell 0, by simpa using hP2.cell 0, by simpa using hP3.cell 0⟩
      have cX := HP5.out.2.2.2.1.cell x
      rw [hx5] at cX
      refine wpIn_region_held_in (S := (fun w' => w'.cell? ⟨s + 1 + 1, 0, none⟩ = some (.slice (some ⟨s + 1, 0, none⟩) c.length c.length) ∧ w'.cell? ⟨q0, 0, none⟩ = some (.int .i64 (x : Int)) ∧ w'.cell? ⟨q1, 0, none⟩ = some (.slice (some ⟨R x, 0, none⟩) n n))) (by kernel_rfl) (by kernel_rfl) (by rintro ⟨_, _, h⟩; exact h) ?_ (fun hHeld => ?_)
      · exact hSU
      obtain ⟨Ud, hUd⟩ : ∃ Ud, Ud = V1.drew := ⟨_, rfl⟩
      have hSd : Ud.cell? ⟨s + 1 + 1, 0, none⟩ = some (.slice (some ⟨s + 1, 0, none⟩) c.length c.length) ∧ Ud.cell? ⟨q0, 0, none⟩ = some (.int .i64 (x : Int)) ∧ Ud.cell? ⟨q1, 0, none⟩ = some (.slice (some ⟨R x, 0, none⟩) n n) := by rw [hUd]; exact hSU
      have cXd : Ud.cell? ⟨s + 1, x, none⟩ = some (.slice none 0 0) := by rw [hUd]; exact cX
      have HUAD := Lib.hid (show Ud.heap.size = ua5 by rw [hUd, HUA5.out]; rfl)
      rw [← hUd]
      have HUD := Lib.hid hUd
      clear hSU cX hUd
      refine wpAnyH_take (i := 0) (oi := { dst := some 24, op := Op.load 31 (Operand.tmp 3), type := 31, pos := "flow.go:152", after := #[], guard := none }) (v := ?vq0_8) rfl (by kernel_rfl) (by kernel_rfl) (by kernel_rfl) (fun _ _ _ h => h) (Or.inl ⟨by rfl, ?hq0_8⟩) (by assumption) ?_
      case hq0_8 => intro w hSw; (try dsimp only at hSw); go_simp; try (with_reducible rfl)
      (try simp only [Act.put, List.setIfInBounds_toArray, List.set_cons_zero, List.set_cons_succ])
      refine wpAnyH_take (i := 1) (oi := { dst := some 25, op := Op.load 3 (Operand.tmp 4), type := 3, pos := "flow.go:152", after := #[], guard := none }) (v := ?vq1_9) rfl (by kernel_rfl) (by kernel_rfl) (by kernel_rfl) (fun _ _ _ h => h) (Or.inl ⟨by rfl, ?hq1_9⟩) (by assumption) ?_
      case hq1_9 => intro w hSw; (try dsimp only at hSw); go_simp; try (with_reducible rfl)
      (try simp only [Act.put, List.setIfInBounds_toArray, List.set_cons_zero, List.set_cons_succ])
      refine wpAnyH_take (i := 2) (oi := { dst := some 26, op := Op.load 31 (Operand.tmp 3), type := 31, pos := "flow.go:152", after := #[], guard := none }) (v := ?vq2_10) rfl (by kernel_rfl) (by kernel_rfl) (by kernel_rfl) (fun _ _ _ h => h) (Or.inl ⟨by rfl, ?hq2_10⟩) (by assumption) ?_
      case hq2_10 => intro w hSw; (try dsimp only at hSw); go_simp; try (with_reducible rfl)
      (try simp only [Act.put, List.setIfInBounds_toArray, List.set_cons_zero, List.set_cons_succ])
      refine wpAnyH_take (i := 3) (oi := { dst := some 27, op := Op.load 3 (Operand.tmp 4), type := 3, pos := "flow.go:152", after := #[], guard := none }) (v := ?vq3_11) rfl (by kernel_rfl) (by kernel_rfl) (by kernel_rfl) (fun _ _ _ h => h) (Or.inl ⟨by rfl, ?hq3_11⟩) (by assumption) ?_
      case hq3_11 => intro w hSw; (try dsimp only at hSw); go_simp; try (with_reducible rfl)
      (try simp only [Act.put, List.setIfInBounds_toArray, List.set_cons_zero, List.set_cons_succ])
      refine wpAnyH_take (i := 4) (oi := { dst := some 28, op := Op.indexAddr 31 (Operand.tmp 26) (Operand.tmp 27), type := 0, pos := "flow.go:152", after := #[{ on := 2, ground := Ground.data }, { on := 3, ground := Ground.data }], guard := none }) (v := ?vq4_12) rfl (by kernel_rfl) (by kernel_rfl) (by kernel_rfl) (fun _ _ _ h => h) (Or.inl ⟨by rfl, ?hq4_12⟩) (by assumption) ?_
      case hq4_12 => intro w hSw; (try dsimp only at hSw); go_simp; try (with_reducible rfl)
      (try simp only [Act.put, List.setIfInBounds_toArray, List.set_cons_zero, List.set_cons_succ])
      refine wpAnyH_take (i := 6) (oi := { dst := some 30, op := Op.load 26 (Operand.tmp 5), type := 26, pos := "flow.go:152", after := #[], guard := none }) (v := ?vq6_13) rfl (by kernel_rfl) (by kernel_rfl) (by kernel_rfl) (fun _ _ _ h => h) (Or.inl ⟨by rfl, ?hq6_13⟩) (by assumption) ?_
      case hq6_13 => intro w hSw; (try dsimp only at hSw); go_simp; try (with_reducible rfl)
      (try simp only [Act.put, List.setIfInBounds_toArray, List.set_cons_zero, List.set_cons_succ])
      refine wpAnyH_ready (rs := [5, 7]) (by kernel_rfl) (by simp) ?_
      refine AllReadyH.cons (o := { dst := some 29, op := Op.load 44 (Operand.tmp 28), type := 44, pos := "flow.go:152", after := #[{ on := 4, ground := Ground.data }], guard := none }) rfl (fun K hK => ?_) ?_
      · go_simp
        refine hK.out _ _ hSd (fun hHeld => ?_)
        clear hK K
        (try simp only [Act.put, List.setIfInBounds_toArray, List.set_cons_zero, List.set_cons_succ])
        refine wpAnyH_ready (rs := [7]) (by kernel_rfl) (by simp) ?_
        refine AllReadyH.cons (o := { dst := some 31, op := Op.buildSlice 44 1 #[(0, Operand.tmp 30)], type := 44, pos := "flow.go:152", after := #[{ on := 6, ground := Ground.data }], guard := none }) rfl (fun K hK => ?_) AllReadyH.nil
        go_simp
        obtain ⟨Wa, hWa⟩ : ∃ Wa, Wa = Ud.alloc (.cells #[.slice (some ⟨R x, 0, none⟩) n n] 26) := ⟨_, rfl⟩
        rw [← hWa, HUAD.out]
        have hSa : Wa.cell? ⟨s + 1 + 1, 0, none⟩ = some (.slice (some ⟨s + 1, 0, none⟩) c.length c.length) ∧ Wa.cell? ⟨q0, 0, none⟩ = some (.int .i64 (x : Int)) ∧ Wa.cell? ⟨q1, 0, none⟩ = some (.slice (some ⟨R x, 0, none⟩) n n) := by
          rw [hWa]
          exact ⟨cellA _ hSd.1, cellA _ hSd.2.1, cellA _ hSd.2.2⟩
        have cXa : Wa.cell? ⟨s + 1, x, none⟩ = some (.slice none 0 0) := by rw [hWa]; exact cellA _ cXd
        have HWA := Lib.hid hWa
        clear hWa
        refine hK.out _ _ hSa (fun hHeld => ?_)
        clear hK K
        (try simp only [Act.put, List.setIfInBounds_toArray, List.set_cons_zero, List.set_cons_succ])
        refine wpAnyH_ready (rs := [8]) (by kernel_rfl) (by simp) ?_
        refine AllReadyH.cons (o := { dst := some 32, op := Op.call { callee := Callee.builtin Builtin.append, args := #[Operand.tmp 29, Operand.tmp 31], argTypes := #[44, 44] }, type := 44, pos := "flow.go:152", after := #[{ on := 5, ground := Ground.data }, { on := 7, ground := Ground.data }], guard := none }) rfl (fun K hK => ?_) AllReadyH.nil
        refine op_append_own_at (.tmp 29) (.tmp 31) 44 rfl (V1.heap.size) 26 i3 _ 1 24 Try.underlying44 HI3.out.1 HI3.out.2.1 HI3.out.2.2.1 HI3.out.2.2.2 rfl (by decide) (.slice none 0 0) (0) ([]) rfl (by rw [HWA.out, HUD.out]; exact (show World.ownsRow _ _ _ _ _ _ _ from HP5.out.2.2.2.2.1).alloc _) ⟨ua5, 0, none⟩ 1 1 [.slice (some ⟨R x, 0, none⟩) n n] rfl rfl (by rw [HWA.out, ← HUAD.out]; exact new_cells _ [.slice (some ⟨R x, 0, none⟩) n n] _) (fun u hu => by simp at hu; subst hu; rfl) (by unfold maxLen; omega) (by omega) ?hbs ?_
        case hbs => rw [HWA.out, HUD.out]; have h7 := HP5.out.2.2.2.2.2.1.1; simp <;> omega
        intro v' w5 hown hg hnil hat
        have hnn : v' ≠ .slice none 0 0 := fun e => by
          have := (hnil.1 e).2
          omega
        obtain ⟨gA, capA, exA, rfl, -, -, -⟩ := own_bx hown hnn
        have H5 : Go.RowKit.Hid (w5.ownsRow (V1.heap.size) 26 1 (.slice (some ⟨gA, 0, none⟩) (0 + 1) capA) (0 + 1) ([] ++ [.slice (some ⟨R x, 0, none⟩) n n]) ∧ Kep (fun b => (.slice none 0 0 : Value).ownBlock = some b) V1 w5 ∧ ((.slice none 0 0 : Value).ownBlock = some gA ∨ V1.heap.size ≤ gA)) := Lib.hid (by
          have hk : Kep (fun b => (.slice none 0 0 : Value).ownBlock = some b) V1 Wa := by
            rw [HWA.out, HUD.out]
            exact (Kep.refl _ _).drew.alloc _
          refine ⟨hown, hk.grown hg (fun q hq => .inr hq), ?_⟩
          rcases hat with h | h
          · exact .inl h.symm
          · right
            have h9 := hk.size
            simp only [Value.ownBlock, Option.some.injEq] at h
            omega)
        clear hown hg hnil hat hnn
        have hS5 : w5.cell? ⟨s + 1 + 1, 0, none⟩ = some (.slice (some ⟨s + 1, 0, none⟩) c.length c.length) ∧ w5.cell? ⟨q0, 0, none⟩ = some (.int .i64 (x : Int)) ∧ w5.cell? ⟨q1, 0, none⟩ = some (.slice (some ⟨R x, 0, none⟩) n n) := by
          obtain ⟨hP1, hP2, hP3, hP4, hP5, hP6, hP7⟩ := HP5.out
          have hk := H5.out.2.1
          exact ⟨by simpa using (hP1.kep hk (fun h => own_ne hP5 hP1 (fun cs fr e => by cases e) h)).cell 0, by simpa using (hP2.kep hk (fun h => own_ne hP5 hP2 (fun cs fr e => by cases e) h)).cell 0, by simpa using (hP3.kep hk (fun h => hP7 h)).cell 0⟩
        have hX5 : Bx w5 (s + 1) 44 (us) := by
          obtain ⟨hP1, hP2, hP3, hP4, hP5, hP6, hP7⟩ := HP5.out
          exact hP4.kep H5.out.2.1 (fun h => own_ne hP5 hP4 (fun cs fr e => by cases e) h)
        have c6 := hX5.cell x
        rw [hx5] at c6
        have f6 := hX5.frozen x
        have HX5 := Lib.hid hX5
        clear hX5
        refine hK.out _ _ hS5 (fun hHeld => ?_)
        clear hK K
        (try simp only [Act.put, List.setIfInBounds_toArray, List.set_cons_zero, List.set_cons_succ])
        refine wpAnyH_take (i := 9) (oi := { dst := some 33, op := Op.indexAddr 31 (Operand.tmp 24) (Operand.tmp 25), type := 0, pos := "flow.go:152", after := #[{ on := 0, ground := Ground.data }, { on := 1, ground := Ground.data }, { on := 0, ground := Ground.phase }, { on := 1, ground := Ground.phase }, { on := 2, ground := Ground.phase }, { on := 3, ground := Ground.phase }, { on := 4, ground := Ground.phase }, { on := 5, ground := Ground.phase }, { on := 6, ground := Ground.phase }, { on := 7, ground := Ground.phase }, { on := 8, ground := Ground.phase }], guard := none }) (v := ?vq9_14) rfl (by kernel_rfl) (by kernel_rfl) (by kernel_rfl) (fun _ _ _ h => h) (Or.inl ⟨by rfl, ?hq9_14⟩) (by assumption) ?_
        case hq9_14 => intro w hSw; (try dsimp only at hSw); go_simp; try (with_reducible rfl)
        (try simp only [Act.put, List.setIfInBounds_toArray, List.set_cons_zero, List.set_cons_succ])
        refine wpAnyH_ready (rs := [10]) (by kernel_rfl) (by simp) ?_
        refine AllReadyH.cons (o := { dst := none, op := Op.store 44 (Operand.tmp 33) (Operand.tmp 32), type := 0, pos := "flow.go:152", after := #[{ on := 9, ground := Ground.data }, { on := 8, ground := Ground.data }, { on := 8, ground := Ground.chain }, { on := 0, ground := Ground.phase }, { on := 1, ground := Ground.phase }, { on := 2, ground := Ground.phase }, { on := 3, ground := Ground.phase }, { on := 4, ground := Ground.phase }, { on := 5, ground := Ground.phase }, { on := 6, ground := Ground.phase }, { on := 7, ground := Ground.phase }, { on := 8, ground := Ground.phase }], guard := none }) rfl (fun K hK => ?_) AllReadyH.nil
        go_simp
        obtain ⟨Uf, hUf⟩ : ∃ Uf, Uf = w5.setCell ⟨s + 1, x, none⟩ (.slice (some ⟨gA, 0, none⟩) (0 + 1) capA) := ⟨_, rfl⟩
        rw [← hUf]
        have hSf : Uf.cell? ⟨s + 1 + 1, 0, none⟩ = some (.slice (some ⟨s + 1, 0, none⟩) c.length c.length) ∧ Uf.cell? ⟨q0, 0, none⟩ = some (.int .i64 (x : Int)) ∧ Uf.cell? ⟨q1, 0, none⟩ = some (.slice (some ⟨R x, 0, none⟩) n n) := by
          rw [hUf]
          have hP6 := HP5.out.2.2.2.2.2.1
          exact ⟨(World.cell?_setCell_far _ _ _ _ (by show (s + 1 : Nat) ≠ s + 1 + 1; omega)).trans hS5.1, (World.cell?_setCell_far _ _ _ _ (by exact hP6.2.1)).trans hS5.2.1, (World.cell?_setCell_far _ _ _ _ (by exact hP6.2.2)).trans hS5.2.2⟩
        refine hK.out _ _ hSf (fun hHeld => ?_)
        clear hK K
        (try simp only [Act.put, List.setIfInBounds_toArray, List.set_cons_zero, List.set_cons_succ])
        refine wpAnyH_done (by kernel_rfl) ?_ _
        obtain ⟨h1, h2, h3⟩ := H5.out
        have hk : Kep (fun b => b = s + 1) w5 Uf := by
          rw [hUf]
          exact Kep.setCell (M := fun b => b = s + 1) (p := ⟨s + 1, x, none⟩) (Kep.refl _ w5) (.inr rfl) _
        exact ⟨gA, capA, rfl, (h2.mono (fun _ _ h => .inr h)).trans (hk.mono (fun _ _ h => .inl h)), by rw [hUf]; exact HX5.out.set x _, own_kep h1 hk (fun g hg e => by
            subst e
            exact own_ne h1 HX5.out (fun cs fr e => by cases e) hg), h3⟩
      refine AllReadyH.cons (o := { dst := some 31, op := Op.buildSlice 44 1 #[(0, Operand.tmp 30)], type := 44, pos := "flow.go:152", after := #[{ on := 6, ground := Ground.data }], guard := none }) rfl (fun K hK => ?_) AllReadyH.nil
      go_simp
      obtain ⟨Wa, hWa⟩ : ∃ Wa, Wa = Ud.alloc (.cells #[.slice (some ⟨R x, 0, none⟩) n n] 26) := ⟨_, rfl⟩
      rw [← hWa, HUAD.out]
      have hSa : Wa.cell? ⟨s + 1 + 1, 0, none⟩ = some (.slice (some ⟨s + 1, 0, none⟩) c.length c.length) ∧ Wa.cell? ⟨q0, 0, none⟩ = some (.int .i64 (x : Int)) ∧ Wa.cell? ⟨q1, 0, none⟩ = some (.slice (some ⟨R x, 0, none⟩) n n) := by
        rw [hWa]
        exact ⟨cellA _ hSd.1, cellA _ hSd.2.1, cellA _ hSd.2.2⟩
      have cXa : Wa.cell? ⟨s + 1, x, none⟩ = some (.slice none 0 0) := by rw [hWa]; exact cellA _ cXd
      have HWA := Lib.hid hWa
      clear hWa
      refine hK.out _ _ hSa (fun hHeld => ?_)
      clear hK K
      (try simp only [Act.put, List.setIfInBounds_toArray, List.set_cons_zero, List.set_cons_succ])
      refine wpAnyH_ready (rs := [5]) (by kernel_rfl) (by simp) ?_
      refine AllReadyH.cons (o := { dst := some 29, op := Op.load 44 (Operand.tmp 28), type := 44, pos := "flow.go:152", after := #[{ on := 4, ground := Ground.data }], guard := none }) rfl (fun K hK => ?_) AllReadyH.nil
      go_simp
      refine hK.out _ _ hSa (fun hHeld => ?_)
      clear hK K
      (try simp only [Act.put, List.setIfInBounds_toArray, List.set_cons_zero, List.set_cons_succ])
      refine wpAnyH_ready (rs := [8]) (by kernel_rfl) (by simp) ?_
      refine AllReadyH.cons (o := { dst := some 32, op := Op.call { callee := Callee.builtin Builtin.append, args := #[Operand.tmp 29, Operand.tmp 31], argTypes := #[44, 44] }, type := 44, pos := "flow.go:152", after := #[{ on := 5, ground := Ground.data }, { on := 7, ground := Ground.data }], guard := none }) rfl (fun K hK => ?_) AllReadyH.nil
      refine op_append_own_at (.tmp 29) (.tmp 31) 44 rfl (V1.heap.size) 26 i3 _ 1 24 Try.underlying44 HI3.out.1 HI3.out.2.1 HI3.out.2.2.1 HI3.out.2.2.2 rfl (by decide) (.slice none 0 0) (0) ([]) rfl (by rw [HWA.out, HUD.out]; exact (show World.ownsRow _ _ _ _ _ _ _ from HP5.out.2.2.2.2.1).alloc _) ⟨ua5, 0, none⟩ 1 1 [.slice (some ⟨R x, 0, none⟩) n n] rfl rfl (by rw [HWA.out, ← HUAD.out]; exact new_cells _ [.slice (some ⟨R x, 0, none⟩) n n] _) (fun u hu => by simp at hu; subst hu; rfl) (by unfold maxLen; omega) (by omega) ?hbs ?_
      case hbs => rw [HWA.out, HUD.out]; have h7 := HP5.out.2.2.2.2.2.1.1; simp <;> omega
      intro v' w5 hown hg hnil hat
      have hnn : v' ≠ .slice none 0 0 := fun e => by
        have := (hnil.1 e).2
        omega
      obtain ⟨gA, capA, exA, rfl, -, -, -⟩ := own_bx hown hnn
      have H5 : Go.RowKit.Hid (w5.ownsRow (V1.heap.size) 26 1 (.slice (some ⟨gA, 0, none⟩) (0 + 1) capA) (0 + 1) ([] ++ [.slice (some ⟨R x, 0, none⟩) n n]) ∧ Kep (fun b => (.slice none 0 0 : Value).ownBlock = some b) V1 w5 ∧ ((.slice none 0 0 : Value).ownBlock = some gA ∨ V1.heap.size ≤ gA)) := Lib.hid (by
        have hk : Kep (fun b => (.slice none 0 0 : Value).ownBlock = some b) V1 Wa := by
          rw [HWA.out, HUD.out]
          exact (Kep.refl _ _).drew.alloc _
        refine ⟨hown, hk.grown hg (fun q hq => .inr hq), ?_⟩
        rcases hat with h | h
        · exact .inl h.symm
        · right
          have h9 := hk.size
          simp only [Value.ownBlock, Option.some.injEq] at h
          omega)
      clear hown hg hnil hat hnn
      have hS5 : w5.cell? ⟨s + 1 + 1, 0, none⟩ = some (.slice (some ⟨s + 1, 0, none⟩) c.length c.length) ∧ w5.cell? ⟨q0, 0, none⟩ = some (.int .i64 (x : Int)) ∧ w5.cell? ⟨q1, 0, none⟩ = some (.slice (some ⟨R x, 0, none⟩) n n) := by
        obtain ⟨hP1, hP2, hP3, hP4, hP5, hP6, hP7⟩ := HP5.out
        have hk := H5.out.2.1
        exact ⟨by simpa using (hP1.kep hk (fun h => own_ne hP5 hP1 (fun cs fr e => by cases e) h)).cell 0, by simpa using (hP2.kep hk (fun h => own_ne hP5 hP2 (fun cs fr e => by cases e) h)).cell 0, by simpa using (hP3.kep hk (fun h => hP7 h)).cell 0⟩
      have hX5 : Bx w5 (s + 1) 44 (us) := by
        obtain ⟨hP1, hP2, hP3, hP4, hP5, hP6, hP7⟩ := HP5.out
        exact hP4.kep H5.out.2.1 (fun h => own_ne hP5 hP4 (fun cs fr e => by cases e) h)
      have c6 := hX5.cell x
      rw [hx5] at c6
      have f6 := hX5.frozen x
      have HX5 := Lib.hid hX5
      clear hX5
      refine hK.out _ _ hS5 (fun hHeld => ?_)
      clear hK K
      (try simp only [Act.put, List.setIfInBounds_toArray, List.set_cons_zero, List.set_cons_succ])
      refine wpAnyH_take (i := 9) (oi := { dst := some 33, op := Op.indexAddr 31 (Operand.tmp 24) (Operand.tmp 25), type := 0, pos := "flow.go:152", after := #[{ on := 0, ground := Ground.data }, { on := 1, ground := Ground.data }, { on := 0, ground := Ground.phase }, { on := 1, ground := Ground.phase }, { on := 2, ground := Ground.phase }, { on := 3, ground := Ground.phase }, { on := 4, ground := Ground.phase }, { on := 5, ground := Ground.phase }, { on := 6, ground := Ground.phase }, { on := 7, ground := Ground.phase }, { on := 8, ground := Ground.phase }], guard := none }) (v := ?vq9_14) rfl (by kernel_rfl) (by kernel_rfl) (by kernel_rfl) (fun _ _ _ h => h) (Or.inl ⟨by rfl, ?hq9_14⟩) (by assumption) ?_
      case hq9_14 => intro w hSw; (try dsimp only at hSw); go_simp; try (with_reducible rfl)
      (try simp only [Act.put, List.setIfInBounds_toArray, List.set_cons_zero, List.set_cons_succ])
      refine wpAnyH_ready (rs := [10]) (by kernel_rfl) (by simp) ?_
      refine AllReadyH.cons (o := { dst := none, op := Op.store 44 (Operand.tmp 33) (Operand.tmp 32), type := 0, pos := "flow.go:152", after := #[{ on := 9, ground := Ground.data }, { on := 8, ground := Ground.data }, { on := 8, ground := Ground.chain }, { on := 0, ground := Ground.phase }, { on := 1, ground := Ground.phase }, { on := 2, ground := Ground.phase }, { on := 3, ground := Ground.phase }, { on := 4, ground := Ground.phase }, { on := 5, ground := Ground.phase }, { on := 6, ground := Ground.phase }, { on := 7, ground := Ground.phase }, { on := 8, ground := Ground.phase }], guard := none }) rfl (fun K hK => ?_) AllReadyH.nil
      go_simp
      obtain ⟨Uf, hUf⟩ : ∃ Uf, Uf = w5.setCell ⟨s + 1, x, none⟩ (.slice (some ⟨gA, 0, none⟩) (0 + 1) capA) := ⟨_, rfl⟩
      rw [← hUf]
      have hSf : Uf.cell? ⟨s + 1 + 1, 0, none⟩ = some (.slice (some ⟨s + 1, 0, none⟩) c.length c.length) ∧ Uf.cell? ⟨q0, 0, none⟩ = some (.int .i64 (x : Int)) ∧ Uf.cell? ⟨q1, 0, none⟩ = some (.slice (some ⟨R x, 0, none⟩) n n) := by
        rw [hUf]
        have hP6 := HP5.out.2.2.2.2.2.1
        exact ⟨(World.cell?_setCell_far _ _ _ _ (by show (s + 1 : Nat) ≠ s + 1 + 1; omega)).trans hS5.1, (World.cell?_setCell_far _ _ _ _ (by exact hP6.2.1)).trans hS5.2.1, (World.cell?_setCell_far _ _ _ _ (by exact hP6.2.2)).trans hS5.2.2⟩
      refine hK.out _ _ hSf (fun hHeld => ?_)
      clear hK K
      (try simp only [Act.put, List.setIfInBounds_toArray, List.set_cons_zero, List.set_cons_succ])
      refine wpAnyH_done (by kernel_rfl) ?_ _
      obtain ⟨h1, h2, h3⟩ := H5.out
      have hk : Kep (fun b => b = s + 1) w5 Uf := by
        rw [hUf]
        exact Kep.setCell (M := fun b => b = s + 1) (p := ⟨s + 1, x, none⟩) (Kep.refl _ w5) (.inr rfl) _
      exact ⟨gA, capA, rfl, (h2.mono (fun _ _ h => .inr h)).trans (hk.mono (fun _ _ h => .inl h)), by rw [hUf]; exact HX5.out.set x _, own_kep h1 hk (fun g hg e => by
          subst e
          exact own_ne h1 HX5.out (fun cs fr e => by cases e) hg), h3⟩
    case cont5 =>
      intro e a' V2 hq
      cases e with
      | ret => exact hq.elim
      | exit id => exact hq.elim
      | goto t => exact hq.elim
      | panic ch => exact hq.elim
      | outgrown => exact hq.elim
      | normal =>
        obtain ⟨g0, cap0, rfl, hk2, hb2, ho2, hg2⟩ := hq
        obtain ⟨kV, x1, su1, su2, su3, hunil, hl0, hVs, fV, mV, hx, hqq⟩ := HV.out
        obtain ⟨v1, v2, v3, v4, hsz', hbel, f1, bc1, ch1, m1, B1, hlow, hs'⟩ := HW.out
        obtain ⟨bV, hxb, hq1⟩ := HB1.out
        have hg2' : V1.heap.size ≤ g0 := hg2.resolve_left (fun h => by cases h)
        have hg0l : g0 < V2.heap.size := (own_lt ho2 rfl).1
        have hq1l := hxb.lt
        have k12 : Kep (fun b => b = s + 1) V1 V2 := hk2.mono (fun b _ h => h.elim id (fun h => by cases h))
        have kV2 : Kep (fun b => b = s + 1) V V2 := (Kep.of_below (M := (fun b => b = s + 1)) bV).trans k12
        have kw2 : Kep (fun b => b = s + 1) w1 V2 := kV.trans kV2
        have e1 := v1.kep kw2 (by omega)
        have e2 := v3.kep kw2 (by omega)
        have e3 := x1.kep kV2 (by omega)
        have e4 := hxb.kep k12 (by omega)
        have e5 := f1.kep kw2 (by omega)
        have e6 : ChAt V2 base m (rlF B.g n C) l rv := ch1.keep kw2 (fun b hb => .inr ⟨_, _, hb ▸ v2, by decide⟩)
        have e7 : B.At n0 V2 := B1.below (kw2.to_below (by omega : s ≤ w1.heap.size) (fun q hq h => by omega)) hlow.2.2.2.1
        have hFx := (m1.row x hxc).1
        have e8 : Bx V2 (R x) 4 (bC (F x)) := (m1.row x hxc).2.kep kw2 (by have := hlow.2.2.2.2 x hxc; omega)
        have hl2 : ∃ r, V2.heap[w1.heap.size + 1]? = some (.loop r) := by
          obtain ⟨r, hr⟩ := hl0
          exact ⟨r, (kV2.same _ (Array.getElem?_eq_some_iff.1 hr).1 (by omega)).trans hr⟩
        have hxg : x < B.g.length := by rw [← HA.out.2.2.2.2.2.2.2.1]; exact hxL
        have hin : insR B.g x ≤ 1000 := (HA.out.2.1.2 x).1
        have HAL := Lib.hid (along_any n0 f m B n (.slice (some ⟨bc, 0, none⟩) c.length capc) back (.slice (some ⟨bf, 0, none⟩) c.length c.length) no al x hxg HA.out.2.1 V2 e5 e7)
        have z1 := e1.cell 0
        have z2 := e3.cell 0
        simp at z1 z2
        have H2 := Lib.hid (And.intro kV2 (And.intro kw2 (And.intro e1 (And.intro e2 (And.intro e3 (And.intro e4 (And.intro e5 (And.intro e6 (And.intro hFx (And.intro e8 (And.intro hb2 ho2)))))))))))
        have HQN := Lib.hid (show s + 1 < q0 ∧ q0 < q1 ∧ q1 < V1.heap.size ∧ V1.heap.size ≤ g0 ∧ g0 < V2.heap.size ∧ V.heap.size = q1 ∧ V1.heap.size ≤ V2.heap.size from ⟨by omega, by omega, hq1l, hg2', hg0l, hq1.symm, k12.size⟩)
        clear kV x1 su1 su2 su3 hunil hl0 hVs fV mV hx hqq v1 v2 v3 v4 hsz' hbel f1 bc1 ch1 m1 B1 hlow hs' bV hxb hq1 hg2 hg2' hg0l hq1l k12 kV2 kw2 e1 e2 e3 e4 e5 e6 e7 hFx e8 hk2 hb2 ho2
        have hfn : ∀ f, (Fence.wide).fn f = True := fun _ => rfl
        have hdp : (Fence.wide).depth = none := rfl
        have hfn1 : ∀ f, (WR (w1.heap.size + 1)).fn f = True := fun _ => rfl
        have hdp1 : (WR (w1.heap.size + 1)).depth = none := rfl
        gi_wp2_with (gi_at_call 45; refine (CallsIn.inRound _ (callsIn_wide.2 HAL.out)).mono ?_; clear HAL; rintro e w' ⟨rfl, rfl⟩)
        clear hfn hdp hfn1 hdp1
        obtain ⟨V6, hV6⟩ : ∃ V6, V6 = (V2.alloc (.cells #[.pointer (some ⟨f, 0, none⟩)] 73)).alloc (.cells #[.int .i64 (insR B.g x : Int)] 3) := ⟨_, rfl⟩
        obtain ⟨s6, hs6⟩ : ∃ s6, s6 = V2.heap.size := ⟨_, rfl⟩
        obtain ⟨kV2, kw2, e1, e2, e3, e4, e5, e6, hFx, e8, hb2, ho2⟩ := H2.out
        obtain ⟨n1, n2, n3, n4, n5, n6, n7⟩ := HQN.out
        have b6 : Below V2.heap.size V2 V6 := by
          rw [hV6]
          exact ((Below.refl _ _).alloc (Nat.le_refl _) _).alloc (by simp) _
        have t1 : Bx V6 s6 73 [.pointer (some ⟨f, 0, none⟩)] := by
          rw [hV6, hs6]
          exact (Bx.new V2 _ [.pointer (some ⟨f, 0, none⟩)]).alloc _
        have t2 : Bx V6 (s6 + 1) 3 [.int .i64 (insR B.g x : Int)] := by
          rw [hV6, hs6]
          have := Bx.new (V2.alloc (.cells #[.pointer (some ⟨f, 0, none⟩)] 73)) 3 [.int .i64 (insR B.g x : Int)]
          rwa [World.size_alloc] at this
        have hsz6 : V6.heap.size = s6 + 1 + 1 := by rw [hV6, hs6]; simp
        have hl6 : ∃ r, V6.heap[w1.heap.size + 1]? = some (.loop r) := by
          obtain ⟨r, hr⟩ := hl2
          exact ⟨r, (b6.block _ (Array.getElem?_eq_some_iff.1 hr).1).trans hr⟩
        have HN2 := Lib.hid (show ∀ b, (b = s ∨ b = s + 1 + 1 ∨ b = q0 ∨ b = s6 ∨ b = s6 + 1 ∨ b = V6.heap.size ∨ b < s) → ¬ (b = s + 1 ∨ b = q1 ∨ b = g0 ∨ V6.heap.size + 1 ≤ b) from fun b hb => by omega)
        have H6 := Lib.hid (And.intro b6 (And.intro t1 (And.intro t2 (And.intro (e1.below b6 e1.lt) (And.intro (e2.below b6 e2.lt) (And.intro (e3.below b6 e3.lt) (And.intro (e4.below b6 e4.lt) (And.intro (e5.below b6 e5.lt) (And.intro (e6.below b6) (And.intro (e8.below b6 e8.lt) (And.intro (hb2.below b6 hb2.lt) (And.intro (own_kep ho2 (Kep.of_below (M := fun _ => False) b6) (fun _ _ h => h)) (And.intro hsz6 hs6)))))))))))))
        have HG2 := Lib.hid (along_giv (s6 + 1) s6 f (insR B.g x) back hin)
        rw [← hV6, ← hs6]
        clear kV2 kw2 e1 e2 e3 e4 e5 e6 hFx e8 hb2 ho2 n1 n2 n3 n4 n5 n6 n7 b6 t1 t2 hsz6 hl2 hV6 hs6 z1 z2
        refine wpIn_range hl6 HG2.out rfl (enters_of Try.func60 (by kernel_rfl) rfl) (fun _ => rfl) (fun b => b = s + 1 ∨ b = q1 ∨ b = g0 ∨ V6.heap.size + 1 ≤ b) (HN2.out _ (by simp))
          (fun k' U => Kep (fun b => b = s + 1 ∨ b = q1 ∨ b = g0 ∨ V6.heap.size + 1 ≤ b) V6 U ∧ StJ (s + 1) q1 x us g0 (V6.heap.size + 1) V1.heap.size (fun j => runB B.g n C x ((alongL back (insR B.g x)).take j) (F x)) k' U) ?hI2 ?hID2 ?h02 ?hround2 ?hdone2
        case hI2 =>
          rintro k' U r o o' hr ho hoc ⟨h1, h2⟩
          exact ⟨h1.put (.inl hr) _, h2.put _ ho hoc⟩
        case hID2 =>
          rintro k' U ⟨h1, -⟩
          obtain ⟨b6, t1, t2, d1, d2, d3, d4, d5, d6, d8, db, dor, hsz6, hs6⟩ := H6.out
          have hlow := HW.out.2.2.2.2.2.2.2.2.2.2.2.1
          exact ⟨t2.kep h1 (HN2.out _ (by simp)), t1.kep h1 (HN2.out _ (by simp)), ⟨_, d5.kep h1 (HN2.out _ (by have := hlow.1; right; right; right; right; right; right; exact this)), rfl⟩⟩
        case h02 =>
          intro r
          obtain ⟨b6, t1, t2, d1, d2, d3, d4, d5, d6, d8, db, dor, hsz6, hs6⟩ := H6.out
          have hFx := H2.out.2.2.2.2.2.2.2.2.1
          have hbr : BRow (V6.alloc (.loop r)) (.slice (some ⟨R x, 0, none⟩) n n) (F x) := ⟨R x, n, [], by rw [hFx], by rw [List.append_nil]; exact d8.alloc _⟩
          exact ⟨(Kep.refl _ _).alloc _, _, _, _, db.alloc _, dor.alloc _, (fun e => by cases e), (fun b hb => by simp only [Value.ownBlock, Option.some.injEq] at hb; exact .inl hb.symm), d4.alloc _, hbr, rfl, fun j hj => by
            obtain rfl : j = 0 := by omega
            exact ⟨_, rfl, hbr⟩⟩
        case hround2 =>
          rintro k' hk' U ⟨h1, h2⟩ hrec
          obtain ⟨y, hy⟩ : ∃ y, y = (alongL back (insR B.g x))[k'] := ⟨_, rfl⟩
          rw [← hy]
          have HI2 := Lib.hid (And.intro h1 (And.intro h2 (And.intro hrec hy)))
          clear h1 h2 hrec hy
          gi_wp2
          refine ⟨Kep.refl _ _, fun rr2 => ?_⟩
          obtain ⟨U3, hU3⟩ : ∃ U3, U3 = U.putObj V6.heap.size (.loop rr2) := ⟨_, rfl⟩
          obtain ⟨h1, h2, ⟨r0, hrec⟩, hy⟩ := HI2.out
          obtain ⟨b6, t1, t2, d1, d2, d3, d4, d5, d6, d8, db, dor, hsz6, hs6⟩ := H6.out
          have k3 : Kep (fun b => b = s + 1 ∨ b = q1 ∨ b = g0 ∨ V6.heap.size + 1 ≤ b) V6 U3 := by
            rw [hU3]
            exact h1.put (.inl (Nat.le_refl _)) _
          have hU3s : V6.heap.size + 1 ≤ U3.heap.size := by
            rw [hU3]
            have := (Array.getElem?_eq_some_iff.1 hrec).1
            simp
            omega
          have h2' := h2.put (.loop rr2) hrec rfl
          rw [← hU3] at h2'
          obtain ⟨u, v, vs, j1, j2, j3, j4, j5, j6, j7, j8⟩ := h2'
          obtain ⟨gU, capU, exU, rfl, -, -, -⟩ := own_bx j2 j3
          have hlow := HW.out.2.2.2.2.2.2.2.2.2.2.2.1
          have hlen : (runB B.g n C x ((alongL back (insR B.g x)).take k') (F x)).length = n := by rw [runB_len]; exact H2.out.2.2.2.2.2.2.2.2.1
          obtain ⟨r0', cap1, ex0, hv, hr0⟩ := j6
          rw [hlen] at hv
          subst hv
          have a1 := d1.kep k3 (HN2.out _ (by simp))
          have a2 := d2.kep k3 (HN2.out _ (by simp))
          have a3 := d3.kep k3 (HN2.out _ (by simp))
          have a5 := d5.kep k3 (HN2.out _ (by have := hlow.1; right; right; right; right; right; right; exact this))
          have a6 : ChAt U3 base m (rlF B.g n C) l rv := d6.keep k3 (fun b hb => by
            rcases hb with h | h | h | h
            · exact .inr ⟨_, _, h ▸ db, by decide⟩
            · exact .inr ⟨_, _, h ▸ d4, by decide⟩
            · obtain ⟨gg, cc, xx, he, -, hx9, -⟩ := own_bx dor (fun e => by cases e)
              simp only [Value.slice.injEq, Option.some.injEq, Addr.mk.injEq, and_true] at he
              exact .inr ⟨_, _, (h.trans he.1) ▸ hx9, by decide⟩
            · exact .inl (by omega))
          have hgU := j4 gU rfl
          have HCL := Lib.hid (clone_any r0' cap1 ex0 _ n U3 hlen.symm hr0 hn)
          have y4 := j5.cell 0
          have y5 := j5.frozen 0
          simp at y4
          have HU := Lib.hid (And.intro k3 (And.intro hU3s (And.intro j1 (And.intro j2 (And.intro j5 (And.intro hr0 (And.intro j7 (And.intro j8 (And.intro a1 (And.intro a2 (And.intro a3 (And.intro a5 (And.intro a6 (And.intro hgU hy))))))))))))))
          have hU3q : q1 < U3.heap.size := j5.lt
          rw [← hU3]
          clear h1 h2 hrec hy b6 t1 t2 d1 d2 d3 d4 d5 d6 d8 db dor hsz6 hs6 k3 hU3s hU3 j1 j2 j3 j4 j5 hr0 j7 j8 a1 a2 a3 a5 a6 hgU
          have hfn : ∀ f, (Fence.wide).fn f = True := fun _ => rfl
          have hdp : (Fence.wide).depth = none := rfl
          have hfn1 : ∀ f, (WR V6.heap.size).fn f = True := fun _ => rfl
          have hdp1 : (WR V6.heap.size).depth = none := rfl
          gi_wp2_with (gi_at_call 51; refine (CallsIn.inRound _ (callsIn_wide.2 HCL.out)).mono ?_; rintro e w8 ⟨r', cap', ex', rfl, h81, h82, h83⟩; have q8 := HU.out.2.2.2.2.1.below h82 hU3q; have c8 := q8.cell 0; have f8 := q8.frozen 0; simp at c8; have H8 := Lib.hid (And.intro h81 (And.intro h82 (And.intro h83 q8))); clear h81 h82 h83 q8 HCL y4 y5)
          clear hfn hdp hfn1 hdp1 c8 f8
          obtain ⟨U8, hU8⟩ : ∃ U8, U8 = w8.setCell ⟨q1, 0, none⟩ (.slice (some ⟨r', 0, none⟩) n cap') := ⟨_, rfl⟩
          rw [← hU8]
          obtain ⟨k3, hU3s, j1, j2, j5, hr0, j7, j8, a1, a2, a3, a5, a6, hgU, hy⟩ := HU.out
          obtain ⟨h81, h82, h83, q8⟩ := H8.out
          obtain ⟨n1, n2, n3, n4, n5, n6, n7⟩ := HQN.out
          have k38 : Kep (fun b => b = q1) U3 U8 := by
            rw [hU8]
            exact Kep.setCell (M := fun b => b = q1) (p := ⟨q1, 0, none⟩) (Kep.of_below h82) (.inr rfl) _
          have hr8 : Bx U8 r' 4 (bC (runB B.g n C x ((alongL back (insR B.g x)).take k') (F x)) ++ ex') := by
            rw [hU8]
            exact h83.far (by show q1 ≠ r'; omega) _
          have hq8 : Bx U8 q1 26 [.slice (some ⟨r', 0, none⟩) n cap'] := by
            rw [hU8]
            exact q8.set 0 _
          have hlow := HW.out.2.2.2.2.2.2.2.2.2.2.2.1
          have c1 := (a1.kep k38 (by omega)).cell 0
          have c2 := (a5.kep k38 (by have := hlow.1; omega)).cell 0
          have c3 := (a3.kep k38 (by omega)).cell 0
          have c4 := hq8.cell 0
          simp [flC] at c1 c2 c3 c4
          have hS9 : U8.cell? ⟨s, 0, none⟩ = some (.pointer (some ⟨f, 0, none⟩)) ∧ U8.cell? ⟨f, 0, none⟩ = some (.map (some m)) ∧ U8.cell? ⟨q0, 0, none⟩ = some (.int .i64 (x : Int)) ∧ U8.cell? ⟨q1, 0, none⟩ = some (.slice (some ⟨r', 0, none⟩) n cap') := ⟨c1, c2, c3, c4⟩
          have ch8 : ChAt U8 base m (rlF B.g n C) l rv := a6.keep k38 (fun b hb => .inr ⟨_, _, hb ▸ j5, by decide⟩)
          have H9 := Lib.hid (ChAt.happenX (W := U8.drew) (w := w) (ch8.below (Below.refl _ U8).drew) HA.out.2.2.1 hn x y r' cap' ex' _ hlen hr8)
          have HU8 := Lib.hid (And.intro k38 (And.intro hr8 (And.intro hq8 h81)))
          clear k3 hU3s j1 j2 j5 hr0 j7 j8 a1 a2 a3 a5 a6 hgU hy h81 h82 h83 q8 n1 n2 n3 n4 n5 n6 n7 k38 hr8 hq8 hlow c1 c2 c3 c4 ch8 hU8
          refine wpIn_region_held_in (S := (fun w' => w'.cell? ⟨s, 0, none⟩ = some (.pointer (some ⟨f, 0, none⟩)) ∧ w'.cell? ⟨f, 0, none⟩ = some (.map (some m)) ∧ w'.cell? ⟨q0, 0, none⟩ = some (.int .i64 (x : Int)) ∧ w'.cell? ⟨q1, 0, none⟩ = some (.slice (some ⟨r', 0, none⟩) n cap'))) (by kernel_rfl) (by kernel_rfl) (fun ⟨_, _, h⟩ => h) ?_ (fun hHeld => ?_)
          · exact hS9
          refine wpAnyH_take (i := 0) (oi := { dst := some 40, op := Op.load 73 (Operand.tmp 1), type := 73, pos := "flow.go:155", after := #[], guard := none }) (v := ?vq0_15) rfl (by kernel_rfl) (by kernel_rfl) (by kernel_rfl) (fun _ _ _ h => h) (Or.inl ⟨by rfl, ?hq0_15⟩) (by assumption) ?_
          case hq0_15 => intro w hSw; (try dsimp only at hSw); go_simp; try (with_reducible rfl)
          (try simp only [Act.put, List.setIfInBounds_toArray, List.set_cons_zero, List.set_cons_succ])
          refine wpAnyH_take (i := 1) (oi := { dst := some 41, op := Op.nilCheck (Operand.tmp 40), type := 0, pos := "flow.go:155", after := #[{ on := 0, ground := Ground.data }], guard := none }) (v := ?vq1_16) rfl (by kernel_rfl) (by kernel_rfl) (by kernel_rfl) (fun _ _ _ h => h) (Or.inl ⟨by rfl, ?hq1_16⟩) (by assumption) ?_
          case hq1_16 => intro w hSw; (try dsimp only at hSw); go_simp; try (with_reducible rfl)
          (try simp only [Act.put, List.setIfInBounds_toArray, List.set_cons_zero, List.set_cons_succ])
          refine wpAnyH_take (i := 2) (oi := { dst := some 42, op := Op.fieldAddr 79 (Operand.tmp 41) 0, type := 0, pos := "flow.go:155", after := #[{ on := 1, ground := Ground.data }], guard := none }) (v := ?vq2_17) rfl (by kernel_rfl) (by kernel_rfl) (by kernel_rfl) (fun _ _ _ h => h) (Or.inl ⟨by rfl, ?hq2_17⟩) (by assumption) ?_
          case hq2_17 => intro w hSw; (try dsimp only at hSw); go_simp; try (with_reducible rfl)
          (try simp only [Act.put, List.setIfInBounds_toArray, List.set_cons_zero, List.set_cons_succ])
          refine wpAnyH_take (i := 3) (oi := { dst := some 43, op := Op.load 77 (Operand.tmp 42), type := 77, pos := "flow.go:155", after := #[{ on := 2, ground := Ground.data }], guard := none }) (v := ?vq3_18) rfl (by kernel_rfl) (by kernel_rfl) (by kernel_rfl) (fun _ _ _ h => h) (Or.inl ⟨by rfl, ?hq3_18⟩) (by assumption) ?_
          case hq3_18 => intro w hSw; (try dsimp only at hSw); go_simp; try (with_reducible rfl)
          (try simp only [Act.put, List.setIfInBounds_toArray, List.set_cons_zero, List.set_cons_succ])
          refine wpAnyH_take (i := 4) (oi := { dst := some 44, op := Op.load 3 (Operand.tmp 4), type := 3, pos := "flow.go:155", after := #[], guard := none }) (v := ?vq4_19) rfl (by kernel_rfl) (by kernel_rfl) (by kernel_rfl) (fun _ _ _ h => h) (Or.inl ⟨by rfl, ?hq4_19⟩) (by assumption) ?_
          case hq4_19 => intro w hSw; (try dsimp only at hSw); go_simp; try (with_reducible rfl)
          (try simp only [Act.put, List.setIfInBounds_toArray, List.set_cons_zero, List.set_cons_succ])
          refine wpAnyH_take (i := 5) (oi := { dst := some 45, op := Op.move (Operand.tmp 6), type := 3, pos := "flow.go:155", after := #[], guard := none }) (v := ?vq5_20) rfl (by kernel_rfl) (by kernel_rfl) (by kernel_rfl) (fun _ _ _ h => h) (Or.inl ⟨by rfl, ?hq5_20⟩) (by assumption) ?_
          case hq5_20 => intro w hSw; (try dsimp only at hSw); go_simp; try (with_reducible rfl)
          (try simp only [Act.put, List.setIfInBounds_toArray, List.set_cons_zero, List.set_cons_succ])
          refine wpAnyH_take (i := 6) (oi := { dst := some 46, op := Op.build 100 #[(0, Operand.tmp 44), (1, Operand.tmp 45)], type := 100, pos := "flow.go:155", after := #[{ on := 4, ground := Ground.data }, { on := 5, ground := Ground.data }], guard := none }) (v := ?vq6_21) rfl (by kernel_rfl) (by kernel_rfl) (by kernel_rfl) (fun _ _ _ h => h) (Or.inl ⟨by rfl, ?hq6_21⟩) (by assumption) ?_
          case hq6_21 => intro w hSw; (try dsimp only at hSw); go_simp; try (with_reducible rfl)
          (try simp only [Act.put, List.setIfInBounds_toArray, List.set_cons_zero, List.set_cons_succ])
          refine wpAnyH_take (i := 7) (oi := { dst := some 47, op := Op.load 26 (Operand.tmp 5), type := 26, pos := "flow.go:155", after := #[], guard := none }) (v := ?vq7_22) rfl (by kernel_rfl) (by kernel_rfl) (by kernel_rfl) (fun _ _ _ h => h) (Or.inl ⟨by rfl, ?hq7_22⟩) (by assumption) ?_
          case hq7_22 => intro w hSw; (try dsimp only at hSw); go_simp; try (with_reducible rfl)
          (try simp only [Act.put, List.setIfInBounds_toArray, List.set_cons_zero, List.set_cons_succ])
          refine wpAnyH_ready (rs := [8]) (by kernel_rfl) (by simp) ?_
          refine AllReadyH.cons (o := { dst := some 48, op := Op.call { callee := Callee.value (Operand.func 46), args := #[Operand.tmp 43, Operand.tmp 46, Operand.tmp 47], argTypes := #[77, 100, 26] }, type := 0, pos := "flow.go:155", after := #[{ on := 3, ground := Ground.data }, { on := 6, ground := Ground.data }, { on := 7, ground := Ground.data }], guard := none }) rfl (fun K hK => ?_) AllReadyH.nil
          go_simp
          refine H9.out.mono ?_
          clear H9
          rintro e U9 ⟨⟨u48, rfl⟩, hk9, hb9⟩
          have hS9' : U9.cell? ⟨s, 0, none⟩ = some (.pointer (some ⟨f, 0, none⟩)) ∧ U9.cell? ⟨f, 0, none⟩ = some (.map (some m)) ∧ U9.cell? ⟨q0, 0, none⟩ = some (.int .i64 (x : Int)) ∧ U9.cell? ⟨q1, 0, none⟩ = some (.slice (some ⟨r', 0, none⟩) n cap') := by
            obtain ⟨k38, hr8, hq8, h81⟩ := HU8.out
            obtain ⟨k3, hU3s, j1, j2, j5, hr0, j7, j8, a1, a2, a3, a5, a6, hgU, hy⟩ := HU.out
            obtain ⟨n1, n2, n3, n4, n5, n6, n7⟩ := HQN.out
            have hlow := HW.out.2.2.2.2.2.2.2.2.2.2.2.1
            have hk9' : Kep (fun k => k = r') U8 U9 := (Kep.refl _ U8).drew.trans hk9
            have l1 := a1.lt
            have l3 := a3.lt
            have l5 := a5.lt
            exact ⟨by simpa using ((a1.kep k38 (by omega)).kep hk9' (by omega)).cell 0, by simpa [flC] using ((a5.kep k38 (by have := hlow.1; omega)).kep hk9' (by omega)).cell 0, by simpa using ((a3.kep k38 (by omega)).kep hk9' (by omega)).cell 0, by simpa using (hq8.kep hk9' (by omega)).cell 0⟩
          refine hK.out _ _ hS9' (fun hHeld => ?_)
          clear hK K hS9' hS9
          (try simp only [Act.put, List.setIfInBounds_toArray, List.set_cons_zero, List.set_cons_succ])
          refine wpAnyH_done (by kernel_rfl) ?_ _
          have hk9' : Kep (fun k => k = r') U8 U9 := (Kep.refl _ U8).drew.trans hk9
          have HU9 := Lib.hid (And.intro hk9' hb9)
          clear hk9 hk9' hb9
          gi_wp2
          obtain ⟨ua10, hua10⟩ : ∃ ua10, ua10 = U9.heap.size := ⟨_, rfl⟩
          have HUA10 := Lib.hid hua10
          clear hua10
          have hk1 : k' ≤ 1000 := by
            have h := hk'
            simp [alongL] at h
            omega
          have HK39 : Go.RowKit.Hid (Kep (fun b => b = q1) U3 U9 ∧ (V6.heap.size + 1 ≤ U3.heap.size) ∧ U3.heap.size ≤ r' ∧ gU < U3.heap.size ∧ gU ≠ q1 ∧ gU ≠ s + 1 ∧ V1.heap.size ≤ U9.heap.size ∧ s + 1 ≠ q0 ∧ s + 1 ≠ q1) := Lib.hid (by
            obtain ⟨k38, hr8, hq8, h81⟩ := HU8.out
            obtain ⟨k3, hU3s, j1, j2, j5, hr0, j7, j8, a1, a2, a3, a5, a6, hgU, hy⟩ := HU.out
            obtain ⟨n1, n2, n3, n4, n5, n6, n7⟩ := HQN.out
            have k39 : Kep (fun b => b = q1) U3 U9 := k38.sub HU9.out.1 (fun i hi => .inl (by omega))
            have h6 := H6.out.2.2.2.2.2.2.2.2.2.2.2.2
            have h7 := k39.size
            refine ⟨k39, hU3s, h81, (own_lt j2 rfl).1, by omega, by omega, by omega, by omega, by omega⟩)
          have hxus : x < us.length := by
            have h := HV.out.2.2.2.2.2.1
            exact (List.getElem?_eq_some_iff.1 h).1
          have hx10 : (us.set x (.slice (some ⟨gU, 0, none⟩) (k' + 1) capU))[x]? = some (.slice (some ⟨gU, 0, none⟩) (k' + 1) capU) := by
            rw [List.getElem?_set, if_pos rfl, if_pos hxus]
          have HP10 : Go.RowKit.Hid (Bx U9 (s + 1 + 1) 31 [.slice (some ⟨s + 1, 0, none⟩) c.length c.length] ∧ Bx U9 q0 3 [.int .i64 (x : Int)] ∧ Bx U9 q1 26 [.slice (some ⟨r', 0, none⟩) n cap'] ∧ Bx U9 (s + 1) 44 (us.set x (.slice (some ⟨gU, 0, none⟩) (k' + 1) capU)) ∧ U9.ownsRow V1.heap.size 26 1 (.slice (some ⟨gU, 0, none⟩) (k' + 1) capU) (k' + 1) vs ∧ (V1.heap.size ≤ U9.heap.size ∧ s + 1 ≠ q0 ∧ s + 1 ≠ q1) ∧ ¬ (Value.slice (some ⟨gU, 0, none⟩) (k' + 1) capU).ownBlock = some q1) := Lib.hid (by
            obtain ⟨k38, hr8, hq8, h81⟩ := HU8.out
            obtain ⟨k3, hU3s, j1, j2, j5, hr0, j7, j8, a1, a2, a3, a5, a6, hgU, hy⟩ := HU.out
            obtain ⟨k39, m1, m2, m3, m4, m5, m6, m7, m8⟩ := HK39.out
            obtain ⟨n1, n2, n3, n4, n5, n6, n7⟩ := HQN.out
            have l2 := j5.lt
            refine ⟨a2.kep k39 (by omega), a3.kep k39 (by omega), hq8.kep HU9.out.1 (by omega), j1.kep k39 (by omega), own_kep j2 k39 (fun g hg => ?_), ⟨m6, m7, m8⟩, fun h => ?_⟩
            · simp only [Value.ownBlock, Option.some.injEq] at hg
              omega
            · simp only [Value.ownBlock, Option.some.injEq] at h
              omega)
          refine wpIn_mono (Q := AppQ (fun gA capA => { tmps := #[.pointer (some ⟨f, 0, none⟩), .pointer (some ⟨s, 0, none⟩), .slice none 0 0, .pointer (some ⟨s + 1 + 1, 0, none⟩), .pointer (some ⟨q0, 0, none⟩), .pointer (some ⟨q1, 0, none⟩), .int .i64 (y : Int), .pointer (some ⟨f, 0, none⟩), .pointer (some ⟨f, 0, none⟩), .pointer (some ⟨f, 1, none⟩), .pointer (some ⟨f, 4, none⟩), .slice B.oa c.length B.cap, .int .i64 (c.length : Int), .slice (some ⟨s + 1, 0, none⟩) c.length c.length, .pointer (some ⟨f, 0, none⟩), .func (.func 59) #[] #[.pointer (some ⟨s + 1 + 1 + 1, 0, none⟩)], .int .i64 (x : Int), .pointer (some ⟨f, 0, none⟩), .pointer (some ⟨f, 0, none⟩), .pointer (some ⟨f, 8, none⟩), .slice (some ⟨bf, 0, none⟩) c.length c.length, .int .i64 (x : Int), .pointer (some ⟨bf, x, none⟩), .slice (some ⟨R x, 0, none⟩) n n, .slice (some ⟨s + 1, 0, none⟩) c.length c.length, .int .i64 (x : Int), .slice (some ⟨s + 1, 0, none⟩) c.length c.length, .int .i64 (x : Int), .pointer (some ⟨s + 1, x, none⟩), .slice none 0 0, .slice (some ⟨R x, 0, none⟩) n n, .slice (some ⟨ua5, 0, none⟩) 1 1, .slice (some ⟨g0, 0, none⟩) (0 + 1) cap0, .pointer (some ⟨s + 1, x, none⟩), .pointer (some ⟨f, 0, none⟩), .int .i64 (x : Int), .func (.func 60) #[] #[.pointer (some ⟨s6 + 1, 0, none⟩), .pointer (some ⟨s6, 0, none⟩)], .int .i64 (y : Int), .slice (some ⟨r0', 0, none⟩) n cap1, .slice (some ⟨r', 0, none⟩) n cap', .pointer (some ⟨f, 0, none⟩), .pointer (some ⟨f, 0, none⟩), .pointer (some ⟨f, 0, none⟩), .map (some m), .int .i64 (x : Int), .int .i64 (y : Int), .agg #[.int .i64 (x : Int), .int .i64 (y : Int)], .slice (some ⟨r', 0, none⟩) n cap', u48, .slice (some ⟨s + 1, 0, none⟩) c.length c.length, .int .i64 (x : Int), .slice (some ⟨s + 1, 0, none⟩) c.length c.length, .int .i64 (x : Int), .pointer (some ⟨s + 1, x, none⟩), .slice (some ⟨gU, 0, none⟩) (k' + 1) capU, .slice (some ⟨r', 0, none⟩) n cap', .slice (some ⟨ua10, 0, none⟩) 1 1, .slice (some ⟨gA, 0, none⟩) (k' + 1 + 1) capA, .pointer (some ⟨s + 1, x, none⟩), undef, undef, undef, undef, undef, undef, undef, undef, undef, undef], defers := [] }) U9 (s + 1) x (us.set x (.slice (some ⟨gU, 0, none⟩) (k' + 1) capU)) (.slice (some ⟨gU, 0, none⟩) (k' + 1) capU) (V1.heap.size) ((k' + 1)) (vs) (.slice (some ⟨r', 0, none⟩) n cap')) ?reg10 ?cont10
          case reg10 =>
            have hSU : U9.cell? ⟨s + 1 + 1, 0, none⟩ = some (.slice (some ⟨s + 1, 0, none⟩) c.length c.length) ∧ U9.cell? ⟨q0, 0, none⟩ = some (.int .i64 (x : Int)) ∧ U9.cell? ⟨q1, 0, none⟩ = some (.slice (some ⟨r', 0, none⟩) n cap') := by
              obtain ⟨hP1, hP2, hP3, hP4, hP5, hP6, hP7⟩ := HP10.out
              exact ⟨by simpa using hP1.cell 0, by simpa using hP2.cell 0, by simpa using hP3.cell 0⟩
            have cX := HP10.out.2.2.2.1.cell x
            rw [hx10] at cX
            refine wpIn_region_held_in (S := (fun w' => w'.cell? ⟨s + 1 + 1, 0, none⟩ = some (.slice (some ⟨s + 1, 0, none⟩) c.length c.length) ∧ w'.cell? ⟨q0, 0, none⟩ = some (.int .i64 (x : Int)) ∧ w'.cell? ⟨q1, 0, none⟩ = some (.slice (some ⟨r', 0, none⟩) n cap'))) (by kernel_rfl) (by kernel_rfl) (by rintro ⟨_, _, h⟩; exact h) ?_ (fun hHeld => ?_)
            · exact hSU
            obtain ⟨Ud, hUd⟩ : ∃ Ud, Ud = U9.drew := ⟨_, rfl⟩
            have hSd : Ud.cell? ⟨s + 1 + 1, 0, none⟩ = some (.slice (some ⟨s + 1, 0, none⟩) c.length c.length) ∧ Ud.cell? ⟨q0, 0, none⟩ = some (.int .i64 (x : Int)) ∧ Ud.cell? ⟨q1, 0, none⟩ = some (.slice (some ⟨r', 0, none⟩) n cap') := by rw [hUd]; exact hSU
            have cXd : Ud.cell? ⟨s + 1, x, none⟩ = some (.slice (some ⟨gU, 0, none⟩) (k' + 1) capU) := by rw [hUd]; exact cX
            have HUAD := Lib.hid (show Ud.heap.size = ua10 by rw [hUd, HUA10.out]; rfl)
            rw [← hUd]
            have HUD := Lib.hid hUd
            clear hSU cX hUd
            refine wpAnyH_take (i := 0) (oi := { dst := some 49, op := Op.load 31 (Operand.tmp 3), type := 31, pos := "flow.go:156", after := #[], guard := none }) (v := ?vq0_38) rfl (by kernel_rfl) (by kernel_rfl) (by kernel_rfl) (fun _ _ _ h => h) (Or.inl ⟨by rfl, ?hq0_38⟩) (by assumption) ?_
            case hq0_38 => intro w hSw; (try dsimp only at hSw); go_simp; try (with_reducible rfl)
            (try simp only [Act.put, List.setIfInBounds_toArray, List.set_cons_zero, List.set_cons_succ])
            refine wpAnyH_take (i := 1) (oi := { dst := some 50, op := Op.load 3 (Operand.tmp 4), type := 3, pos := "flow.go:156", after := #[], guard := none }) (v := ?vq1_39) rfl (by kernel_rfl) (by kernel_rfl) (by kernel_rfl) (fun _ _ _ h => h) (Or.inl ⟨by rfl, ?hq1_39⟩) (by assumption) ?_
            case hq1_39 => intro w hSw; (try dsimp only at hSw); go_simp; try (with_reducible rfl)
            (try simp only [Act.put, List.setIfInBounds_toArray, List.set_cons_zero, List.set_cons_succ])
            refine wpAnyH_take (i := 2) (oi := { dst := some 51, op := Op.load 31 (Operand.tmp 3), type := 31, pos := "flow.go:156", after := #[], guard := none }) (v := ?vq2_40) rfl (by kernel_rfl) (by kernel_rfl) (by kernel_rfl) (fun _ _ _ h => h) (Or.inl ⟨by rfl, ?hq2_40⟩) (by assumption) ?_
            case hq2_40 => intro w hSw; (try dsimp only at hSw); go_simp; try (with_reducible rfl)
            (try simp only [Act.put, List.setIfInBounds_toArray, List.set_cons_zero, List.set_cons_succ])
            refine wpAnyH_take (i := 3) (oi := { dst := some 52, op := Op.load 3 (Operand.tmp 4), type := 3, pos := "flow.go:156", after := #[], guard := none }) (v := ?vq3_41) rfl (by kernel_rfl) (by kernel_rfl) (by kernel_rfl) (fun _ _ _ h => h) (Or.inl ⟨by rfl, ?hq3_41⟩) (by assumption) ?_
            case hq3_41 => intro w hSw; (try dsimp only at hSw); go_simp; try (with_reducible rfl)
            (try simp only [Act.put, List.setIfInBounds_toArray, List.set_cons_zero, List.set_cons_succ])
            refine wpAnyH_take (i := 4) (oi := { dst := some 53, op := Op.indexAddr 31 (Operand.tmp 51) (Operand.tmp 52), type := 0, pos := "flow.go:156", after := #[{ on := 2, ground := Ground.data }, { on := 3, ground := Ground.data }], guard := none }) (v := ?vq4_42) rfl (by kernel_rfl) (by kernel_rfl) (by kernel_rfl) (fun _ _ _ h => h) (Or.inl ⟨by rfl, ?hq4_42⟩) (by assumption) ?_
            case hq4_42 => intro w hSw; (try dsimp only at hSw); go_simp; try (with_reducible rfl)
            (try simp only [Act.put, List.setIfInBounds_toArray, List.set_cons_zero, List.set_cons_succ])
            refine wpAnyH_take (i := 6) (oi := { dst := some 55, op := Op.load 26 (Operand.tmp 5), type := 26, pos := "flow.go:156", after := #[], guard := none }) (v := ?vq6_43) rfl (by kernel_rfl) (by kernel_rfl) (by kernel_rfl) (fun _ _ _ h => h) (Or.inl ⟨by rfl, ?hq6_43⟩) (by assumption) ?_
            case hq6_43 => intro w hSw; (try dsimp only at hSw); go_simp; try (with_reducible rfl)
            (try simp only [Act.put, List.setIfInBounds_toArray, List.set_cons_zero, List.set_cons_succ])
            refine wpAnyH_ready (rs := [5, 7]) (by kernel_rfl) (by simp) ?_
            refine AllReadyH.cons (o := { dst := some 54, op := Op.load 44 (Operand.tmp 53), type := 44, pos := "flow.go:156", after := #[{ on := 4, ground := Ground.data }], guard := none }) rfl (fun K hK => ?_) ?_
            · go_simp
              refine hK.out _ _ hSd (fun hHeld => ?_)
              clear hK K
              (try simp only [Act.put, List.setIfInBounds_toArray, List.set_cons_zero, List.set_cons_succ])
              refine wpAnyH_ready (rs := [7]) (by kernel_rfl) (by simp) ?_
              refine AllReadyH.cons (o := { dst := some 56, op := Op.buildSlice 44 1 #[(0, Operand.tmp 55)], type := 44, pos := "flow.go:156", after := #[{ on := 6, ground := Ground.data }], guard := none }) rfl (fun K hK => ?_) AllReadyH.nil
              go_simp
              obtain ⟨Wa, hWa⟩ : ∃ Wa, Wa = Ud.alloc (.cells #[.slice (some ⟨r', 0, none⟩) n cap'] 26) := ⟨_, rfl⟩
              rw [← hWa, HUAD.out]
              have hSa : Wa.cell? ⟨s + 1 + 1, 0, none⟩ = some (.slice (some ⟨s + 1, 0, none⟩) c.length c.length) ∧ Wa.cell? ⟨q0, 0, none⟩ = some (.int .i64 (x : Int)) ∧ Wa.cell? ⟨q1, 0, none⟩ = some (.slice (some ⟨r', 0, none⟩) n cap') := by
                rw [hWa]
                exact ⟨cellA _ hSd.1, cellA _ hSd.2.1, cellA _ hSd.2.2⟩
              have cXa : Wa.cell? ⟨s + 1, x, none⟩ = some (.slice (some ⟨gU, 0, none⟩) (k' + 1) capU) := by rw [hWa]; exact cellA _ cXd
              have HWA := Lib.hid hWa
              clear hWa
              refine hK.out _ _ hSa (fun hHeld => ?_)
              clear hK K
              (try simp only [Act.put, List.setIfInBounds_toArray, List.set_cons_zero, List.set_cons_succ])
              refine wpAnyH_ready (rs := [8]) (by kernel_rfl) (by simp) ?_
              refine AllReadyH.cons (o := { dst := some 57, op := Op.call { callee := Callee.builtin Builtin.append, args := #[Operand.tmp 54, Operand.tmp 56], argTypes := #[44, 44] }, type := 44, pos := "flow.go:156", after := #[{ on := 5, ground := Ground.data }, { on := 7, ground := Ground.data }], guard := none }) rfl (fun K hK => ?_) AllReadyH.nil
              refine op_append_own_at (.tmp 54) (.tmp 56) 44 rfl (V1.heap.size) 26 i3 _ 1 24 Try.underlying44 HI3.out.1 HI3.out.2.1 HI3.out.2.2.1 HI3.out.2.2.2 rfl (by decide) (.slice (some ⟨gU, 0, none⟩) (k' + 1) capU) ((k' + 1)) (vs) rfl (by rw [HWA.out, HUD.out]; exact (show World.ownsRow _ _ _ _ _ _ _ from HP10.out.2.2.2.2.1).alloc _) ⟨ua10, 0, none⟩ 1 1 [.slice (some ⟨r', 0, none⟩) n cap'] rfl rfl (by rw [HWA.out, ← HUAD.out]; exact new_cells _ [.slice (some ⟨r', 0, none⟩) n cap'] _) (fun u hu => by simp at hu; subst hu; rfl) (by unfold maxLen; omega) (by omega) ?hbs ?_
              case hbs => rw [HWA.out, HUD.out]; have h7 := HP10.out.2.2.2.2.2.1.1; simp <;> omega
              intro v' w5 hown hg hnil hat
              have hnn : v' ≠ .slice none 0 0 := fun e => by
                have := (hnil.1 e).2
                omega
              obtain ⟨gA, capA, exA, rfl, -, -, -⟩ := own_bx hown hnn
              have H5 : Go.RowKit.Hid (w5.ownsRow (V1.heap.size) 26 1 (.slice (some ⟨gA, 0, none⟩) ((k' + 1) + 1) capA) ((k' + 1) + 1) (vs ++ [.slice (some ⟨r', 0, none⟩) n cap']) ∧ Kep (fun b => (.slice (some ⟨gU, 0, none⟩) (k' + 1) capU : Value).ownBlock = some b) U9 w5 ∧ ((.slice (some ⟨gU, 0, none⟩) (k' + 1) capU : Value).ownBlock = some gA ∨ U9.heap.size ≤ gA)) := Lib.hid (by
                have hk : Kep (fun b => (.slice (some ⟨gU, 0, none⟩) (k' + 1) capU : Value).ownBlock = some b) U9 Wa := by
                  rw [HWA.out, HUD.out]
                  exact (Kep.refl _ _).drew.alloc _
                refine ⟨hown, hk.grown hg (fun q hq => .inr hq), ?_⟩
                rcases hat with h | h
                · exact .inl h.symm
                · right
                  have h9 := hk.size
                  simp only [Value.ownBlock, Option.some.injEq] at h
                  omega)
              clear hown hg hnil hat hnn
              have hS5 : w5.cell? ⟨s + 1 + 1, 0, none⟩ = some (.slice (some ⟨s + 1, 0, none⟩) c.length c.length) ∧ w5.cell? ⟨q0, 0, none⟩ = some (.int .i64 (x : Int)) ∧ w5.cell? ⟨q1, 0, none⟩ = some (.slice (some ⟨r', 0, none⟩) n cap') := by
                obtain ⟨hP1, hP2, hP3, hP4, hP5, hP6, hP7⟩ := HP10.out
                have hk := H5.out.2.1
                exact ⟨by simpa using (hP1.kep hk (fun h => own_ne hP5 hP1 (fun cs fr e => by cases e) h)).cell 0, by simpa using (hP2.kep hk (fun h => own_ne hP5 hP2 (fun cs fr e => by cases e) h)).cell 0, by simpa using (hP3.kep hk (fun h => hP7 h)).cell 0⟩
              have hX5 : Bx w5 (s + 1) 44 (us.set x (.slice (some ⟨gU, 0, none⟩) (k' + 1) capU)) := by
                obtain ⟨hP1, hP2, hP3, hP4, hP5, hP6, hP7⟩ := HP10.out
                exact hP4.kep H5.out.2.1 (fun h => own_ne hP5 hP4 (fun cs fr e => by cases e) h)
              have c6 := hX5.cell x
              rw [hx10] at c6
              have f6 := hX5.frozen x
              have HX5 := Lib.hid hX5
              clear hX5
              refine hK.out _ _ hS5 (fun hHeld => ?_)
              clear hK K
              (try simp only [Act.put, List.setIfInBounds_toArray, List.set_cons_zero, List.set_cons_succ])
              refine wpAnyH_take (i := 9) (oi := { dst := some 58, op := Op.indexAddr 31 (Operand.tmp 49) (Operand.tmp 50), type := 0, pos := "flow.go:156", after := #[{ on := 0, ground := Ground.data }, { on := 1, ground := Ground.data }, { on := 0, ground := Ground.phase }, { on := 1, ground := Ground.phase }, { on := 2, ground := Ground.phase }, { on := 3, ground := Ground.phase }, { on := 4, ground := Ground.phase }, { on := 5, ground := Ground.phase }, { on := 6, ground := Ground.phase }, { on := 7, ground := Ground.phase }, { on := 8, ground := Ground.phase }], guard := none }) (v := ?vq9_44) rfl (by kernel_rfl) (by kernel_rfl) (by kernel_rfl) (fun _ _ _ h => h) (Or.inl ⟨by rfl, ?hq9_44⟩) (by assumption) ?_
              case hq9_44 => intro w hSw; (try dsimp only at hSw); go_simp; try (with_reducible rfl)
              (try simp only [Act.put, List.setIfInBounds_toArray, List.set_cons_zero, List.set_cons_succ])
              refine wpAnyH_ready (rs := [10]) (by kernel_rfl) (by simp) ?_
              refine AllReadyH.cons (o := { dst := none, op := Op.store 44 (Operand.tmp 58) (Operand.tmp 57), type := 0, pos := "flow.go:156", after := #[{ on := 9, ground := Ground.data }, { on := 8, ground := Ground.data }, { on := 8, ground := Ground.chain }, { on := 0, ground := Ground.phase }, { on := 1, ground := Ground.phase }, { on := 2, ground := Ground.phase }, { on := 3, ground := Ground.phase }, { on := 4, ground := Ground.phase }, { on := 5, ground := Ground.phase }, { on := 6, ground := Ground.phase }, { on := 7, ground := Ground.phase }, { on := 8, ground := Ground.phase }], guard := none }) rfl (fun K hK => ?_) AllReadyH.nil
              go_simp
              obtain ⟨Uf, hUf⟩ : ∃ Uf, Uf = w5.setCell ⟨s + 1, x, none⟩ (.slice (some ⟨gA, 0, none⟩) ((k' + 1) + 1) capA) := ⟨_, rfl⟩
              rw [← hUf]
              have hSf : Uf.cell? ⟨s + 1 + 1, 0, none⟩ = some (.slice (some ⟨s + 1, 0, none⟩) c.length c.length) ∧ Uf.cell? ⟨q0, 0, none⟩ = some (.int .i64 (x : Int)) ∧ Uf.cell? ⟨q1, 0, none⟩ = some (.slice (some ⟨r', 0, none⟩) n cap') := by
                rw [hUf]
                have hP6 := HP10.out.2.2.2.2.2.1
                exact ⟨(World.cell?_setCell_far _ _ _ _ (by show (s + 1 : Nat) ≠ s + 1 + 1; omega)).trans hS5.1, (World.cell?_setCell_far _ _ _ _ (by exact hP6.2.1)).trans hS5.2.1, (World.cell?_setCell_far _ _ _ _ (by exact hP6.2.2)).trans hS5.2.2⟩
              refine hK.out _ _ hSf (fun hHeld => ?_)
              clear hK K
              (try simp only [Act.put, List.setIfInBounds_toArray, List.set_cons_zero, List.set_cons_succ])
              refine wpAnyH_done (by kernel_rfl) ?_ _
              obtain ⟨h1, h2, h3⟩ := H5.out
              have hk : Kep (fun b => b = s + 1) w5 Uf := by
                rw [hUf]
                exact Kep.setCell (M := fun b => b = s + 1) (p := ⟨s + 1, x, none⟩) (Kep.refl _ w5) (.inr rfl) _
              exact ⟨gA, capA, rfl, (h2.mono (fun _ _ h => .inr h)).trans (hk.mono (fun _ _ h => .inl h)), by rw [hUf]; exact HX5.out.set x _, own_kep h1 hk (fun g hg e => by
                  subst e
                  exact own_ne h1 HX5.out (fun cs fr e => by cases e) hg), h3⟩
            refine AllReadyH.cons (o := { dst := some 56, op := Op.buildSlice 44 1 #[(0, Operand.tmp 55)], type := 44, pos := "flow.go:156", after := #[{ on := 6, ground := Ground.data }], guard := none }) rfl (fun K hK => ?_) AllReadyH.nil
            go_simp
            obtain ⟨Wa, hWa⟩ : ∃ Wa, Wa = Ud.alloc (.cells #[.slice (some ⟨r', 0, none⟩) n cap'] 26) := ⟨_, rfl⟩
            rw [← hWa, HUAD.out]
            have hSa : Wa.cell? ⟨s + 1 + 1, 0, none⟩ = some (.slice (some ⟨s + 1, 0, none⟩) c.length c.length) ∧ Wa.cell? ⟨q0, 0, none⟩ = some (.int .i64 (x : Int)) ∧ Wa.cell? ⟨q1, 0, none⟩ = some (.slice (some ⟨r', 0, none⟩) n cap') := by
              rw [hWa]
              exact ⟨cellA _ hSd.1, cellA _ hSd.2.1, cellA _ hSd.2.2⟩
            have cXa : Wa.cell? ⟨s + 1, x, none⟩ = some (.slice (some ⟨gU, 0, none⟩) (k' + 1) capU) := by rw [hWa]; exact cellA _ cXd
            have HWA := Lib.hid hWa
            clear hWa
            refine hK.out _ _ hSa (fun hHeld => ?_)
            clear hK K
            (try simp only [Act.put, List.setIfInBounds_toArray, List.set_cons_zero, List.set_cons_succ])
            refine wpAnyH_ready (rs := [5]) (by kernel_rfl) (by simp) ?_
            refine AllReadyH.cons (o := { dst := some 54, op := Op.load 44 (Operand.tmp 53), type := 44, pos := "flow.go:156", after := #[{ on := 4, ground := Ground.data }], guard := none }) rfl (fun K hK => ?_) AllReadyH.nil
            go_simp
            refine hK.out _ _ hSa (fun hHeld => ?_)
            clear hK K
            (try simp only [Act.put, List.setIfInBounds_toArray, List.set_cons_zero, List.set_cons_succ])
            refine wpAnyH_ready (rs := [8]) (by kernel_rfl) (by simp) ?_
            refine AllReadyH.cons (o := { dst := some 57, op := Op.call { callee := Callee.builtin Builtin.append, args := #[Operand.tmp 54, Operand.tmp 56], argTypes := #[44, 44] }, type := 44, pos := "flow.go:156", after := #[{ on := 5, ground := Ground.data }, { on := 7, ground := Ground.data }], guard := none }) rfl (fun K hK => ?_) AllReadyH.nil
            refine op_append_own_at (.tmp 54) (.tmp 56) 44 rfl (V1.heap.size) 26 i3 _ 1 24 Try.underlying44 HI3.out.1 HI3.out.2.1 HI3.out.2.2.1 HI3.out.2.2.2 rfl (by decide) (.slice (some ⟨gU, 0, none⟩) (k' + 1) capU) ((k' + 1)) (vs) rfl (by rw [HWA.out, HUD.out]; exact (show World.ownsRow _ _ _ _ _ _ _ from HP10.out.2.2.2.2.1).alloc _) ⟨ua10, 0, none⟩ 1 1 [.slice (some ⟨r', 0, none⟩) n cap'] rfl rfl (by rw [HWA.out, ← HUAD.out]; exact new_cells _ [.slice (some ⟨r', 0, none⟩) n cap'] _) (fun u hu => by simp at hu; subst hu; rfl) (by unfold maxLen; omega) (by omega) ?hbs ?_
            case hbs => rw [HWA.out, HUD.out]; have h7 := HP10.out.2.2.2.2.2.1.1; simp <;> omega
            intro v' w5 hown hg hnil hat
            have hnn : v' ≠ .slice none 0 0 := fun e => by
              have := (hnil.1 e).2
              omega
            obtain ⟨gA, capA, exA, rfl, -, -, -⟩ := own_bx hown hnn
            have H5 : Go.RowKit.Hid (w5.ownsRow (V1.heap.size) 26 1 (.slice (some ⟨gA, 0, none⟩) ((k' + 1) + 1) capA) ((k' + 1) + 1) (vs ++ [.slice (some ⟨r', 0, none⟩) n cap']) ∧ Kep (fun b => (.slice (some ⟨gU, 0, none⟩) (k' + 1) capU : Value).ownBlock = some b) U9 w5 ∧ ((.slice (some ⟨gU, 0, none⟩) (k' + 1) capU : Value).ownBlock = some gA ∨ U9.heap.size ≤ gA)) := Lib.hid (by
              have hk : Kep (fun b => (.slice (some ⟨gU, 0, none⟩) (k' + 1) capU : Value).ownBlock = some b) U9 Wa := by
                rw [HWA.out, HUD.out]
                exact (Kep.refl _ _).drew.alloc _
              refine ⟨hown, hk.grown hg (fun q hq => .inr hq), ?_⟩
              rcases hat with h | h
              · exact .inl h.symm
              · right
                have h9 := hk.size
                simp only [Value.ownBlock, Option.some.injEq] at h
                omega)
            clear hown hg hnil hat hnn
            have hS5 : w5.cell? ⟨s + 1 + 1, 0, none⟩ = some (.slice (some ⟨s + 1, 0, none⟩) c.length c.length) ∧ w5.cell? ⟨q0, 0, none⟩ = some (.int .i64 (x : Int)) ∧ w5.cell? ⟨q1, 0, none⟩ = some (.slice (some ⟨r', 0, none⟩) n cap') := by
              obtain ⟨hP1, hP2, hP3, hP4, hP5, hP6, hP7⟩ := HP10.out
              have hk := H5.out.2.1
              exact ⟨by simpa using (hP1.kep hk (fun h => own_ne hP5 hP1 (fun cs fr e => by cases e) h)).cell 0, by simpa using (hP2.kep hk (fun h => own_ne hP5 hP2 (fun cs fr e => by cases e) h)).cell 0, by simpa using (hP3.kep hk (fun h => hP7 h)).cell 0⟩
            have hX5 : Bx w5 (s + 1) 44 (us.set x (.slice (some ⟨gU, 0, none⟩) (k' + 1) capU)) := by
              obtain ⟨hP1, hP2, hP3, hP4, hP5, hP6, hP7⟩ := HP10.out
              exact hP4.kep H5.out.2.1 (fun h => own_ne hP5 hP4 (fun cs fr e => by cases e) h)
            have c6 := hX5.cell x
            rw [hx10] at c6
            have f6 := hX5.frozen x
            have HX5 := Lib.hid hX5
            clear hX5
            refine hK.out _ _ hS5 (fun hHeld => ?_)
            clear hK K
            (try simp only [Act.put, List.setIfInBounds_toArray, List.set_cons_zero, List.set_cons_succ])
            refine wpAnyH_take (i := 9) (oi := { dst := some 58, op := Op.indexAddr 31 (Operand.tmp 49) (Operand.tmp 50), type := 0, pos := "flow.go:156", after := #[{ on := 0, ground := Ground.data }, { on := 1, ground := Ground.data }, { on := 0, ground := Ground.phase }, { on := 1, ground := Ground.phase }, { on := 2, ground := Ground.phase }, { on := 3, ground := Ground.phase }, { on := 4, ground := Ground.phase }, { on := 5, ground := Ground.phase }, { on := 6, ground := Ground.phase }, { on := 7, ground := Ground.phase }, { on := 8, ground := Ground.phase }], guard := none }) (v := ?vq9_44) rfl (by kernel_rfl) (by kernel_rfl) (by kernel_rfl) (fun _ _ _ h => h) (Or.inl ⟨by rfl, ?hq9_44⟩) (by assumption) ?_
            case hq9_44 => intro w hSw; (try dsimp only at hSw); go_simp; try (with_reducible rfl)
            (try simp only [Act.put, List.setIfInBounds_toArray, List.set_cons_zero, List.set_cons_succ])
            refine wpAnyH_ready (rs := [10]) (by kernel_rfl) (by simp) ?_
            refine AllReadyH.cons (o := { dst := none, op := Op.store 44 (Operand.tmp 58) (Operand.tmp 57), type := 0, pos := "flow.go:156", after := #[{ on := 9, ground := Ground.data }, { on := 8, ground := Ground.data }, { on := 8, ground := Ground.chain }, { on := 0, ground := Ground.phase }, { on := 1, ground := Ground.phase }, { on := 2, ground := Ground.phase }, { on := 3, ground := Ground.phase }, { on := 4, ground := Ground.phase }, { on := 5, ground := Ground.phase }, { on := 6, ground := Ground.phase }, { on := 7, ground := Ground.phase }, { on := 8, ground := Ground.phase }], guard := none }) rfl (fun K hK => ?_) AllReadyH.nil
            go_simp
            obtain ⟨Uf, hUf⟩ : ∃ Uf, Uf = w5.setCell ⟨s + 1, x, none⟩ (.slice (some ⟨gA, 0, none⟩) ((k' + 1) + 1) capA) := ⟨_, rfl⟩
            rw [← hUf]
            have hSf : Uf.cell? ⟨s + 1 + 1, 0, none⟩ = some (.slice (some ⟨s + 1, 0, none⟩) c.length c.length) ∧ Uf.cell? ⟨q0, 0, none⟩ = some (.int .i64 (x : Int)) ∧ Uf.cell? ⟨q1, 0, none⟩ = some (.slice (some ⟨r', 0, none⟩) n cap') := by
              rw [hUf]
              have hP6 := HP10.out.2.2.2.2.2.1
              exact ⟨(World.cell?_setCell_far _ _ _ _ (by show (s + 1 : Nat) ≠ s + 1 + 1; omega)).trans hS5.1, (World.cell?_setCell_far _ _ _ _ (by exact hP6.2.1)).trans hS5.2.1, (World.cell?_setCell_far _ _ _ _ (by exact hP6.2.2)).trans hS5.2.2⟩
            refine hK.out _ _ hSf (fun hHeld => ?_)
            clear hK K
            (try simp only [Act.put, List.setIfInBounds_toArray, List.set_cons_zero, List.set_cons_succ])
            refine wpAnyH_done (by kernel_rfl) ?_ _
            obtain ⟨h1, h2, h3⟩ := H5.out
            have hk : Kep (fun b => b = s + 1) w5 Uf := by
              rw [hUf]
              exact Kep.setCell (M := fun b => b = s + 1) (p := ⟨s + 1, x, none⟩) (Kep.refl _ w5) (.inr rfl) _
            exact ⟨gA, capA, rfl, (h2.mono (fun _ _ h => .inr h)).trans (hk.mono (fun _ _ h => .inl h)), by rw [hUf]; exact HX5.out.set x _, own_kep h1 hk (fun g hg e => by
                subst e
                exact own_ne h1 HX5.out (fun cs fr e => by cases e) hg), h3⟩
          case cont10 =>
            intro e a' U10 hq
            cases e with
            | ret => exact hq.elim
            | exit id => exact hq.elim
            | goto t => exact hq.elim
            | panic ch => exact hq.elim
            | outgrown => exact hq.elim
            | normal =>
              obtain ⟨gA, capA, rfl, hkA, hbA, hoA, hgA⟩ := hq
              simp +zetaDelta only [Exit.inBlock, RoundQ]
              obtain ⟨k38, hr8, hq8, h81⟩ := HU8.out
              obtain ⟨k3, hU3s, j1, j2, j5, hr0, j7, j8, a1, a2, a3, a5, a6, hgU, hy⟩ := HU.out
              obtain ⟨k39, m1, m2, m3, m4, m5, m6, m7, m8⟩ := HK39.out
              obtain ⟨k89, hb9⟩ := HU9.out
              have P := HP10.out
              have l2 := j5.lt
              have hkA' : Kep (fun b => b = s + 1 ∨ b = gU) U9 U10 := hkA.mono (fun b _ h => h.imp_right (fun h => by
                simp only [Value.ownBlock, Option.some.injEq] at h
                exact h.symm))
              have hgA' : gU = gA ∨ U9.heap.size ≤ gA := hgA.imp_left (fun h => by
                simp only [Value.ownBlock, Option.some.injEq] at h
                exact h)
              have kM : Kep (fun b => b = s + 1 ∨ b = q1 ∨ b = g0 ∨ V6.heap.size + 1 ≤ b) U3 U10 := (k39.mono (fun b _ h => .inr (.inl h))).trans (hkA'.mono (fun b _ h => h.elim .inl (fun h => .inr (.inr (by rcases hgU with h' | h' <;> omega)))))
              have hst : runB B.g n C x ((alongL back (insR B.g x)).take (k' + 1)) (F x) = hapF (rlF B.g n C ((x : Int), (y : Int), true)) (rlF B.g n C ((x : Int), (y : Int), false)) (runB B.g n C x ((alongL back (insR B.g x)).take k') (F x)) := by
                rw [runB_take B.g n C x hk' (F x), ← hy]
              have hlen' : (hapF (rlF B.g n C ((x : Int), (y : Int), true)) (rlF B.g n C ((x : Int), (y : Int), false)) (runB B.g n C x ((alongL back (insR B.g x)).take k') (F x))).length = n := by rw [hapF_len]; exact hlen
              have hvl : vs.length = k' + 1 := by simpa using j2.1
              have hbr : BRow U10 (.slice (some ⟨r', 0, none⟩) n cap') (runB B.g n C x ((alongL back (insR B.g x)).take (k' + 1)) (F x)) := by
                rw [hst]
                obtain ⟨n1, n2, n3, n4, n5, n6, n7⟩ := HQN.out
                exact ⟨r', cap', ex', by rw [hlen'], hb9.kep hkA' (by omega)⟩
              refine ⟨kM, k3.trans kM, .slice (some ⟨gA, 0, none⟩) (k' + 1 + 1) capA, _, _, (by rw [List.set_set] at hbA; exact hbA), hoA, (fun e => by cases e), (fun b hb => ?_), P.2.2.1.kep hkA' (by omega), hbr, ?_, fun j hj => ?_⟩
              · simp only [Value.ownBlock, Option.some.injEq] at hb
                have := k39.size
                rcases hgA' with h | h
                · rcases hgU with h' | h'
                  · exact .inl (by omega)
                  · exact .inr (by omega)
                · exact .inr (by omega)
              · rw [List.getElem?_append_right (by omega), hvl]
                simp
              · by_cases hj' : j < k' + 1
                · obtain ⟨vj, i1, i2⟩ := j8 j hj'
                  refine ⟨vj, by rw [List.getElem?_append_left (by omega)]; exact i1, ?_⟩
                  have i3 : BRow U9 vj _ := i2.kep k39 (fun r n' c' e => by
                    obtain ⟨rr, cc, xx, e', hbb⟩ := i2
                    rw [e'] at e
                    cases e
                    exact fun h => bx_ne hbb j5 (by decide) h)
                  refine i3.kep hkA' (fun r n' c' e => ?_)
                  obtain ⟨rr, cc, xx, e', hbb⟩ := i3
                  rw [e'] at e
                  cases e
                  rintro (h | h)
                  · exact bx_ne hbb P.2.2.2.1 (by decide) h
                  · obtain ⟨g9, c9, x9, e9, -, hx9, -⟩ := own_bx P.2.2.2.2.1 (fun e => by cases e)
                    simp only [Value.slice.injEq, Option.some.injEq, Addr.mk.injEq, and_true] at e9
                    exact bx_ne hbb hx9 (by decide) (h.trans e9.1)
                · obtain rfl : j = k' + 1 := by omega
                  exact ⟨_, by rw [List.getElem?_append_right (by omega), hvl]; simp, hbr⟩
        case hdone2 =>
          rintro U ⟨h1, h2⟩
          obtain ⟨mm, hmm⟩ : ∃ mm, mm = (alongL back (insR B.g x)).length := ⟨_, rfl⟩
          rw [← hmm] at h2
          obtain ⟨u, v, vs, j1, j2, j3, j4, j5, j6, j7, j8⟩ := h2
          have hrow := StJ.row j2 j3 j8
          obtain ⟨gU, capU, exU, rfl, -, hxg, -⟩ := own_bx j2 j3
          obtain ⟨b6, t1, t2, d1, d2, d3, d4, d5, d6, d8, db, dor, hsz6, hs6⟩ := H6.out
          obtain ⟨n1, n2, n3, n4, n5, n6, n7⟩ := HQN.out
          obtain ⟨kV, x1, su1, su2, su3, hunil, hl0, hVs, fV, mV, hx, hqq⟩ := HV.out
          have hlow := HW.out.2.2.2.2.2.2.2.2.2.2.2.1
          have hgU := j4 gU rfl
          have hmm1 : mm ≤ 1001 := by
            rw [hmm]
            simp [alongL]
            omega
          have kVU : Kep (fun b => b = s + 1) V U := (H2.out.1.below b6).sub h1 (fun i hi => by
            rcases hi with h | h | h | h
            · exact .inr h
            · exact .inl (by omega)
            · exact .inl (by omega)
            · have := b6.size; have := H2.out.1.size; exact .inl (by omega))
          have hgV : V.heap.size ≤ gU := by
            have := b6.size
            have := H2.out.1.size
            rcases hgU with h | h
            · omega
            · omega
          have p2 := d2.kep h1 (HN2.out _ (by simp))
          have p3 := d3.kep h1 (HN2.out _ (by simp))
          have y1 := (d1.kep h1 (HN2.out _ (by simp))).cell 0
          have y2 := (d5.kep h1 (HN2.out _ (by have := hlow.1; right; right; right; right; right; right; exact this))).cell 7
          have y3 := p2.cell 0
          have y4 := p3.cell 0
          have y5 := j1.cell x
          rw [List.getElem?_set, if_pos rfl, if_pos (List.getElem?_eq_some_iff.1 hunil).1] at y5
          simp [flC] at y1 y2 y3 y4
          have hS : ∀ st ∈ (List.range (mm + 1)).map (fun j => runB B.g n C x ((alongL back (insR B.g x)).take j) (F x)), st.length = n := fun st hst => by
            obtain ⟨j, -, rfl⟩ := List.mem_map.1 hst
            rw [runB_len]
            exact H2.out.2.2.2.2.2.2.2.2.1
          have hvl : vs.length = mm + 1 := by simpa using j2.1
          have H52 := Lib.hid (reverse_any gU capU vs exU ((List.range (mm + 1)).map (fun j => runB B.g n C x ((alongL back (insR B.g x)).take j) (F x))) n (mm + 1) U (by simp) hxg (by simp [hvl]) (fun j hj => by
            have hj' : j < mm + 1 := by simpa using hj
            obtain ⟨vj, i1, i2⟩ := j8 j hj'
            refine ⟨vj, i1, ?_⟩
            rw [List.getElem?_map, List.getElem?_range hj', Option.map_some, Option.getD_some]
            exact i2) hS (by simp; omega))
          have hsO : ∀ b, stO B.g n C b x (F x) = if b then (stL B.g n C b x (F x)).reverse else stL B.g n C b x (F x) := fun _ => rfl
          have hsL : stL B.g n C back x (F x) = (List.range (mm + 1)).map (fun j => runB B.g n C x ((alongL back (insR B.g x)).take j) (F x)) := by rw [hmm]; rfl
          have HD := Lib.hid (And.intro hrow (And.intro kVU (And.intro hgV (And.intro j1 (And.intro hsO (And.intro hsL (show s + 1 ≠ gU by omega)))))))
          have HMM := Lib.hid hmm
          clear hmm h1 j1 j2 j3 j4 j5 j6 j7 j8 hrow hxg b6 t1 t2 d1 d2 d3 d4 d5 d6 d8 db dor hsz6 hs6 n1 n2 n3 n4 n5 n6 n7 kV x1 su1 su2 su3 hunil hl0 hVs fV mV hx hqq hlow hgU kVU hgV p2 p3 hS hvl hsO hsL
          by_cases hbk : back = true
          · rw [hbk] at y2
            have HBK := Lib.hid hbk
            clear hbk
            have hfn : ∀ f, (Fence.wide).fn f = True := fun _ => rfl
            have hdp : (Fence.wide).depth = none := rfl
            have hfn1 : ∀ f, (WR (w1.heap.size + 1)).fn f = True := fun _ => rfl
            have hdp1 : (WR (w1.heap.size + 1)).depth = none := rfl
            gi_wp2_with (gi_at_call 52; refine (CallsIn.inRound _ (callsIn_wide.2 H52.out)).mono ?_; clear H52; rintro e w9 ⟨⟨u9, rfl⟩, hr1, hr2⟩; have HR9 := Lib.hid (And.intro hr1 hr2); clear hr1 hr2)
            clear hfn hdp hfn1 hdp1
            simp +zetaDelta only [Exit.inBlock, RoundQ]
            obtain ⟨hrow, kVU, hgV, j1, hsO, hsL, hng⟩ := HD.out
            obtain ⟨hr1, hr2⟩ := HR9.out
            obtain ⟨kV, x1, su1, su2, su3, hunil, hl0, hVs, fV, mV, hx, hqq⟩ := HV.out
            have kF : Kep (fun b => b = s + 1) V w9 := kVU.sub hr1 (fun i hi => .inl (by omega))
            have hrow' : RRow w9 (.slice (some ⟨gU, 0, none⟩) (mm + 1) capU) (stO B.g n C back x (F x)) := by
              rw [hsO back, hsL, if_pos HBK.out]
              exact hr2
            refine ⟨kF, kV.trans kF, StK.step su2 su3 su1 kF hk (by rw [← hx]; exact j1.kep hr1 hng) (by rw [← hx]; exact hrow')⟩
          · have hbk' : back = false := by simpa using hbk
            rw [hbk'] at y2
            have HBK := Lib.hid hbk
            clear hbk hbk'
            gi_wp2
            simp +zetaDelta only [Exit.inBlock, RoundQ]
            obtain ⟨hrow, kVU, hgV, j1, hsO, hsL, hng⟩ := HD.out
            obtain ⟨kV, x1, su1, su2, su3, hunil, hl0, hVs, fV, mV, hx, hqq⟩ := HV.out
            have hrow' : RRow U (.slice (some ⟨gU, 0, none⟩) (mm + 1) capU) (stO B.g n C back x (F x)) := by
              rw [hsO back, hsL, if_neg HBK.out]
              exact hrow
            refine ⟨kVU, kV.trans kVU, StK.step su2 su3 su1 kVU hk (by rw [← hx]; exact j1) (by rw [← hx]; exact hrow')⟩
  case hdone =>
    rintro W ⟨h1, h2⟩ hD
    obtain ⟨v1, v2, v3, v4, hsz, hbel, f1, bc1, ch1, m1, B1, hlow, hs'⟩ := HW.out
    have y1 := (v3.kep h1 (by omega)).cell 0
    simp at y1
    have HI := Lib.hid (And.intro h1 (And.intro h2 hD))
    clear h1 h2 hD v1 v2 v3 v4 hbel f1 bc1 ch1 m1 B1 hs'
    go_wp2
    refine leaves_marks [w1.heap.size] W (by simp) (fun D hD => by
      rw [List.mem_singleton] at hD
      subst hD
      exact HI.out.2.2) ⟨_, results_tmp rfl _ _ _, ?_⟩
    obtain ⟨h1, h2, hD⟩ := HI.out
    obtain ⟨v1, v2, v3, v4, hsz, hbel, f1, bc1, ch1, m1, B1, hlow, hs'⟩ := HW.out
    have hds : ∀ D ∈ [w1.heap.size], ∃ o, W.heap[D]? = some o ∧ o.isCells = false := fun D hD' => by
      rw [List.mem_singleton] at hD'
      subst hD'
      exact ⟨_, hD, rfl⟩
    exact ⟨s + 1, rfl, (hbel.trans (h1.to_below (by omega) (fun q hq h => by omega))).trans (shutAll_below _ _ (fun D hD => by
      rw [List.mem_singleton] at hD
      omega)), h2.shut hds⟩
end Go.Proofs.Ytfpdecjlfnambaa
