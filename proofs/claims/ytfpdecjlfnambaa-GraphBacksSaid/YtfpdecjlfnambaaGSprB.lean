/-
  Graph: spread, for each of its two ways to go. Conditions: the flow lies in the heap; what tells where to go does so.
-/
import Derived.Test.YtfpdecjlfnambaaGSprP
import Derived.Test.YtfpdecjlfnambaaGSpreadF
import Derived.Test.YtfpdecjlfnambaaGSpreadB
import Derived.Maps.OwnIn
namespace Go.Proofs.Ytfpdecjlfnambaa
open Go Go.RowKit Go.Shelf

attribute [local go_sem] Oper.semAt_some

set_option maxRecDepth 100000 in
set_option maxHeartbeats 8000000 in
theorem spread_back (E : SE) (hE : E.Ok) (pc : Value) (hNX : NextOk E 37 55 pc) (F0 : Nat → List Bool) (bc capc : Nat) (ex : List Value) (hcv : E.cv = .slice (some ⟨bc, 0, none⟩) E.c.length capc) (hAt : E.At F0 E.w0) (hbc : Bx E.w0 bc 4 (bC E.c ++ ex)) (hbcR : ∀ i ∈ ones E.c, bc ≠ E.Rf i) :
    Calls Try.prog 29 #[.pointer (some ⟨E.f, 0, none⟩), .bool E.so, .func (.func 37) #[] #[pc]] E.w0 fun e w' => (∃ u, e = .returned u) ∧ ∃ F, E.At F w' ∧ Kep (fun b => ∃ i ∈ ones E.c, b = E.Rf i) E.w0 w' ∧ Spr E F0 E.n F := by
  obtain ⟨w, hw⟩ : ∃ w, w = E.w0 := ⟨_, rfl⟩
  rw [← hw] at hAt hbc ⊢
  have c1 := hAt.flow.cell 5
  simp [SE.flow, flC] at c1
  have hfl := hAt.flow.lt
  have hn1k := hE.n1k
  have hc1k := hE.c1k
  have HA := Lib.hid (And.intro hE (And.intro hNX (And.intro hcv (And.intro hAt (And.intro hbc (And.intro hbcR hw))))))
  clear hE hNX hcv hAt hbc hbcR hw
  refine calls_of_wp_marks Try.func29 rfl ?_
  simp only [Try.ntmps29, List.size_toArray, List.length_cons, List.length_nil, Nat.reduceAdd, Nat.reduceSub, Array.replicate_succ, Array.replicate_zero, List.push_toArray, List.append_toArray, List.nil_append, List.cons_append]
  go_upto_region 1 with fail
  obtain ⟨W1, hW1⟩ : ∃ W1, W1 = ((w.alloc (.cells #[.pointer (some ⟨E.f, 0, none⟩)] 73)).alloc (.cells #[.bool E.so] 4)).alloc (.cells #[.func (.func 37) #[] #[pc]] 84) := ⟨_, rfl⟩
  obtain ⟨s, hs⟩ : ∃ s, s = w.heap.size := ⟨_, rfl⟩
  obtain ⟨hE, hNX, hcv, hAt, hbc, hbcR, hw⟩ := HA.out
  have v1 : Bx W1 s 73 [.pointer (some ⟨E.f, 0, none⟩)] := by
    rw [hW1, hs]
    exact ((Bx.new w _ [.pointer (some ⟨E.f, 0, none⟩)]).alloc _).alloc _
  have v2 : Bx W1 (s + 1) 4 [.bool E.so] := by
    rw [hW1, hs]
    have := (Bx.new (w.alloc (.cells #[.pointer (some ⟨E.f, 0, none⟩)] 73)) 4 [.bool E.so]).alloc (.cells #[.func (.func 37) #[] #[pc]] 84)
    rwa [World.size_alloc] at this
  have v3 : Bx W1 (s + 1 + 1) 84 [.func (.func 37) #[] #[pc]] := by
    rw [hW1, hs]
    have := Bx.new ((w.alloc (.cells #[.pointer (some ⟨E.f, 0, none⟩)] 73)).alloc (.cells #[.bool E.so] 4)) 84 [.func (.func 37) #[] #[pc]]
    rwa [World.size_alloc, World.size_alloc] at this
  have hsz : W1.heap.size = s + 1 + 1 + 1 := by rw [hW1, hs]; simp
  have hbel : Below w.heap.size w W1 := by
    rw [hW1]
    exact (((Below.refl _ w).alloc (Nat.le_refl _) _).alloc (by simp) _).alloc (by simp; omega) _
  have hA1 := hAt.below hbel
  have hRs : ∀ i ∈ ones E.c, E.Rf i < s := fun i hi => by rw [hs]; exact (hAt.mf.row i hi).2.lt
  have y1 := v1.cell 0
  have y2 := hA1.flow.cell 5
  simp [SE.flow, flC] at y1 y2
  rw [← hW1, ← hs]
  have HB := Lib.hid (And.intro v1 (And.intro v2 (And.intro v3 (And.intro hsz (And.intro hbel (And.intro hA1 (And.intro hRs hs)))))))
  clear hE hNX hcv hAt hbc hbcR hw v1 v2 v3 hsz hbel hA1 hs hW1 c1 hRs
  go_wp2
  refine wp_loop_k (fun q a W => ∃ (k : Nat) (u6 u7 u8 u14 u15 u16 u17 u18 u19 u20 u21 u22 u23 u24 u25 u26 u27 u28 u29 u30 u31 u32 : Value) (ds : List Nat) (F : Nat → List Bool), q = E.n - k ∧ k ≤ E.n ∧
    a = { tmps := #[.pointer (some ⟨E.f, 0, none⟩), .bool E.so, .func (.func 37) #[] #[pc], .pointer (some ⟨s, 0, none⟩), .pointer (some ⟨s + 1, 0, none⟩), .pointer (some ⟨s + 1 + 1, 0, none⟩), u6, u7, u8, .pointer (some ⟨E.f, 0, none⟩), .pointer (some ⟨E.f, 0, none⟩), .pointer (some ⟨E.f, 5, none⟩), .int .i64 (E.n : Int), .int .i64 (k : Int), u14, u15, u16, u17, u18, u19, u20, u21, u22, u23, u24, u25, u26, u27, u28, u29, u30, u31, u32], defers := ds.map mark } ∧
    ds.Nodup ∧ (∀ D ∈ ds, W1.heap.size ≤ D ∧ W.heap[D]? = some (.deferred (some []))) ∧ Kep (fun b => ∃ i ∈ ones E.c, b = E.Rf i) W1 W ∧ E.At F W ∧ Spr E F0 k F) E.n ?start ?round
  case start =>
    exact ⟨0, _, _, _, _, _, _, _, _, _, _, _, _, _, _, _, _, _, _, _, _, _, _, [], F0, rfl, Nat.zero_le _, rfl, List.nodup_nil, fun D hD => by simp at hD, Kep.refl _ _, HB.out.2.2.2.2.2.1, fun i hi j hj => ⟨fun h => absurd h (by omega), fun _ => rfl⟩⟩
  case round =>
    rintro q a W ⟨k, u6, u7, u8, u14, u15, u16, u17, u18, u19, u20, u21, u22, u23, u24, u25, u26, u27, u28, u29, u30, u31, u32, ds, F, hqk, hk, rfl, hnd, hds, hkW, hAW, hsp⟩ K hK
    have HK : Go.RowKit.Hid (∀ n' a' w', n' < q → _ → K a' w') := Lib.hid hK
    have HC := Lib.hid (And.intro hqk (And.intro hnd (And.intro hds (And.intro hkW (And.intro hAW hsp)))))
    clear hK hqk hnd hds hkW hAW hsp
    by_cases hlt : k < E.n
    · obtain ⟨hqk, hnd, hds, hkW, hAW, hsp⟩ := HC.out
      obtain ⟨v1, v2, v3, hsz, hbel, hA1, hRs, hs⟩ := HB.out
      have b1 := v1.kep hkW (fun ⟨i, hi, e⟩ => by have := hRs i hi; omega)
      have e1 := cellA (.cells #[.slice none 0 0] 42) (cellA (.cells #[.int .i64 (k : Int)] 3) (b1.cell 0))
      have hW1s := hkW.size
      have hslt : s < W.heap.size := by omega
      clear hqk hnd hds hkW hAW hsp v1 v2 v3 hsz hbel hA1 hRs hs b1
      go_wp2_with (go_at_call 44; refine (each_any E.f _).mono ?_; rintro e w' ⟨rfl, rfl⟩)
      obtain ⟨W2, hW2⟩ : ∃ W2, W2 = ((W.alloc (.cells #[.int .i64 (k : Int)] 3)).alloc (.cells #[.slice none 0 0] 42)).alloc (.cells #[.pointer (some ⟨E.f, 0, none⟩)] 73) := ⟨_, rfl⟩
      obtain ⟨q0, hq0⟩ : ∃ q0, q0 = W.heap.size := ⟨_, rfl⟩
      obtain ⟨hqk, hnd, hds, hkW, hAW, hsp⟩ := HC.out
      obtain ⟨v1, v2, v3, hsz, hbel, hA1, hRs, hs⟩ := HB.out
      obtain ⟨hE, hNX, hcv, hAt, hbc, hbcR, hw⟩ := HA.out
      have x1 : Bx W2 q0 3 [.int .i64 (k : Int)] := by
        rw [hW2, hq0]
        exact ((Bx.new W _ [.int .i64 (k : Int)]).alloc _).alloc _
      have x2 : Bx W2 (q0 + 1) 42 [.slice none 0 0] := by
        rw [hW2, hq0]
        have := (Bx.new (W.alloc (.cells #[.int .i64 (k : Int)] 3)) 42 [.slice none 0 0]).alloc (.cells #[.pointer (some ⟨E.f, 0, none⟩)] 73)
        rwa [World.size_alloc] at this
      have x3 : Bx W2 (q0 + 1 + 1) 73 [.pointer (some ⟨E.f, 0, none⟩)] := by
        rw [hW2, hq0]
        have := Bx.new ((W.alloc (.cells #[.int .i64 (k : Int)] 3)).alloc (.cells #[.slice none 0 0] 42)) 73 [.pointer (some ⟨E.f, 0, none⟩)]
        rwa [World.size_alloc, World.size_alloc] at this
      have hsz2 : W2.heap.size = q0 + 1 + 1 + 1 := by rw [hW2, hq0]; simp
      have hbel2 : Below W.heap.size W W2 := by
        rw [hW2]
        exact (((Below.refl _ W).alloc (Nat.le_refl _) _).alloc (by simp) _).alloc (by simp; omega) _
      have nR : ∀ b, (∀ i ∈ ones E.c, b ≠ E.Rf i) → ¬ ∃ i ∈ ones E.c, b = E.Rf i := fun b h ⟨i, hi, e⟩ => h i hi e
      have z1 := (v1.kep hkW (nR _ (fun i hi => by have := hRs i hi; omega))).below hbel2 (by omega)
      have z2 := (v2.kep hkW (nR _ (fun i hi => by have := hRs i hi; omega))).below hbel2 (by omega)
      have z3 := (v3.kep hkW (nR _ (fun i hi => by have := hRs i hi; omega))).below hbel2 (by omega)
      have hA2 := hAW.below hbel2
      have hbc2 : Bx W2 bc 4 (bC E.c ++ ex) := ((hbc.below hbel hbc.lt).kep hkW (nR _ hbcR)).below hbel2 (by have := hbc.lt; omega)
      have hcl := hbc.lt
      have hgiv := each_giv (q0 + 1 + 1) E.f bc capc E.c ex hc1k
      have HGV := Lib.hid hgiv
      have hlowA : ∀ b, (b = E.f ∨ b = E.bf ∨ b = E.bn ∨ b = E.ba ∨ ∃ i ∈ ones E.c, b = E.Rf i ∨ b = E.Rn i ∨ b = E.Ra i) → b < s := fun b hb => by
        rw [hs]
        rcases hb with h | h | h | h | ⟨i, hi, h | h | h⟩ <;> subst h
        · exact hAt.flow.lt
        · exact hAt.mf.rows.lt
        · exact hAt.mn.rows.lt
        · exact hAt.ma.rows.lt
        · exact (hAt.mf.row i hi).2.lt
        · exact (hAt.mn.row i hi).2.lt
        · exact (hAt.ma.row i hi).2.lt
      have hD := Lib.hid (And.intro x1 (And.intro x2 (And.intro x3 (And.intro hsz2 (And.intro hbel2 (And.intro z1 (And.intro z2 (And.intro z3 (And.intro hA2 (And.intro hbc2 (And.intro hlowA (And.intro hq0 (show bc < s by omega)))))))))))))
      have hq0s : s + 1 + 1 + 1 ≤ q0 := by omega
      rw [← hW2, ← hq0]
      clear hqk hnd hds hkW hAW hsp v1 v2 v3 hsz hbel hA1 hRs hs hE hNX hcv hAt hbc hbcR hw x1 x2 x3 hsz2 hbel2 nR z1 z2 z3 hA2 hbc2 hgiv hlowA hq0 hW2 e1 hcl
      refine wp_range HGV.out rfl (enters_of Try.func59 (by kernel_rfl) rfl) (fun _ => rfl) (fun b => b = q0 + 1 ∨ W2.heap.size + 2 ≤ b) (by have := hD.out.2.2.2.1; omega)
        (fun k' V => LeaveI E F k W2 (q0 + 1) k' V) ?hI ?hID ?h0 ?hround ?hdone
      case hI =>
        rintro k' V r o o' hr ho hoc ⟨h1, u, h2, h3, h4⟩
        exact ⟨h1.put (.inl hr) _, u, h2.put _ ho hoc, own_put h3 _ ho hoc, by simpa using h4⟩
      case hID =>
        rintro k' V ⟨h1, -⟩
        obtain ⟨x1, x2, x3, hsz2, hbel2, z1, z2, z3, hA2, hbc2, hlowA, hq0, hbcs⟩ := hD.out
        have hcv := HA.out.2.2.1
        exact ⟨x3.kep h1 (by omega), ⟨_, hA2.flow.kep h1 (by have := hlowA E.f (.inl rfl); omega), by rw [← hcv]; rfl⟩, hbc2.kep h1 (by omega)⟩
      case h0 =>
        intro r
        obtain ⟨x1, x2, x3, hsz2, hbel2, z1, z2, z3, hA2, hbc2, hlowA, hq0, hbcs⟩ := hD.out
        exact ⟨((Kep.refl _ _).alloc _).alloc _, .slice none 0 0, (x2.alloc _).alloc _, World.ownsRow_nil _ _ _ _, by simp⟩
      case hround =>
        rintro k' hk' V ⟨h1, u, h2, h3, -⟩ ⟨r0, hrec⟩ hDD
        obtain ⟨x, hx⟩ : ∃ x, x = (ones E.c)[k'] := ⟨_, rfl⟩
        rw [← hx]
        have hxc : x ∈ ones E.c := hx ▸ List.getElem_mem hk'
        have HI := Lib.hid (And.intro h1 (And.intro h2 (And.intro h3 (And.intro hrec (And.intro hDD hx)))))
        clear h1 h2 h3 hrec hDD hx
        gi_wp2
        refine ⟨Kep.refl _ _, fun rr => ?_⟩
        obtain ⟨V3, hV3⟩ : ∃ V3, V3 = V.putObj (W2.heap.size + 1) (.loop rr) := ⟨_, rfl⟩
        rw [← hV3]
        obtain ⟨h1, h2, h3, hrec, hDD, hx⟩ := HI.out
        obtain ⟨x1, x2, x3, hsz2, hbel2, z1, z2, z3, hA2, hbc2, hlowA, hq0, hbcs⟩ := hD.out
        have hE := HA.out.1
        have h1' : Kep (fun b => b = q0 + 1 ∨ W2.heap.size + 2 ≤ b) W2 V3 := by
          rw [hV3]
          exact h1.put (.inl (by omega)) _
        have h2' : Bx V3 (q0 + 1) 42 [u] := by
          rw [hV3]
          exact h2.put _ hrec rfl
        have h3' : V3.ownsRow (W2.heap.size + 2) 3 1 u (lvl E F k k').length (nC (lvl E F k k')) := by
          rw [hV3]
          exact own_put h3 _ hrec rfl
        have hVs : W2.heap.size + 2 ≤ V3.heap.size := by
          rw [hV3]
          have := (Array.getElem?_eq_some_iff.1 hrec).1
          simp
          omega
        have hA3 : E.At F V3 := hA2.of (fun b hb hx => by
          obtain ⟨cs, tt, hc, hor⟩ := hx
          exact h1'.same b hb (by have := hlowA b hor; omega))
        have y1 := (z1.kep h1' (by omega)).cell 0
        have y2 := (x1.kep h1' (by omega)).cell 0
        have y3 := (z2.kep h1' (by omega)).cell 0
        simp at y1 y2 y3
        obtain ⟨oa, na, ca, hu⟩ := own_slice h3'
        subst hu
        have y4 := h2'.cell 0
        have y5 := h2'.frozen 0
        simp at y4
        have HL := Lib.hid (hA3.leaves hE hxc hlt)
        have HS := Lib.hid (And.intro y1 (And.intro y2 y3))
        obtain ⟨c1, hc1⟩ : ∃ c1, c1 = lvB F E.A E.N x k := ⟨_, rfl⟩
        have HL' : Go.RowKit.Hid (Calls Try.prog 47 #[.pointer (some ⟨E.f, 0, none⟩), .int .i64 (x : Int), .int .i64 (k : Int)] V3.drew fun e w' => e = .returned (.bool c1) ∧ w' = V3.drew) := Lib.hid (by
          rw [hc1]
          exact ((hA3.of (W' := V3.drew) (fun _ _ _ => rfl)).leaves hE hxc hlt))
        have HJ := Lib.hid (And.intro h1' (And.intro h2' (And.intro h3' (And.intro hVs hc1))))
        clear h1 h2 h3 hrec hDD hx x1 x2 x3 hsz2 hbel2 z1 z2 z3 hA2 hbc2 hlowA hq0 hbcs hE h1' h2' h3' hVs hA3 HL hc1 hV3
        gi_wp2
        refine wpIn_region_held_in (S := (fun w' => w'.cell? ⟨s, 0, none⟩ = some (.pointer (some ⟨E.f, 0, none⟩)) ∧ w'.cell? ⟨q0, 0, none⟩ = some (.int .i64 (k : Int)) ∧ w'.cell? ⟨s + 1, 0, none⟩ = some (.bool E.so))) (by kernel_rfl) (by kernel_rfl) (fun ⟨_, _, h⟩ => h) ?_ (fun hHeld => ?_)
        · exact HS.out
        refine wpAnyH_take (i := 0) (oi := { dst := some 19, op := Op.load 73 (Operand.tmp 3), type := 73, pos := "flow.go:131", after := #[], guard := none }) (v := ?vq0_1) rfl (by kernel_rfl) (by kernel_rfl) (by kernel_rfl) (fun _ _ _ h => h) (Or.inl ⟨by rfl, ?hq0_1⟩) (by assumption) ?_
        case hq0_1 => intro w hSw; (try dsimp only at hSw); go_simp; try (with_reducible rfl)
        (try simp only [Act.put, List.setIfInBounds_toArray, List.set_cons_zero, List.set_cons_succ])
        refine wpAnyH_take (i := 1) (oi := { dst := some 20, op := Op.move (Operand.tmp 8), type := 3, pos := "flow.go:131", after := #[], guard := none }) (v := ?vq1_2) rfl (by kernel_rfl) (by kernel_rfl) (by kernel_rfl) (fun _ _ _ h => h) (Or.inl ⟨by rfl, ?hq1_2⟩) (by assumption) ?_
        case hq1_2 => intro w hSw; (try dsimp only at hSw); go_simp; try (with_reducible rfl)
        (try simp only [Act.put, List.setIfInBounds_toArray, List.set_cons_zero, List.set_cons_succ])
        refine wpAnyH_take (i := 2) (oi := { dst := some 21, op := Op.load 3 (Operand.tmp 6), type := 3, pos := "flow.go:131", after := #[], guard := none }) (v := ?vq2_3) rfl (by kernel_rfl) (by kernel_rfl) (by kernel_rfl) (fun _ _ _ h => h) (Or.inl ⟨by rfl, ?hq2_3⟩) (by assumption) ?_
        case hq2_3 => intro w hSw; (try dsimp only at hSw); go_simp; try (with_reducible rfl)
        (try simp only [Act.put, List.setIfInBounds_toArray, List.set_cons_zero, List.set_cons_succ])
        refine wpAnyH_take (i := 4) (oi := { dst := some 23, op := Op.load 4 (Operand.tmp 4), type := 4, pos := "flow.go:131", after := #[], guard := none }) (v := ?vq4_4) rfl (by kernel_rfl) (by kernel_rfl) (by kernel_rfl) (fun _ _ _ h => h) (Or.inl ⟨by rfl, ?hq4_4⟩) (by assumption) ?_
        case hq4_4 => intro w hSw; (try dsimp only at hSw); go_simp; try (with_reducible rfl)
        (try simp only [Act.put, List.setIfInBounds_toArray, List.set_cons_zero, List.set_cons_succ])
        refine wpAnyH_ready (rs := [3]) (by kernel_rfl) (by simp) ?_
        refine AllReadyH.cons (o := { dst := some 22, op := Op.call { callee := Callee.value (Operand.func 47), args := #[Operand.tmp 19, Operand.tmp 20, Operand.tmp 21], argTypes := #[73, 3, 3] }, type := 4, pos := "flow.go:131", after := #[{ on := 0, ground := Ground.data }, { on := 1, ground := Ground.data }, { on := 2, ground := Ground.data }], guard := none }) rfl (fun K hK => ?_) AllReadyH.nil
        go_simp
        refine HL'.out.mono ?_
        rintro e _ ⟨rfl, rfl⟩
        refine hK.out _ _ ?_ (fun hHeld => ?_)
        · exact HS.out
        clear hK K
        (try simp only [Act.put, List.setIfInBounds_toArray, List.set_cons_zero, List.set_cons_succ])
        refine wpAnyH_take (i := 5) (oi := { dst := some 24, op := Op.binOp BinOp.eql 4 (Operand.tmp 22) (Operand.tmp 23) 4, type := 4, pos := "flow.go:131", after := #[{ on := 3, ground := Ground.data }, { on := 4, ground := Ground.data }], guard := none }) (v := .bool (c1 == E.so)) rfl (by kernel_rfl) (by kernel_rfl) (by kernel_rfl) (fun _ _ _ h => h) (Or.inl ⟨by rfl, ?hq5_5⟩) (by assumption) ?_
        case hq5_5 => intro w hSw; (try dsimp only at hSw); go_simp; try (with_reducible rfl)
        (try simp only [Act.put, List.setIfInBounds_toArray, List.set_cons_zero, List.set_cons_succ])
        refine wpAnyH_done (by kernel_rfl) ?_ _
        obtain ⟨V4, hV4⟩ : ∃ V4, V4 = V3.drew := ⟨_, rfl⟩
        have y4' : V4.cell? ⟨q0 + 1, 0, none⟩ = some (.slice oa na ca) := by rw [hV4]; exact y4
        have y5' : V4.frozen? ⟨q0 + 1, 0, none⟩ = false := by rw [hV4]; exact y5
        rw [← hV4]
        have HV4 := Lib.hid hV4
        clear y1 y2 y3 y4 y5 hV4
        by_cases hce : (c1 == E.so) = true
        · obtain ⟨i3, hi3, hz3, hs3, hb3⟩ := info_parts infoInt
          have HI3 := Lib.hid (And.intro hi3 (And.intro hz3 (And.intro hs3 hb3)))
          have HR : Go.RowKit.Hid (V4.ownsRow (W2.heap.size + 2) 3 1 (.slice oa na ca) (lvl E F k k').length (nC (lvl E F k k'))) := Lib.hid (by rw [HV4.out]; exact HJ.out.2.2.1)
          have hll := lvl_len E F k k'
          have hll2 : (lvl E F k k').length ≤ 1000 := by omega
          have hV4s : W2.heap.size + 2 ≤ V4.heap.size := by rw [HV4.out]; exact HJ.out.2.2.2.1
          rw [hce]
          have HCE := Lib.hid hce
          clear hce
          clear hi3 hz3 hs3 hb3 hll
          gi_wp2_with (gi_at_builtin; refine wpListIn_append_own_at _ rfl (.tmp 25) (.tmp 27) 42 rfl (W2.heap.size + 2) 3 i3 _ 1 8 Try.underlying42 HI3.out.1 HI3.out.2.1 HI3.out.2.2.1 HI3.out.2.2.2 rfl (by decide) _ _ _ rfl (HR.out.alloc _) ⟨_, 0, none⟩ 1 1 [.int .i64 (x : Int)] rfl rfl ?c1 ?c2 ?c3 ?c4 ?c5 ?_)
          case c1 => exact new_cells _ [.int .i64 (x : Int)] _
          case c2 => intro u hu; simp at hu; subst hu; rfl
          case c3 => unfold maxLen; omega
          case c4 => omega
          case c5 => simp; omega
          intro v' w5 hown hg _ hvb
          obtain ⟨ob, nb, cb, hv⟩ := own_slice hown
          subst hv
          obtain ⟨h1', h2', h3', hVs, hc1⟩ := HJ.out
          have hT4 : Bx V4 (q0 + 1) 42 [.slice oa na ca] := by rw [HV4.out]; exact h2'
          have hk5 : Kep (fun b => (Value.slice oa na ca).ownBlock = some b) V4 w5 := ((Kep.refl _ V4).alloc _).grown hg (fun q hq => .inr hq)
          have hT5 := hT4.kep hk5 (fun h => own_ne HR.out hT4 (fun cs fr e => by cases e) h)
          have y6 := hT5.cell 0
          have y7 := hT5.frozen 0
          simp at y6
          have HP := Lib.hid (And.intro hown (And.intro hk5 hT5))
          clear h1' h2' h3' hVs hc1 hT4 hk5 hT5 hown hg hvb y4' y5'
          gi_wp2
          simp +zetaDelta only [Exit.inBlock, RoundQ]
          obtain ⟨h1', h2', h3', hVs, hc1⟩ := HJ.out
          obtain ⟨hown, hk5, hT5⟩ := HP.out
          have hx := HI.out.2.2.2.2.2
          have hkV : Kep (fun b => b = q0 + 1 ∨ W2.heap.size + 2 ≤ b) V3 w5 := by
            have h0 : Kep (fun b => b = q0 + 1 ∨ W2.heap.size + 2 ≤ b) V3 V4 := by
              rw [HV4.out]
              exact (Kep.refl _ V3).drew
            exact h0.sub hk5 (fun i hi => .inr (.inr (own_lt HR.out hi).2))
          have hkF := Kep.setCell (p := ⟨q0 + 1, 0, none⟩) hkV (.inr (.inl rfl)) (.slice ob nb cb)
          refine ⟨hkF, h1'.trans hkF, .slice ob nb cb, hT5.set 0 _, ?_, Nat.le_trans hVs hkF.size⟩
          have hl : lvl E F k (k' + 1) = lvl E F k k' ++ [x] := by
            rw [lvl_succ E F k hk', ← hx, if_pos (by rw [← hc1]; exact HCE.out)]
          have hq : w5.ownsRow (W2.heap.size + 2) 3 1 (.slice ob nb cb) (lvl E F k (k' + 1)).length (nC (lvl E F k (k' + 1))) := by
            rw [hl, List.length_append, nC, List.map_append]
            exact hown
          exact own_kep hq (Kep.setCell (M := fun b => b = q0 + 1) (p := ⟨q0 + 1, 0, none⟩) (Kep.refl _ w5) (.inr rfl) (.slice ob nb cb)) (fun g hg e => by
            subst e
            exact own_ne hq hT5 (fun cs fr e => by cases e) hg)
        · have hce' : (c1 == E.so) = false := by simpa using hce
          clear hce
          rw [hce']
          have HCE := Lib.hid hce'
          clear hce'
          gi_wp2
          simp +zetaDelta only [Exit.inBlock, RoundQ]
          obtain ⟨h1', h2', h3', hVs, hc1⟩ := HJ.out
          have hx := HI.out.2.2.2.2.2
          have h0 : Kep (fun b => b = q0 + 1 ∨ W2.heap.size + 2 ≤ b) V3 V4 := by
            rw [HV4.out]
            exact (Kep.refl _ V3).drew
          refine ⟨h0, h1'.trans h0, .slice oa na ca, by rw [HV4.out]; exact h2', ?_, Nat.le_trans hVs h0.size⟩
          have hl : lvl E F k (k' + 1) = lvl E F k k' := by
            rw [lvl_succ E F k hk', ← hx, if_neg (by rw [← hc1, HCE.out]; simp), List.append_nil]
          rw [hl, HV4.out]
          exact h3'
      case hdone =>
        rintro V ⟨h1, u, h2, h3, hVs⟩ hDD
        obtain ⟨oa, na, ca, hu⟩ := own_slice h3
        subst hu
        obtain ⟨hqk, hnd, hds, hkW, hAW, hsp⟩ := HC.out
        obtain ⟨v1, v2, v3, hsz, hbel, hA1, hRs, hs⟩ := HB.out
        obtain ⟨hE, hNX, hcv, hAt, hbc, hbcR, hw⟩ := HA.out
        obtain ⟨x1, x2, x3, hsz2, hbel2, z1, z2, z3, hA2, hbc2, hlowA, hq0, hbcs⟩ := hD.out
        obtain ⟨n1, hn1⟩ : ∃ n1, n1 = W2.heap.size + 2 := ⟨_, rfl⟩
        rw [← hn1] at hVs h3
        have hwn : E.w0.heap.size ≤ n1 := by rw [← hw]; omega
        have hAV : E.At F V := hA2.of (fun b hb hx => by
          obtain ⟨cs, tt, hc, hor⟩ := hx
          exact h1.same b hb (by have := hlowA b hor; omega))
        have hkp : Kep (fun b => ∃ i ∈ ones E.c, b = E.Rf i) E.w0 V := by
          have ha : Kep (fun b => ∃ i ∈ ones E.c, b = E.Rf i) w W2 := ((Kep.of_below hbel).sub hkW (fun i hi => .inr hi)).below hbel2
          have hb : Kep (fun b => ∃ i ∈ ones E.c, b = E.Rf i) w V := ha.sub h1 (fun i hi => by left; omega)
          rwa [hw] at hb
        have hbx : ∀ b, (b = s + 1 + 1 ∨ b = s ∨ b = q0 ∨ b = s + 1 ∨ b = E.f ∨ b = E.bf ∨ b = E.bn ∨ b = E.ba ∨ (∃ i ∈ ones E.c, b = E.Rf i ∨ b = E.Rn i ∨ b = E.Ra i)) → b < n1 := fun b hb => by
          rcases hb with h | h | h | h | h
          · omega
          · omega
          · omega
          · omega
          · have := hlowA b h
            omega
        have hbR : ∀ b, (b = s + 1 + 1 ∨ b = s ∨ b = q0 ∨ b = s + 1) → ∀ i ∈ ones E.c, b ≠ E.Rf i := fun b hb i hi => by
          have := hRs i hi
          omega
        have hw0' : (E.on V n1).w0.heap.size ≤ (E.on V n1).n1 := Nat.le_of_eq (trunc_size hVs)
        have hmu : (lvl E F k (ones E.c).length).length + cnt E.c.length (lvS E.N E.A E.so k) (colF F E.so k) ≤ 2000 := by
          have := lvl_len E F k (ones E.c).length
          have := cnt_le E.c.length (lvS E.N E.A E.so k) (colF F E.so k)
          omega
        have hj0 : SJ (E.on V n1) k (s + 1 + 1) s q0 (s + 1) (.func (.func 37) #[] #[pc]) F ((lvl E F k (ones E.c).length).length + cnt E.c.length (lvS E.N E.A E.so k) (colF F E.so k)) (lvl E F k (ones E.c).length) V :=
          ⟨hVs, trunc_kep hVs, z3.kep h1 (by omega), z1.kep h1 (by omega), x1.kep h1 (by omega), z2.kep h1 (by omega), F, SE.on_at hAV, fun _ _ _ _ => rfl, lvl_full E F k, rfl, hmu⟩
        have HS := Lib.hid (settle_spread n1 (.pointer (some ⟨s + 1 + 1, 0, none⟩)) (.pointer (some ⟨s, 0, none⟩)) (.pointer (some ⟨q0, 0, none⟩)) (.pointer (some ⟨s + 1, 0, none⟩)) (SJ (E.on V n1) k (s + 1 + 1) s q0 (s + 1) (.func (.func 37) #[] #[pc]) F)
          (fun μ Q A A' h hb => h.below hb hbx hw0')
          (fun μ Q A h => by
            obtain ⟨g1, g2, g3, g4, g5, g6, F', g7, g8, g9, g10, g11⟩ := h
            exact ⟨by omega, g1⟩)
          (fun qb μ x Q A v hq hsj => look_back (E.on V n1) (SE.on_ok hE hVs hwn) pc (SE.on_next hNX hE hVs hwn hkp) k (s + 1 + 1) s q0 (s + 1) hlt F hbx hw0' hbR qb μ x Q A v hq hsj)
          (.slice oa na ca) (lvl E F k (ones E.c).length) _ V (own_qrow h3) (fun b hb => (own_lt h3 hb).2) hj0)
        have y8 := h2.cell 0
        simp at y8
        have HF := Lib.hid (And.intro h1 (And.intro hVs (And.intro hDD (And.intro hn1 hbx))))
        clear hqk hnd hds hkW hAW hsp v1 v2 v3 hsz hbel hA1 hRs hs hE hNX hcv hAt hbc hbcR hw x1 x2 x3 hsz2 hbel2 z1 z2 z3 hA2 hbc2 hlowA hq0 hbcs hwn hAV hkp hbx hbR hw0' hmu hj0 h1 h2 h3 hVs hDD hn1
        go_wp2_with (go_at_call 40; refine HS.out.mono ?_; rintro e w9 ⟨⟨u, rfl⟩, μ', hj'⟩; have H9 := Lib.hid hj'; clear hj' HS y8)
        obtain ⟨g1, g2, g3, g4, g5, g6, F', g7, g8, g9, g10, g11⟩ := H9.out
        obtain ⟨h1, hVs, hDD, hn1, hbx⟩ := HF.out
        obtain ⟨hqk, hnd, hds, hkW, hAW, hsp⟩ := HC.out
        obtain ⟨v1, v2, v3, hsz, hbel, hA1, hRs, hs⟩ := HB.out
        obtain ⟨hE, hNX, hcv, hAt, hbc, hbcR, hw⟩ := HA.out
        obtain ⟨x1, x2, x3, hsz2, hbel2, z1, z2, z3, hA2, hbc2, hlowA, hq0, hbcs⟩ := hD.out
        have hlow : ∀ b, b < n1 → (∀ i ∈ ones E.c, b ≠ E.Rf i) → w9.heap[b]? = V.heap[b]? := fun b hb hn => (g2.same b (by
          show b < (trunc V n1).heap.size
          rw [trunc_size hVs]
          exact hb) (fun ⟨i, hi, e⟩ => hn i hi e)).trans (trunc_at hVs hb)
        refine HK.out (E.n - (k + 1)) _ _ (by omega) ⟨k + 1, _, _, _, _, _, _, _, _, _, _, _, _, _, _, _, _, _, _, _, _, _, _, W2.heap.size :: ds, F', rfl, hlt, rfl, ?_, ?_, ?_, SE.at_on g7, ?_⟩
        · refine List.nodup_cons.2 ⟨fun h => ?_, hnd⟩
          have := (Array.getElem?_eq_some_iff.1 (hds _ h).2).1
          omega
        · intro D hD'
          rcases List.mem_cons.1 hD' with h | h
          · subst h
            exact ⟨by omega, (hlow _ (by omega) (fun i hi => by have := hRs i hi; omega)).trans hDD⟩
          · obtain ⟨q1, q2⟩ := hds D h
            have hDl := (Array.getElem?_eq_some_iff.1 q2).1
            exact ⟨q1, (hlow _ (by omega) (fun i hi => by have := hRs i hi; omega)).trans ((h1.same D (by omega) (by omega)).trans ((hbel2.block D hDl).trans q2))⟩
        · refine ⟨g2.os.trans (h1.os.trans (hbel2.os.trans hkW.os)), g2.tape.trans (h1.tape.trans (hbel2.tape.trans hkW.tape)), g2.output.trans (h1.output.trans (hbel2.output.trans hkW.output)), ?_, fun b hb hm => ?_⟩
          · have : n1 ≤ w9.heap.size := g1
            omega
          · exact (hlow b (by omega) (fun i hi e => hm ⟨i, hi, e⟩)).trans ((h1.same b (by omega) (by omega)).trans ((hbel2.block b (by omega)).trans (hkW.same b hb hm)))
        · exact spr_next hsp hlt g8 (fun i hi => g9.all (hE.mono k) i hi)
    · obtain rfl : k = E.n := by omega
      go_wp2
      obtain ⟨hqk, hnd, hds, hkW, hAW, hsp⟩ := HC.out
      refine leaves_marks ds W hnd (fun D hD => (hds D hD).2) ⟨_, results_none rfl _ _ _, ⟨_, rfl⟩, F, ?_, ?_, hsp⟩
      · refine hAW.of (fun b hb hx => ?_)
        obtain ⟨cs, tt, hc, -⟩ := hx
        refine shutAll_other _ _ _ (fun h => ?_)
        have := (hds b h).2
        rw [show W.heap[b]? = _ from hc] at this
        cases this
      · have hb := HB.out.2.2.2.2.1
        have h1 : Kep (fun b => ∃ i ∈ ones E.c, b = E.Rf i) w W := (Kep.of_below hb).sub hkW (fun i hi => .inr hi)
        have hsb := shutAll_below (n := W1.heap.size) ds W (fun D hD => (hds D hD).1)
        have hbs := hb.size
        exact ⟨hsb.os.trans h1.os, hsb.tape.trans h1.tape, hsb.output.trans h1.output, by rw [shutAll_size]; exact h1.size, fun b hb' hm => (hsb.block b (by omega)).trans (h1.same b hb' hm)⟩

end Go.Proofs.Ytfpdecjlfnambaa
