/-
  Graph: newFlow, its first half: the flow's own block. Conditions: the body, the changes, and what counts lie in the heap.
-/
import Derived.Test.YtfpdecjlfnambaaGNewP
namespace Go.Proofs.Ytfpdecjlfnambaa
open Go Go.RowKit

attribute [local go_sem] Oper.semAt_some

theorem ChAt.set {w : World} {base m : Nat} {rl : Key3 → List Int} {l : KL} {rv : Key3 → Value} (h : ChAt w base m rl l rv) {b t : Nat} {cs : List Value} (hb : Bx w b t cs) (ht : t ≠ 3) (j : Nat) (v : Value) : ChAt (w.setCell ⟨b, j, none⟩ v) base m rl l rv := by
  obtain ⟨es, ck, hm1, hm2⟩ := h.map
  have hne : m ≠ b := fun e => by
    subst e
    rw [Bx, hm1] at hb
    cases hb
  exact ⟨h.map.of (Below.heap_setCell _ _ _ _ hne), h.look, fun x => own_kep (h.row x) (Kep.setCell (M := fun k => k = b) (p := ⟨b, j, none⟩) (Kep.refl _ w) (.inr rfl) v) (fun g hg e => by
    subst e
    exact own_ne (h.row x) hb (fun cs fr e => by cases e; exact ht rfl) hg), h.apart⟩
theorem newQ_fin {w Wd A : World} {f p m base : Nat} {rl : Key3 → List Int} {l : KL} {rv : Key3 → Value} {FLs : List Value} (hwd : Below w.heap.size w Wd) (bA : Below Wd.heap.size Wd A) (hp : Bx A p 73 [.pointer none]) (hf : Bx A f 79 FLs) (hp0 : Wd.heap.size ≤ p) (hf0 : Wd.heap.size ≤ f) (hm0 : w.heap.size ≤ m) (hch : ChAt A base m rl l rv) :
    Below w.heap.size w (A.setCell ⟨p, 0, none⟩ (.pointer (some ⟨f, 0, none⟩))) ∧ w.heap.size ≤ f ∧ w.heap.size ≤ p ∧ w.heap.size ≤ m ∧ Bx (A.setCell ⟨p, 0, none⟩ (.pointer (some ⟨f, 0, none⟩))) p 73 [.pointer (some ⟨f, 0, none⟩)] ∧ Bx (A.setCell ⟨p, 0, none⟩ (.pointer (some ⟨f, 0, none⟩))) f 79 FLs ∧ ChAt (A.setCell ⟨p, 0, none⟩ (.pointer (some ⟨f, 0, none⟩))) base m rl l rv := by
  have hw := hwd.size
  exact ⟨(hwd.trans (bA.mono hw)).setCell (by show w.heap.size ≤ p; omega) _, by omega, by omega, hm0, hp.set 0 _, hf.far (fun e => bx_ne hp hf (by decide) e) _, hch.set hp (by decide) 0 _⟩

/-- What newFlow's own block is behind its making. -/
def NewQ (w : World) (nm pa lo : Value) (oa : Option Addr) (cap : Nat) (g : Gb) (L n nC lc s : Nat) (oc : Option Addr) (capC bc capc : Nat) (back : Bool) (ni : Int) (C : List Chg) : Exit → Act → World → Prop
  | .normal, a', w' => ∃ (f p m base : Nat) (l : KL) (rv : Key3 → Value), a' = { tmps := #[.agg #[nm, pa, lo, .slice oa L cap], .int .i64 (n : Int), .slice oc nC capC, .slice (some ⟨bc, 0, none⟩) lc capc, .bool back, .pointer (some ⟨s, 0, none⟩), undef, undef, undef, undef, .pointer none, .pointer (some ⟨p, 0, none⟩), undef, undef, .int .i64 ni, .int .i64 (n : Int), .agg #[nm, pa, lo, .slice oa L cap], .int .i64 (n : Int), .slice oc nC capC, .map (some m), .agg #[nm, pa, lo, .slice oa L cap], .int .i64 (n : Int), .slice (some ⟨bc, 0, none⟩) lc capc, .bool back, .agg #[.map (some m), nm, pa, lo, .slice oa L cap, .int .i64 (n : Int), .slice (some ⟨bc, 0, none⟩) lc capc, .bool back, .slice none 0 0, .slice none 0 0, .slice none 0 0], .pointer (some ⟨f, 0, none⟩), undef, undef, undef, undef, undef, undef, undef, undef, undef, undef, undef, undef, undef, undef, undef, undef, undef, undef, undef, undef, undef, undef, undef, undef, undef, undef, undef, undef, undef, undef, undef, undef, undef, undef, undef, undef, undef, undef, undef, undef, undef, undef, undef, undef, undef, undef, undef, undef], defers := [] } ∧ Below w.heap.size w w' ∧ w.heap.size ≤ f ∧ w.heap.size ≤ p ∧ w.heap.size ≤ m ∧ Bx w' p 73 [.pointer (some ⟨f, 0, none⟩)] ∧ Bx w' f 79 (#[.map (some m), nm, pa, lo, .slice oa L cap, .int .i64 (n : Int), .slice (some ⟨bc, 0, none⟩) lc capc, .bool back, .slice none 0 0, .slice none 0 0, .slice none 0 0]).toList ∧ ChAt w' base m (rlF g n C) l rv
  | _, _, _ => False

/-- .. and behind its two rows' making. -/
def NewR (w : World) (nm pa lo : Value) (oa : Option Addr) (cap : Nat) (g : Gb) (L n nC lc s : Nat) (oc : Option Addr) (capC bc capc : Nat) (back : Bool) (ni : Int) (C : List Chg) (c : List Bool) (ex : List Value) (w2 : World) (f p m base : Nat) (l : KL) (rv : Key3 → Value) : Exit → Act → World → Prop
  | .normal, a', w' => ∃ (bn ba : Nat) (Rn Ra : Nat → Nat), a' = { tmps := #[.agg #[nm, pa, lo, .slice oa L cap], .int .i64 (n : Int), .slice oc nC capC, .slice (some ⟨bc, 0, none⟩) lc capc, .bool back, .pointer (some ⟨s, 0, none⟩), undef, undef, undef, undef, .pointer none, .pointer (some ⟨p, 0, none⟩), undef, undef, .int .i64 ni, .int .i64 (n : Int), .agg #[nm, pa, lo, .slice oa L cap], .int .i64 (n : Int), .slice oc nC capC, .map (some m), .agg #[nm, pa, lo, .slice oa L cap], .int .i64 (n : Int), .slice (some ⟨bc, 0, none⟩) lc capc, .bool back, .agg #[.map (some m), nm, pa, lo, .slice oa L cap, .int .i64 (n : Int), .slice (some ⟨bc, 0, none⟩) lc capc, .bool back, .slice none 0 0, .slice none 0 0, .slice none 0 0], .pointer (some ⟨f, 0, none⟩), .pointer (some ⟨f, 0, none⟩), .pointer (some ⟨f, 0, none⟩), .pointer (some ⟨f, 0, none⟩), .slice (some ⟨bn, 0, none⟩) c.length c.length, .pointer (some ⟨f, 0, none⟩), .slice (some ⟨ba, 0, none⟩) c.length c.length, .pointer (some ⟨f, 0, none⟩), .pointer (some ⟨f, 9, none⟩), .pointer (some ⟨f, 0, none⟩), .pointer (some ⟨f, 10, none⟩), undef, undef, undef, undef, undef, undef, undef, undef, undef, undef, undef, undef, undef, undef, undef, undef, undef, undef, undef, undef, undef, undef, undef, undef, undef, undef, undef, undef, undef, undef, undef, undef, undef, undef, undef, undef, undef, undef], defers := [] } ∧ NewAt w w' f m base bn ba Rn Ra l rv (⟨nm, pa, lo, oa, cap, g⟩ : Bv) n C bc capc c back (.slice none 0 0) (fun _ => List.replicate n false) (fun _ => List.replicate n true) ∧ w2.heap.size ≤ w'.heap.size ∧ Bx w' p 73 [.pointer (some ⟨f, 0, none⟩)] ∧ Bx w' bc 4 (bC c ++ ex)
  | _, _, _ => False

set_option maxRecDepth 100000 in
set_option maxHeartbeats 8000000 in
theorem newFlow_any (n0 : Nat) (B : Bv) (ni : Int) (n : Nat) (oc : Option Addr) (capC : Nat) (C : List Chg) (bc capc : Nat) (c : List Bool) (ex : List Value) (back : Bool) (w : World) (hni : n = ni.toNat) (hB : B.At n0 w) (hs : B.Small) (hC : CRow n0 w oc C) (hcs : CSmall C) (hn : n ≤ 1000) (hn0 : n0 ≤ w.heap.size)
    (hbc : Bx w bc 4 (bC c ++ ex)) (hcl : c.length = B.g.length) :
    Calls Try.prog 27 #[B.v, .int .i64 ni, .slice oc C.length capC, .slice (some ⟨bc, 0, none⟩) c.length capc, .bool back] w fun e w' => ∃ f, e = .returned (.pointer (some ⟨f, 0, none⟩)) ∧ NewF w w' f B n C bc capc c back (.slice none 0 0) := by
  obtain ⟨nm, pa, lo, oa, cap, g⟩ := B
  simp only at hs hcl
  obtain ⟨L, hL⟩ : ∃ L, L = g.length := ⟨_, rfl⟩
  obtain ⟨nC, hnC⟩ : ∃ k, k = C.length := ⟨_, rfl⟩
  obtain ⟨lc, hlc⟩ : ∃ k, k = c.length := ⟨_, rfl⟩
  have hL1 : L ≤ 1000 := by rw [hL]; exact hs.1
  have hmax : max ni 0 = (n : Int) := by omega
  obtain ⟨s, hsz⟩ : ∃ s, s = w.heap.size := ⟨_, rfl⟩
  have HN : Go.RowKit.Hid (∀ W : World, Below w.heap.size w W → Calls Try.prog 42 #[.agg #[nm, pa, lo, .slice oa L cap], .int .i64 (n : Int), .slice oc nC capC] W fun e w' => ∃ (m base : Nat) (l : KL) (rv : Key3 → Value), e = .returned (.map (some m)) ∧ w.heap.size ≤ m ∧ Below W.heap.size W w' ∧ ChAt w' base m (rlF g n C) l rv) := Lib.hid (fun W hW => by
    have h1 := newChanges_any n0 ⟨nm, pa, lo, oa, cap, g⟩ n oc capC C W (hB.below hW hn0) hs (hC.below hW hn0) hcs hn (Nat.le_trans hn0 hW.size)
    unfold Bv.v Bv.cs at h1
    simp only [← hL, ← hnC] at h1
    refine h1.mono ?_
    rintro e w' ⟨m, l, rv, h2, h3, h4, h5⟩
    exact ⟨m, _, l, rv, h2, Nat.le_trans hW.size h3, h4, h5⟩)
  have HA := Lib.hid (And.intro hB (And.intro hs (And.intro hC (And.intro hcs (And.intro hn0 (And.intro hbc (And.intro hcl (And.intro hL (And.intro hnC (And.intro hlc hni))))))))))
  rw [← hnC, ← hlc]
  unfold Bv.v Bv.cs
  simp only [← hL]
  clear hB hs hC hcs hn0 hbc hcl hL hnC hlc hni
  refine calls_of_wp_marks Try.func27 rfl ?_
  simp only [Try.ntmps27, List.size_toArray, List.length_cons, List.length_nil, Nat.reduceAdd, Nat.reduceSub, Array.replicate_succ, Array.replicate_zero, List.push_toArray, List.append_toArray, List.nil_append, List.cons_append]
  go_upto_region 2 with fail
  rw [← hsz]
  obtain ⟨W, hW⟩ : ∃ W, W = w.alloc (.cells #[nm, pa, lo, .slice oa L cap] 25) := ⟨_, rfl⟩
  rw [← hW]
  obtain ⟨Wd, hWd⟩ : ∃ Wd, Wd = W.drew := ⟨_, rfl⟩
  have hbW : Below w.heap.size w W := by
    rw [hW]
    exact (Below.refl _ w).alloc (Nat.le_refl _) _
  have hbxs : Bx W s 25 [nm, pa, lo, .slice oa L cap] := by
    rw [hW, hsz]
    exact Bx.new w _ [nm, pa, lo, .slice oa L cap]
  have SWd : Wd.cell? ⟨s, 0, none⟩ = some nm ∧ Wd.cell? ⟨s, 1, none⟩ = some pa ∧ Wd.cell? ⟨s, 2, none⟩ = some lo ∧ Wd.cell? ⟨s, 3, none⟩ = some (.slice oa L cap) := by
    rw [hWd]
    exact ⟨hbxs.cell 0, hbxs.cell 1, hbxs.cell 2, hbxs.cell 3⟩
  have bWd : Below Wd.heap.size Wd Wd := Below.refl _ _
  have hwd : Below w.heap.size w Wd := by
    rw [hWd]
    exact hbW.drew
  have hss : s < Wd.heap.size := by
    rw [hWd]
    exact hbxs.lt
  have HN' : ∀ A, Below Wd.heap.size Wd A → Below w.heap.size w A := fun A h => hwd.trans (h.mono hwd.size)
  have HWD := Lib.hid hWd
  clear hWd hbW hbxs hW
  have HSZ := Lib.hid hsz
  clear hsz
  refine wp_mono (Q := NewQ w nm pa lo oa cap g L n nC lc s oc capC bc capc back ni C) ?reg ?cont
  case reg =>
    refine wp_region_held_drew (S := (fun w' => w'.cell? ⟨s, 0, none⟩ = some nm ∧ w'.cell? ⟨s, 1, none⟩ = some pa ∧ w'.cell? ⟨s, 2, none⟩ = some lo ∧ w'.cell? ⟨s, 3, none⟩ = some (.slice oa L cap))) (by kernel_rfl) ?_ (fun hHeld => ?_)
    · rw [← HWD.out]; exact SWd
    rw [← HWD.out]
    refine wpAnyH_take (i := 0) (oi := { dst := some 16, op := Op.load 25 (Operand.tmp 5), type := 25, pos := "flow.go:69", after := #[], guard := none }) (v := ?vq0_10) rfl (by kernel_rfl) (by kernel_rfl) (by kernel_rfl) (fun _ _ _ h => h) (Or.inl ⟨by rfl, ?hq0_10⟩) (by assumption) ?_
    case hq0_10 => intro w hSw; (try dsimp only at hSw); go_simp; try (with_reducible rfl)
    (try simp only [Act.put, List.setIfInBounds_toArray, List.set_cons_zero, List.set_cons_succ])
    refine wpAnyH_take (i := 1) (oi := { dst := some 17, op := Op.move (Operand.tmp 1), type := 3, pos := "flow.go:69", after := #[], guard := none }) (v := ?vq1_11) rfl (by kernel_rfl) (by kernel_rfl) (by kernel_rfl) (fun _ _ _ h => h) (Or.inl ⟨by rfl, ?hq1_11⟩) (by assumption) ?_
    case hq1_11 => intro w hSw; (try dsimp only at hSw); go_simp; try (with_reducible rfl)
    (try simp only [Act.put, List.setIfInBounds_toArray, List.set_cons_zero, List.set_cons_succ])
    refine wpAnyH_take (i := 2) (oi := { dst := some 18, op := Op.move (Operand.tmp 2), type := 27, pos := "flow.go:69", after := #[], guard := none }) (v := ?vq2_12) rfl (by kernel_rfl) (by kernel_rfl) (by kernel_rfl) (fun _ _ _ h => h) (Or.inl ⟨by rfl, ?hq2_12⟩) (by assumption) ?_
    case hq2_12 => intro w hSw; (try dsimp only at hSw); go_simp; try (with_reducible rfl)
    (try simp only [Act.put, List.setIfInBounds_toArray, List.set_cons_zero, List.set_cons_succ])
    refine wpAnyH_take (i := 4) (oi := { dst := some 20, op := Op.load 25 (Operand.tmp 5), type := 25, pos := "flow.go:69", after := #[], guard := none }) (v := ?vq4_13) rfl (by kernel_rfl) (by kernel_rfl) (by kernel_rfl) (fun _ _ _ h => h) (Or.inl ⟨by rfl, ?hq4_13⟩) (by assumption) ?_
    case hq4_13 => intro w hSw; (try dsimp only at hSw); go_simp; try (with_reducible rfl)
    (try simp only [Act.put, List.setIfInBounds_toArray, List.set_cons_zero, List.set_cons_succ])
    refine wpAnyH_take (i := 5) (oi := { dst := some 21, op := Op.move (Operand.tmp 1), type := 3, pos := "flow.go:69", after := #[], guard := none }) (v := ?vq5_14) rfl (by kernel_rfl) (by kernel_rfl) (by kernel_rfl) (fun _ _ _ h => h) (Or.inl ⟨by rfl, ?hq5_14⟩) (by assumption) ?_
    case hq5_14 => intro w hSw; (try dsimp only at hSw); go_simp; try (with_reducible rfl)
    (try simp only [Act.put, List.setIfInBounds_toArray, List.set_cons_zero, List.set_cons_succ])
    refine wpAnyH_take (i := 6) (oi := { dst := some 22, op := Op.move (Operand.tmp 3), type := 26, pos := "flow.go:69", after := #[], guard := none }) (v := ?vq6_15) rfl (by kernel_rfl) (by kernel_rfl) (by kernel_rfl) (fun _ _ _ h => h) (Or.inl ⟨by rfl, ?hq6_15⟩) (by assumption) ?_
    case hq6_15 => intro w hSw; (try dsimp only at hSw); go_simp; try (with_reducible rfl)
    (try simp only [Act.put, List.setIfInBounds_toArray, List.set_cons_zero, List.set_cons_succ])
    refine wpAnyH_take (i := 7) (oi := { dst := some 23, op := Op.move (Operand.tmp 4), type := 4, pos := "flow.go:69", after := #[], guard := none }) (v := ?vq7_16) rfl (by kernel_rfl) (by kernel_rfl) (by kernel_rfl) (fun _ _ _ h => h) (Or.inl ⟨by rfl, ?hq7_16⟩) (by assumption) ?_
    case hq7_16 => intro w hSw; (try dsimp only at hSw); go_simp; try (with_reducible rfl)
    (try simp only [Act.put, List.setIfInBounds_toArray, List.set_cons_zero, List.set_cons_succ])
    refine wpAnyH_ready (rs := [3, 10]) (by kernel_rfl) (by simp) ?_
    refine AllReadyH.cons (o := { dst := some 19, op := Op.call { callee := Callee.value (Operand.func 42), args := #[Operand.tmp 16, Operand.tmp 17, Operand.tmp 18], argTypes := #[25, 3, 27] }, type := 77, pos := "flow.go:69", after := #[{ on := 0, ground := Ground.data }, { on := 1, ground := Ground.data }, { on := 2, ground := Ground.data }], guard := none }) rfl (fun K hK => ?_) ?_
    · go_simp
      refine (HN.out Wd (HN' _ bWd)).mono ?_
      rintro e A1 ⟨m, base, l, rv, rfl, hm1, hbA1, hchA1⟩
      have SA1 : A1.cell? ⟨s, 0, none⟩ = some nm ∧ A1.cell? ⟨s, 1, none⟩ = some pa ∧ A1.cell? ⟨s, 2, none⟩ = some lo ∧ A1.cell? ⟨s, 3, none⟩ = some (.slice oa L cap) := by
        obtain ⟨q1, q2, q3, q4⟩ := SWd
        exact ⟨below_cell hbA1 q1, below_cell hbA1 q2, below_cell hbA1 q3, below_cell hbA1 q4⟩
      have bA1 : Below Wd.heap.size Wd A1 := bWd.trans (hbA1.mono bWd.size)
      refine hK.out _ _ SA1 (fun hHeld => ?_)
      clear hK K
      (try simp only [Act.put, List.setIfInBounds_toArray, List.set_cons_zero, List.set_cons_succ])
      refine wpAnyH_take (i := 8) (oi := { dst := some 24, op := Op.build 79 #[(0, Operand.tmp 19), (1, Operand.tmp 20), (2, Operand.tmp 21), (3, Operand.tmp 22), (4, Operand.tmp 23)], type := 79, pos := "flow.go:69", after := #[{ on := 3, ground := Ground.data }, { on := 4, ground := Ground.data }, { on := 5, ground := Ground.data }, { on := 6, ground := Ground.data }, { on := 7, ground := Ground.data }], guard := none }) (v := ?vq8_17) rfl (by kernel_rfl) (by kernel_rfl) (by kernel_rfl) (fun _ _ _ h => h) (Or.inl ⟨by rfl, ?hq8_17⟩) (by assumption) ?_
      case hq8_17 => intro w hSw; (try dsimp only at hSw); go_simp; try (with_reducible rfl)
      (try simp only [Act.put, List.setIfInBounds_toArray, List.set_cons_zero, List.set_cons_succ])
      refine wpAnyH_ready (rs := [9, 10]) (by kernel_rfl) (by simp) ?_
      refine AllReadyH.cons (o := { dst := some 25, op := Op.box 79 (Operand.tmp 24), type := 73, pos := "flow.go:69", after := #[{ on := 8, ground := Ground.data }], guard := none }) rfl (fun K hK => ?_) ?_
      · go_simp
        obtain ⟨A2, hA2⟩ : ∃ A2, A2 = A1.alloc (.cells #[.map (some m), nm, pa, lo, .slice oa L cap, .int .i64 (n : Int), .slice (some ⟨bc, 0, none⟩) lc capc, .bool back, .slice none 0 0, .slice none 0 0, .slice none 0 0] 79) := ⟨_, rfl⟩
        obtain ⟨f, hf⟩ : ∃ f, f = A1.heap.size := ⟨_, rfl⟩
        have SA2 : A2.cell? ⟨s, 0, none⟩ = some nm ∧ A2.cell? ⟨s, 1, none⟩ = some pa ∧ A2.cell? ⟨s, 2, none⟩ = some lo ∧ A2.cell? ⟨s, 3, none⟩ = some (.slice oa L cap) := by
          rw [hA2]
          obtain ⟨q1, q2, q3, q4⟩ := SA1
          exact ⟨cellA _ q1, cellA _ q2, cellA _ q3, cellA _ q4⟩
        have bA2 : Below Wd.heap.size Wd A2 := by
          rw [hA2]
          exact bA1.alloc bA1.size _
        have lA2 : Below A1.heap.size A1 A2 := by
          rw [hA2]
          exact (Below.refl _ _).alloc (Nat.le_refl _) _
        rw [← hA2, ← hf]
        have xA2 := Lib.hid (And.intro hA2 hf)
        clear hA2 hf
        refine hK.out _ _ SA2 (fun hHeld => ?_)
        clear hK K
        (try simp only [Act.put, List.setIfInBounds_toArray, List.set_cons_zero, List.set_cons_succ])
        refine wpAnyH_ready (rs := [10]) (by kernel_rfl) (by simp) ?_
        refine AllReadyH.cons (o := { dst := some 11, op := Op.alloc 73, type := 0, pos := "flow.go:69", after := #[], guard := none }) rfl (fun K hK => ?_) AllReadyH.nil
        go_simp
        obtain ⟨A3, hA3⟩ : ∃ A3, A3 = A2.alloc (.cells #[.pointer none] 73) := ⟨_, rfl⟩
        obtain ⟨p, hp⟩ : ∃ p, p = A2.heap.size := ⟨_, rfl⟩
        have SA3 : A3.cell? ⟨s, 0, none⟩ = some nm ∧ A3.cell? ⟨s, 1, none⟩ = some pa ∧ A3.cell? ⟨s, 2, none⟩ = some lo ∧ A3.cell? ⟨s, 3, none⟩ = some (.slice oa L cap) := by
          rw [hA3]
          obtain ⟨q1, q2, q3, q4⟩ := SA2
          exact ⟨cellA _ q1, cellA _ q2, cellA _ q3, cellA _ q4⟩
        have bA3 : Below Wd.heap.size Wd A3 := by
          rw [hA3]
          exact bA2.alloc bA2.size _
        have lA3 : Below A2.heap.size A2 A3 := by
          rw [hA3]
          exact (Below.refl _ _).alloc (Nat.le_refl _) _
        rw [← hA3, ← hp]
        have xA3 := Lib.hid (And.intro hA3 hp)
        clear hA3 hp
        refine hK.out _ _ SA3 (fun hHeld => ?_)
        clear hK K
        (try simp only [Act.put, List.setIfInBounds_toArray, List.set_cons_zero, List.set_cons_succ])
        have s1 := bA1.size
        have s2 := bA2.size
        have ef := xA2.out.2
        have ep := xA3.out.2
        have hpF : Bx A3 p 73 [.pointer none] := (by rw [xA3.out.1, xA3.out.2]; exact Bx.new A2 73 [.pointer none])
        have hfF : Bx A3 f 79 (#[.map (some m), nm, pa, lo, .slice oa L cap, .int .i64 (n : Int), .slice (some ⟨bc, 0, none⟩) lc capc, .bool back, .slice none 0 0, .slice none 0 0, .slice none 0 0]).toList := (show Bx A2 f 79 (#[.map (some m), nm, pa, lo, .slice oa L cap, .int .i64 (n : Int), .slice (some ⟨bc, 0, none⟩) lc capc, .bool back, .slice none 0 0, .slice none 0 0, .slice none 0 0]).toList from (by rw [xA2.out.1, xA2.out.2]; exact Bx.new A1 79 (#[.map (some m), nm, pa, lo, .slice oa L cap, .int .i64 (n : Int), .slice (some ⟨bc, 0, none⟩) lc capc, .bool back, .slice none 0 0, .slice none 0 0, .slice none 0 0]).toList)).below lA3 (by rw [xA2.out.1, xA2.out.2]; simp)
        have cst := hpF.cell 0
        have fst := hpF.frozen 0
        simp at cst
        have hps : p ≠ s := by omega
        have HZ := Lib.hid (And.intro hpF (And.intro hfF (And.intro s1 (And.intro s2 (And.intro ep ef)))))
        clear hpF hfF s1 s2 ep ef
        refine wpAnyH_ready (rs := [11]) (by kernel_rfl) (by simp) ?_
        refine AllReadyH.cons (o := { dst := none, op := Op.store 73 (Operand.tmp 11) (Operand.tmp 25), type := 0, pos := "flow.go:69", after := #[{ on := 10, ground := Ground.data }, { on := 9, ground := Ground.data }, { on := 3, ground := Ground.chain }, { on := 0, ground := Ground.phase }, { on := 1, ground := Ground.phase }, { on := 2, ground := Ground.phase }, { on := 3, ground := Ground.phase }, { on := 4, ground := Ground.phase }, { on := 5, ground := Ground.phase }, { on := 6, ground := Ground.phase }, { on := 7, ground := Ground.phase }, { on := 8, ground := Ground.phase }, { on := 9, ground := Ground.phase }, { on := 10, ground := Ground.phase }], guard := none }) rfl (fun K hK => ?_) AllReadyH.nil
        go_simp
        obtain ⟨A4, hA4⟩ : ∃ A4, A4 = A3.setCell ⟨p, 0, none⟩ (.pointer (some ⟨f, 0, none⟩)) := ⟨_, rfl⟩
        rw [← hA4]
        have SA4 : A4.cell? ⟨s, 0, none⟩ = some nm ∧ A4.cell? ⟨s, 1, none⟩ = some pa ∧ A4.cell? ⟨s, 2, none⟩ = some lo ∧ A4.cell? ⟨s, 3, none⟩ = some (.slice oa L cap) := by
          rw [hA4]
          obtain ⟨q1, q2, q3, q4⟩ := SA3
          exact ⟨(World.cell?_setCell_far _ _ _ _ hps).trans q1, (World.cell?_setCell_far _ _ _ _ hps).trans q2, (World.cell?_setCell_far _ _ _ _ hps).trans q3, (World.cell?_setCell_far _ _ _ _ hps).trans q4⟩
        refine hK.out _ _ SA4 (fun hHeld => ?_)
        clear hK K
        (try simp only [Act.put, List.setIfInBounds_toArray, List.set_cons_zero, List.set_cons_succ])
        refine wpAnyH_done (by kernel_rfl) ?_ _
        obtain ⟨hpF, hfF, s1, s2, ep, ef⟩ := HZ.out
        have hfin := newQ_fin hwd bA3 hpF hfF (by omega) (by omega) hm1 ((hchA1.below lA2).below lA3)
        rw [← hA4] at hfin
        exact ⟨f, p, m, base, l, rv, rfl, hfin⟩
      refine AllReadyH.cons (o := { dst := some 11, op := Op.alloc 73, type := 0, pos := "flow.go:69", after := #[], guard := none }) rfl (fun K hK => ?_) AllReadyH.nil
      go_simp
      obtain ⟨A2, hA2⟩ : ∃ A2, A2 = A1.alloc (.cells #[.pointer none] 73) := ⟨_, rfl⟩
      obtain ⟨p, hp⟩ : ∃ p, p = A1.heap.size := ⟨_, rfl⟩
      have SA2 : A2.cell? ⟨s, 0, none⟩ = some nm ∧ A2.cell? ⟨s, 1, none⟩ = some pa ∧ A2.cell? ⟨s, 2, none⟩ = some lo ∧ A2.cell? ⟨s, 3, none⟩ = some (.slice oa L cap) := by
        rw [hA2]
        obtain ⟨q1, q2, q3, q4⟩ := SA1
        exact ⟨cellA _ q1, cellA _ q2, cellA _ q3, cellA _ q4⟩
      have bA2 : Below Wd.heap.size Wd A2 := by
        rw [hA2]
        exact bA1.alloc bA1.size _
      have lA2 : Below A1.heap.size A1 A2 := by
        rw [hA2]
        exact (Below.refl _ _).alloc (Nat.le_refl _) _
      rw [← hA2, ← hp]
      have xA2 := Lib.hid (And.intro hA2 hp)
      clear hA2 hp
      refine hK.out _ _ SA2 (fun hHeld => ?_)
      clear hK K
      (try simp only [Act.put, List.setIfInBounds_toArray, List.set_cons_zero, List.set_cons_succ])
      refine wpAnyH_ready (rs := [9]) (by kernel_rfl) (by simp) ?_
      refine AllReadyH.cons (o := { dst := some 25, op := Op.box 79 (Operand.tmp 24), type := 73, pos := "flow.go:69", after := #[{ on := 8, ground := Ground.data }], guard := none }) rfl (fun K hK => ?_) AllReadyH.nil
      go_simp
      obtain ⟨A3, hA3⟩ : ∃ A3, A3 = A2.alloc (.cells #[.map (some m), nm, pa, lo, .slice oa L cap, .int .i64 (n : Int), .slice (some ⟨bc, 0, none⟩) lc capc, .bool back, .slice none 0 0, .slice none 0 0, .slice none 0 0] 79) := ⟨_, rfl⟩
      obtain ⟨f, hf⟩ : ∃ f, f = A2.heap.size := ⟨_, rfl⟩
      have SA3 : A3.cell? ⟨s, 0, none⟩ = some nm ∧ A3.cell? ⟨s, 1, none⟩ = some pa ∧ A3.cell? ⟨s, 2, none⟩ = some lo ∧ A3.cell? ⟨s, 3, none⟩ = some (.slice oa L cap) := by
        rw [hA3]
        obtain ⟨q1, q2, q3, q4⟩ := SA2
        exact ⟨cellA _ q1, cellA _ q2, cellA _ q3, cellA _ q4⟩
      have bA3 : Below Wd.heap.size Wd A3 := by
        rw [hA3]
        exact bA2.alloc bA2.size _
      have lA3 : Below A2.heap.size A2 A3 := by
        rw [hA3]
        exact (Below.refl _ _).alloc (Nat.le_refl _) _
      rw [← hA3, ← hf]
      have xA3 := Lib.hid (And.intro hA3 hf)
      clear hA3 hf
      refine hK.out _ _ SA3 (fun hHeld => ?_)
      clear hK K
      (try simp only [Act.put, List.setIfInBounds_toArray, List.set_cons_zero, List.set_cons_succ])
      have s1 := bA1.size
      have s2 := bA2.size
      have ep := xA2.out.2
      have ef := xA3.out.2
      have hpF : Bx A3 p 73 [.pointer none] := (show Bx A2 p 73 [.pointer none] from (by rw [xA2.out.1, xA2.out.2]; exact Bx.new A1 73 [.pointer none])).below lA3 (by rw [xA2.out.1, xA2.out.2]; simp)
      have hfF : Bx A3 f 79 (#[.map (some m), nm, pa, lo, .slice oa L cap, .int .i64 (n : Int), .slice (some ⟨bc, 0, none⟩) lc capc, .bool back, .slice none 0 0, .slice none 0 0, .slice none 0 0]).toList := (by rw [xA3.out.1, xA3.out.2]; exact Bx.new A2 79 (#[.map (some m), nm, pa, lo, .slice oa L cap, .int .i64 (n : Int), .slice (some ⟨bc, 0, none⟩) lc capc, .bool back, .slice none 0 0, .slice none 0 0, .slice none 0 0]).toList)
      have cst := hpF.cell 0
      have fst := hpF.frozen 0
      simp at cst
      have hps : p ≠ s := by omega
      have HZ := Lib.hid (And.intro hpF (And.intro hfF (And.intro s1 (And.intro s2 (And.intro ep ef)))))
      clear hpF hfF s1 s2 ep ef
      refine wpAnyH_ready (rs := [11]) (by kernel_rfl) (by simp) ?_
      refine AllReadyH.cons (o := { dst := none, op := Op.store 73 (Operand.tmp 11) (Operand.tmp 25), type := 0, pos := "flow.go:69", after := #[{ on := 10, ground := Ground.data }, { on := 9, ground := Ground.data }, { on := 3, ground := Ground.chain }, { on := 0, ground := Ground.phase }, { on := 1, ground := Ground.phase }, { on := 2, ground := Ground.phase }, { on := 3, ground := Ground.phase }, { on := 4, ground := Ground.phase }, { on := 5, ground := Ground.phase }, { on := 6, ground := Ground.phase }, { on := 7, ground := Ground.phase }, { on := 8, ground := Ground.phase }, { on := 9, ground := Ground.phase }, { on := 10, ground := Ground.phase }], guard := none }) rfl (fun K hK => ?_) AllReadyH.nil
      go_simp
      obtain ⟨A4, hA4⟩ : ∃ A4, A4 = A3.setCell ⟨p, 0, none⟩ (.pointer (some ⟨f, 0, none⟩)) := ⟨_, rfl⟩
      rw [← hA4]
      have SA4 : A4.cell? ⟨s, 0, none⟩ = some nm ∧ A4.cell? ⟨s, 1, none⟩ = some pa ∧ A4.cell? ⟨s, 2, none⟩ = some lo ∧ A4.cell? ⟨s, 3, none⟩ = some (.slice oa L cap) := by
        rw [hA4]
        obtain ⟨q1, q2, q3, q4⟩ := SA3
        exact ⟨(World.cell?_setCell_far _ _ _ _ hps).trans q1, (World.cell?_setCell_far _ _ _ _ hps).trans q2, (World.cell?_setCell_far _ _ _ _ hps).trans q3, (World.cell?_setCell_far _ _ _ _ hps).trans q4⟩
      refine hK.out _ _ SA4 (fun hHeld => ?_)
      clear hK K
      (try simp only [Act.put, List.setIfInBounds_toArray, List.set_cons_zero, List.set_cons_succ])
      refine wpAnyH_done (by kernel_rfl) ?_ _
      obtain ⟨hpF, hfF, s1, s2, ep, ef⟩ := HZ.out
      have hfin := newQ_fin hwd bA3 hpF hfF (by omega) (by omega) hm1 ((hchA1.below lA2).below lA3)
      rw [← hA4] at hfin
      exact ⟨f, p, m, base, l, rv, rfl, hfin⟩
    refine AllReadyH.cons (o := { dst := some 11, op := Op.alloc 73, type := 0, pos := "flow.go:69", after := #[], guard := none }) rfl (fun K hK => ?_) AllReadyH.nil
    go_simp
    obtain ⟨A1, hA1⟩ : ∃ A1, A1 = Wd.alloc (.cells #[.pointer none] 73) := ⟨_, rfl⟩
    obtain ⟨p, hp⟩ : ∃ p, p = Wd.heap.size := ⟨_, rfl⟩
    have SA1 : A1.cell? ⟨s, 0, none⟩ = some nm ∧ A1.cell? ⟨s, 1, none⟩ = some pa ∧ A1.cell? ⟨s, 2, none⟩ = some lo ∧ A1.cell? ⟨s, 3, none⟩ = some (.slice oa L cap) := by
      rw [hA1]
      obtain ⟨q1, q2, q3, q4⟩ := SWd
      exact ⟨cellA _ q1, cellA _ q2, cellA _ q3, cellA _ q4⟩
    have bA1 : Below Wd.heap.size Wd A1 := by
      rw [hA1]
      exact bWd.alloc bWd.size _
    have lA1 : Below Wd.heap.size Wd A1 := by
      rw [hA1]
      exact (Below.refl _ _).alloc (Nat.le_refl _) _
    rw [← hA1, ← hp]
    have xA1 := Lib.hid (And.intro hA1 hp)
    clear hA1 hp
    refine hK.out _ _ SA1 (fun hHeld => ?_)
    clear hK K
    (try simp only [Act.put, List.setIfInBounds_toArray, List.set_cons_zero, List.set_cons_succ])
    refine wpAnyH_ready (rs := [3]) (by kernel_rfl) (by simp) ?_
    refine AllReadyH.cons (o := { dst := some 19, op := Op.call { callee := Callee.value (Operand.func 42), args := #[Operand.tmp 16, Operand.tmp 17, Operand.tmp 18], argTypes := #[25, 3, 27] }, type := 77, pos := "flow.go:69", after := #[{ on := 0, ground := Ground.data }, { on := 1, ground := Ground.data }, { on := 2, ground := Ground.data }], guard := none }) rfl (fun K hK => ?_) AllReadyH.nil
    go_simp
    refine (HN.out A1 (HN' _ bA1)).mono ?_
    rintro e A2 ⟨m, base, l, rv, rfl, hm1, hbA2, hchA2⟩
    have SA2 : A2.cell? ⟨s, 0, none⟩ = some nm ∧ A2.cell? ⟨s, 1, none⟩ = some pa ∧ A2.cell? ⟨s, 2, none⟩ = some lo ∧ A2.cell? ⟨s, 3, none⟩ = some (.slice oa L cap) := by
      obtain ⟨q1, q2, q3, q4⟩ := SA1
      exact ⟨below_cell hbA2 q1, below_cell hbA2 q2, below_cell hbA2 q3, below_cell hbA2 q4⟩
    have bA2 : Below Wd.heap.size Wd A2 := bA1.trans (hbA2.mono bA1.size)
    refine hK.out _ _ SA2 (fun hHeld => ?_)
    clear hK K
    (try simp only [Act.put, List.setIfInBounds_toArray, List.set_cons_zero, List.set_cons_succ])
    refine wpAnyH_take (i := 8) (oi := { dst := some 24, op := Op.build 79 #[(0, Operand.tmp 19), (1, Operand.tmp 20), (2, Operand.tmp 21), (3, Operand.tmp 22), (4, Operand.tmp 23)], type := 79, pos := "flow.go:69", after := #[{ on := 3, ground := Ground.data }, { on := 4, ground := Ground.data }, { on := 5, ground := Ground.data }, { on := 6, ground := Ground.data }, { on := 7, ground := Ground.data }], guard := none }) (v := ?vq8_18) rfl (by kernel_rfl) (by kernel_rfl) (by kernel_rfl) (fun _ _ _ h => h) (Or.inl ⟨by rfl, ?hq8_18⟩) (by assumption) ?_
    case hq8_18 => intro w hSw; (try dsimp only at hSw); go_simp; try (with_reducible rfl)
    (try simp only [Act.put, List.setIfInBounds_toArray, List.set_cons_zero, List.set_cons_succ])
    refine wpAnyH_ready (rs := [9]) (by kernel_rfl) (by simp) ?_
    refine AllReadyH.cons (o := { dst := some 25, op := Op.box 79 (Operand.tmp 24), type := 73, pos := "flow.go:69", after := #[{ on := 8, ground := Ground.data }], guard := none }) rfl (fun K hK => ?_) AllReadyH.nil
    go_simp
    obtain ⟨A3, hA3⟩ : ∃ A3, A3 = A2.alloc (.cells #[.map (some m), nm, pa, lo, .slice oa L cap, .int .i64 (n : Int), .slice (some ⟨bc, 0, none⟩) lc capc, .bool back, .slice none 0 0, .slice none 0 0, .slice none 0 0] 79) := ⟨_, rfl⟩
    obtain ⟨f, hf⟩ : ∃ f, f = A2.heap.size := ⟨_, rfl⟩
    have SA3 : A3.cell? ⟨s, 0, none⟩ = some nm ∧ A3.cell? ⟨s, 1, none⟩ = some pa ∧ A3.cell? ⟨s, 2, none⟩ = some lo ∧ A3.cell? ⟨s, 3, none⟩ = some (.slice oa L cap) := by
      rw [hA3]
      obtain ⟨q1, q2, q3, q4⟩ := SA2
      exact ⟨cellA _ q1, cellA _ q2, cellA _ q3, cellA _ q4⟩
    have bA3 : Below Wd.heap.size Wd A3 := by
      rw [hA3]
      exact bA2.alloc bA2.size _
    have lA3 : Below A2.heap.size A2 A3 := by
      rw [hA3]
      exact (Below.refl _ _).alloc (Nat.le_refl _) _
    rw [← hA3, ← hf]
    have xA3 := Lib.hid (And.intro hA3 hf)
    clear hA3 hf
    refine hK.out _ _ SA3 (fun hHeld => ?_)
    clear hK K
    (try simp only [Act.put, List.setIfInBounds_toArray, List.set_cons_zero, List.set_cons_succ])
    have s1 := bA1.size
    have s2 := bA2.size
    have ep := xA1.out.2
    have ef := xA3.out.2
    have hpF : Bx A3 p 73 [.pointer none] := ((show Bx A1 p 73 [.pointer none] from (by rw [xA1.out.1, xA1.out.2]; exact Bx.new Wd 73 [.pointer none])).below hbA2 (by rw [xA1.out.1, xA1.out.2]; simp)).below lA3 (by have := hbA2.size; have h9 : Wd.heap.size < A1.heap.size := (by rw [xA1.out.1]; simp); have := xA1.out.2; omega)
    have hfF : Bx A3 f 79 (#[.map (some m), nm, pa, lo, .slice oa L cap, .int .i64 (n : Int), .slice (some ⟨bc, 0, none⟩) lc capc, .bool back, .slice none 0 0, .slice none 0 0, .slice none 0 0]).toList := (by rw [xA3.out.1, xA3.out.2]; exact Bx.new A2 79 (#[.map (some m), nm, pa, lo, .slice oa L cap, .int .i64 (n : Int), .slice (some ⟨bc, 0, none⟩) lc capc, .bool back, .slice none 0 0, .slice none 0 0, .slice none 0 0]).toList)
    have cst := hpF.cell 0
    have fst := hpF.frozen 0
    simp at cst
    have hps : p ≠ s := by omega
    have HZ := Lib.hid (And.intro hpF (And.intro hfF (And.intro s1 (And.intro s2 (And.intro ep ef)))))
    clear hpF hfF s1 s2 ep ef
    refine wpAnyH_ready (rs := [11]) (by kernel_rfl) (by simp) ?_
    refine AllReadyH.cons (o := { dst := none, op := Op.store 73 (Operand.tmp 11) (Operand.tmp 25), type := 0, pos := "flow.go:69", after := #[{ on := 10, ground := Ground.data }, { on := 9, ground := Ground.data }, { on := 3, ground := Ground.chain }, { on := 0, ground := Ground.phase }, { on := 1, ground := Ground.phase }, { on := 2, ground := Ground.phase }, { on := 3, ground := Ground.phase }, { on := 4, ground := Ground.phase }, { on := 5, ground := Ground.phase }, { on := 6, ground := Ground.phase }, { on := 7, ground := Ground.phase }, { on := 8, ground := Ground.phase }, { on := 9, ground := Ground.phase }, { on := 10, ground := Ground.phase }], guard := none }) rfl (fun K hK => ?_) AllReadyH.nil
    go_simp
    obtain ⟨A4, hA4⟩ : ∃ A4, A4 = A3.setCell ⟨p, 0, none⟩ (.pointer (some ⟨f, 0, none⟩)) := ⟨_, rfl⟩
    rw [← hA4]
    have SA4 : A4.cell? ⟨s, 0, none⟩ = some nm ∧ A4.cell? ⟨s, 1, none⟩ = some pa ∧ A4.cell? ⟨s, 2, none⟩ = some lo ∧ A4.cell? ⟨s, 3, none⟩ = some (.slice oa L cap) := by
      rw [hA4]
      obtain ⟨q1, q2, q3, q4⟩ := SA3
      exact ⟨(World.cell?_setCell_far _ _ _ _ hps).trans q1, (World.cell?_setCell_far _ _ _ _ hps).trans q2, (World.cell?_setCell_far _ _ _ _ hps).trans q3, (World.cell?_setCell_far _ _ _ _ hps).trans q4⟩
    refine hK.out _ _ SA4 (fun hHeld => ?_)
    clear hK K
    (try simp only [Act.put, List.setIfInBounds_toArray, List.set_cons_zero, List.set_cons_succ])
    refine wpAnyH_done (by kernel_rfl) ?_ _
    obtain ⟨hpF, hfF, s1, s2, ep, ef⟩ := HZ.out
    have hfin := newQ_fin hwd bA3 hpF hfF (by omega) (by omega) hm1 (hchA2.below lA3)
    rw [← hA4] at hfin
    exact ⟨f, p, m, base, l, rv, rfl, hfin⟩
  case cont =>
    intro e a' w2 hq
    cases e with
    | ret => exact hq.elim
    | exit id => exact hq.elim
    | goto t => exact hq.elim
    | panic ch => exact hq.elim
    | outgrown => exact hq.elim
    | normal =>

      obtain ⟨f, p, m, base, l, rv, rfl, hb2, hf0, hp0, hm0, hpx, hfx, hch⟩ := hq
      obtain ⟨hB, hs, hC, hcs, hn0, hbc, hcl, hL, hnC, hlc, hni⟩ := HA.out
      have hfx' : Bx w2 f 79 (flC m (⟨nm, pa, lo, oa, cap, g⟩ : Bv) n (.slice (some ⟨bc, 0, none⟩) c.length capc) back (.slice none 0 0) (.slice none 0 0) (.slice none 0 0)) := by
        have h := hfx
        rw [hL, hlc] at h
        exact h
      have hB2 := hB.below hb2 hn0
      have hbc2 := hbc.below hb2 hbc.lt
      have hlcL : lc ≤ 1000 := by omega
      have hbcl := hbc.lt
      have HR1 := Lib.hid (rows_any f m (⟨nm, pa, lo, oa, cap, g⟩ : Bv) n back (.slice none 0 0) (.slice none 0 0) (.slice none 0 0) bc capc c ex false w2.drew hfx' hbc2 hcl hn (by omega))
      have HR2 : Go.RowKit.Hid (∀ X1 : World, Below w2.heap.size w2 X1 → Calls Try.prog 43 #[.pointer (some ⟨f, 0, none⟩), .bool true] X1 fun e w' => ∃ bm R, e = .returned (.slice (some ⟨bm, 0, none⟩) c.length c.length) ∧ X1.heap.size ≤ bm ∧ (∀ i ∈ ones c, X1.heap.size ≤ R i) ∧
            (∀ i ∈ ones c, ∀ j ∈ ones c, R i = R j → i = j) ∧ Below X1.heap.size X1 w' ∧ Mat w' bm c n R (fun _ => List.replicate n true)) := Lib.hid (fun X1 hX => rows_any f m (⟨nm, pa, lo, oa, cap, g⟩ : Bv) n back (.slice none 0 0) (.slice none 0 0) (.slice none 0 0) bc capc c ex true X1 (hfx'.below hX hfx'.lt) (hbc2.below hX hbc2.lt) hcl hn (by omega))
      have y1 := hpx.cell 0
      simp at y1
      have hpf : p ≠ f := bx_ne hpx hfx' (by decide)
      have hfl2 := hfx'.lt
      have hpl2 := hpx.lt
      have HQ := Lib.hid (And.intro hb2 (And.intro hf0 (And.intro hp0 (And.intro hm0 (And.intro hpx (And.intro hfx' (And.intro hch (And.intro hB2 hbc2))))))))
      clear hb2 hf0 hp0 hm0 hpx hfx hfx' hch hB2 hbc2 hB hs hC hcs hn0 hbc hcl hL hnC hlc hni HN
      go_upto_region 3 with fail
      refine wp_mono (Q := NewR w nm pa lo oa cap g L n nC lc s oc capC bc capc back ni C c ex w2 f p m base l rv) ?reg3 ?cont3
      case reg3 =>
        refine wp_region_held_drew (S := (fun w' => w'.cell? ⟨p, 0, none⟩ = some (.pointer (some ⟨f, 0, none⟩)))) (by kernel_rfl) ?_ (fun hHeld => ?_)
        · exact y1
        obtain ⟨w3, hw3⟩ : ∃ w3, w3 = w2.drew := ⟨_, rfl⟩
        rw [← hw3] at HR1
        have y1' : w3.cell? ⟨p, 0, none⟩ = some (.pointer (some ⟨f, 0, none⟩)) := by rw [hw3]; exact y1
        rw [← hw3]
        have b3 : Below w2.heap.size w2 w3 := by rw [hw3]; exact (Below.refl _ w2).drew
        clear y1 hw3
        refine wpAnyH_take (i := 0) (oi := { dst := some 26, op := Op.load 73 (Operand.tmp 11), type := 73, pos := "flow.go:70", after := #[], guard := none }) (v := ?vq0_19) rfl (by kernel_rfl) (by kernel_rfl) (by kernel_rfl) (fun _ _ _ h => h) (Or.inl ⟨by rfl, ?hq0_19⟩) (by assumption) ?_
        case hq0_19 => intro w hSw; (try dsimp only at hSw); go_simp; try (with_reducible rfl)
        (try simp only [Act.put, List.setIfInBounds_toArray, List.set_cons_zero, List.set_cons_succ])
        refine wpAnyH_take (i := 1) (oi := { dst := some 27, op := Op.load 73 (Operand.tmp 11), type := 73, pos := "flow.go:70", after := #[{ on := 8, ground := Ground.gcOnly Departure.lateStores }], guard := none }) (v := ?vq1_20) rfl (by kernel_rfl) (by kernel_rfl) (by kernel_rfl) (fun _ _ _ h => h) (Or.inl ⟨by rfl, ?hq1_20⟩) (by assumption) ?_
        case hq1_20 => intro w hSw; (try dsimp only at hSw); go_simp; try (with_reducible rfl)
        (try simp only [Act.put, List.setIfInBounds_toArray, List.set_cons_zero, List.set_cons_succ])
        refine wpAnyH_take (i := 2) (oi := { dst := some 28, op := Op.load 73 (Operand.tmp 11), type := 73, pos := "flow.go:70", after := #[], guard := none }) (v := ?vq2_21) rfl (by kernel_rfl) (by kernel_rfl) (by kernel_rfl) (fun _ _ _ h => h) (Or.inl ⟨by rfl, ?hq2_21⟩) (by assumption) ?_
        case hq2_21 => intro w hSw; (try dsimp only at hSw); go_simp; try (with_reducible rfl)
        (try simp only [Act.put, List.setIfInBounds_toArray, List.set_cons_zero, List.set_cons_succ])
        refine wpAnyH_take (i := 4) (oi := { dst := some 30, op := Op.load 73 (Operand.tmp 11), type := 73, pos := "flow.go:70", after := #[], guard := none }) (v := ?vq4_22) rfl (by kernel_rfl) (by kernel_rfl) (by kernel_rfl) (fun _ _ _ h => h) (Or.inl ⟨by rfl, ?hq4_22⟩) (by assumption) ?_
        case hq4_22 => intro w hSw; (try dsimp only at hSw); go_simp; try (with_reducible rfl)
        (try simp only [Act.put, List.setIfInBounds_toArray, List.set_cons_zero, List.set_cons_succ])
        refine wpAnyH_ready (rs := [3]) (by kernel_rfl) (by simp) ?_
        refine AllReadyH.cons (o := { dst := some 29, op := Op.call { callee := Callee.value (Operand.func 43), args := #[Operand.tmp 28, Operand.const (Value.bool false)], argTypes := #[73, 4] }, type := 44, pos := "flow.go:70", after := #[{ on := 2, ground := Ground.data }], guard := none }) rfl (fun K hK => ?_) AllReadyH.nil
        go_simp
        refine HR1.out.mono ?_
        rintro e X1 ⟨bn, Rn, rfl, hn1, hn2, hn3, hn4, hn5⟩
        have b31 : Below w2.heap.size w2 X1 := b3.trans (hn4.mono b3.size)
        have y2 : X1.cell? ⟨p, 0, none⟩ = some (.pointer (some ⟨f, 0, none⟩)) := below_cell hn4 y1'
        refine hK.out _ _ y2 (fun hHeld => ?_)
        clear hK K
        have H1 := Lib.hid (And.intro hn1 (And.intro hn2 (And.intro hn3 (And.intro hn4 hn5))))
        clear hn1 hn2 hn3 hn4 hn5 y1'
        (try simp only [Act.put, List.setIfInBounds_toArray, List.set_cons_zero, List.set_cons_succ])
        refine wpAnyH_ready (rs := [5]) (by kernel_rfl) (by simp) ?_
        refine AllReadyH.cons (o := { dst := some 31, op := Op.call { callee := Callee.value (Operand.func 43), args := #[Operand.tmp 30, Operand.const (Value.bool true)], argTypes := #[73, 4] }, type := 44, pos := "flow.go:70", after := #[{ on := 4, ground := Ground.data }, { on := 3, ground := Ground.chain }], guard := none }) rfl (fun K hK => ?_) AllReadyH.nil
        go_simp
        refine (HR2.out X1 b31).mono ?_
        rintro e X2 ⟨ba, Ra, rfl, ha1, ha2, ha3, ha4, ha5⟩
        have b32 : Below w2.heap.size w2 X2 := b31.trans (ha4.mono b31.size)
        have y3 : X2.cell? ⟨p, 0, none⟩ = some (.pointer (some ⟨f, 0, none⟩)) := below_cell ha4 y2
        refine hK.out _ _ y3 (fun hHeld => ?_)
        clear hK K
        have H2 := Lib.hid (And.intro ha1 (And.intro ha2 (And.intro ha3 (And.intro ha4 ha5))))
        clear ha1 ha2 ha3 ha4 ha5 y2
        have f2 := HQ.out.2.2.2.2.2.1.below b32 hfl2
        have cf9 := f2.cell 9
        have ff9 := f2.frozen 9
        simp [flC] at cf9
        have HF2 := Lib.hid f2
        clear f2
        (try simp only [Act.put, List.setIfInBounds_toArray, List.set_cons_zero, List.set_cons_succ])
        refine wpAnyH_take (i := 6) (oi := { dst := some 32, op := Op.nilCheck (Operand.tmp 26), type := 0, pos := "flow.go:70", after := #[{ on := 0, ground := Ground.data }, { on := 0, ground := Ground.phase }, { on := 1, ground := Ground.textOnly Departure.lateStores }, { on := 2, ground := Ground.phase }, { on := 3, ground := Ground.phase }, { on := 4, ground := Ground.textOnly Departure.lateStores }, { on := 5, ground := Ground.phase }], guard := none }) (v := ?vq6_23) rfl (by kernel_rfl) (by kernel_rfl) (by kernel_rfl) (fun _ _ _ h => h) (Or.inl ⟨by rfl, ?hq6_23⟩) (by assumption) ?_
        case hq6_23 => intro w hSw; (try dsimp only at hSw); go_simp; try (with_reducible rfl)
        (try simp only [Act.put, List.setIfInBounds_toArray, List.set_cons_zero, List.set_cons_succ])
        refine wpAnyH_take (i := 7) (oi := { dst := some 33, op := Op.fieldAddr 79 (Operand.tmp 32) 6, type := 0, pos := "flow.go:70", after := #[{ on := 6, ground := Ground.data }, { on := 0, ground := Ground.phase }, { on := 1, ground := Ground.textOnly Departure.lateStores }, { on := 2, ground := Ground.phase }, { on := 3, ground := Ground.phase }, { on := 4, ground := Ground.textOnly Departure.lateStores }, { on := 5, ground := Ground.phase }], guard := none }) (v := ?vq7_24) rfl (by kernel_rfl) (by kernel_rfl) (by kernel_rfl) (fun _ _ _ h => h) (Or.inl ⟨by rfl, ?hq7_24⟩) (by assumption) ?_
        case hq7_24 => intro w hSw; (try dsimp only at hSw); go_simp; try (with_reducible rfl)
        (try simp only [Act.put, List.setIfInBounds_toArray, List.set_cons_zero, List.set_cons_succ])
        refine wpAnyH_ready (rs := [8]) (by kernel_rfl) (by simp) ?_
        refine AllReadyH.cons (o := { dst := none, op := Op.store 44 (Operand.tmp 33) (Operand.tmp 29), type := 0, pos := "flow.go:70", after := #[{ on := 7, ground := Ground.data }, { on := 3, ground := Ground.data }, { on := 5, ground := Ground.chain }, { on := 0, ground := Ground.phase }, { on := 1, ground := Ground.textOnly Departure.lateStores }, { on := 2, ground := Ground.phase }, { on := 3, ground := Ground.phase }, { on := 4, ground := Ground.textOnly Departure.lateStores }, { on := 5, ground := Ground.phase }], guard := none }) rfl (fun K hK => ?_) AllReadyH.nil
        go_simp
        obtain ⟨X3, hX3⟩ : ∃ X3, X3 = X2.setCell ⟨f, 9, none⟩ (.slice (some ⟨bn, 0, none⟩) c.length c.length) := ⟨_, rfl⟩
        rw [← hX3]
        have y4 : X3.cell? ⟨p, 0, none⟩ = some (.pointer (some ⟨f, 0, none⟩)) := by
          rw [hX3]
          exact (World.cell?_setCell_far _ _ _ _ (show f ≠ p by omega)).trans y3
        refine hK.out _ _ y4 (fun hHeld => ?_)
        clear hK K
        have f3 : Bx X3 f 79 (flC m (⟨nm, pa, lo, oa, cap, g⟩ : Bv) n (.slice (some ⟨bc, 0, none⟩) c.length capc) back (.slice none 0 0) (.slice (some ⟨bn, 0, none⟩) c.length c.length) (.slice none 0 0)) := by
          rw [hX3]
          exact HF2.out.set 9 _
        have cf10 := f3.cell 10
        have ff10 := f3.frozen 10
        simp [flC] at cf10
        have HF3 := Lib.hid (And.intro f3 hX3)
        clear f3 hX3 y3 cf9 ff9
        (try simp only [Act.put, List.setIfInBounds_toArray, List.set_cons_zero, List.set_cons_succ])
        refine wpAnyH_take (i := 9) (oi := { dst := some 34, op := Op.nilCheck (Operand.tmp 27), type := 0, pos := "flow.go:70", after := #[{ on := 1, ground := Ground.data }, { on := 0, ground := Ground.phase }, { on := 1, ground := Ground.phase }, { on := 2, ground := Ground.phase }, { on := 3, ground := Ground.phase }, { on := 4, ground := Ground.phase }, { on := 5, ground := Ground.phase }, { on := 6, ground := Ground.phase }, { on := 7, ground := Ground.phase }, { on := 8, ground := Ground.phase }], guard := none }) (v := ?vq9_25) rfl (by kernel_rfl) (by kernel_rfl) (by kernel_rfl) (fun _ _ _ h => h) (Or.inl ⟨by rfl, ?hq9_25⟩) (by assumption) ?_
        case hq9_25 => intro w hSw; (try dsimp only at hSw); go_simp; try (with_reducible rfl)
        (try simp only [Act.put, List.setIfInBounds_toArray, List.set_cons_zero, List.set_cons_succ])
        refine wpAnyH_take (i := 10) (oi := { dst := some 35, op := Op.fieldAddr 79 (Operand.tmp 34) 7, type := 0, pos := "flow.go:70", after := #[{ on := 9, ground := Ground.data }, { on := 0, ground := Ground.phase }, { on := 1, ground := Ground.phase }, { on := 2, ground := Ground.phase }, { on := 3, ground := Ground.phase }, { on := 4, ground := Ground.phase }, { on := 5, ground := Ground.phase }, { on := 6, ground := Ground.phase }, { on := 7, ground := Ground.phase }, { on := 8, ground := Ground.phase }], guard := none }) (v := ?vq10_26) rfl (by kernel_rfl) (by kernel_rfl) (by kernel_rfl) (fun _ _ _ h => h) (Or.inl ⟨by rfl, ?hq10_26⟩) (by assumption) ?_
        case hq10_26 => intro w hSw; (try dsimp only at hSw); go_simp; try (with_reducible rfl)
        (try simp only [Act.put, List.setIfInBounds_toArray, List.set_cons_zero, List.set_cons_succ])
        refine wpAnyH_ready (rs := [11]) (by kernel_rfl) (by simp) ?_
        refine AllReadyH.cons (o := { dst := none, op := Op.store 44 (Operand.tmp 35) (Operand.tmp 31), type := 0, pos := "flow.go:70", after := #[{ on := 10, ground := Ground.data }, { on := 5, ground := Ground.data }, { on := 8, ground := Ground.chain }, { on := 0, ground := Ground.phase }, { on := 1, ground := Ground.phase }, { on := 2, ground := Ground.phase }, { on := 3, ground := Ground.phase }, { on := 4, ground := Ground.phase }, { on := 5, ground := Ground.phase }, { on := 6, ground := Ground.phase }, { on := 7, ground := Ground.phase }, { on := 8, ground := Ground.phase }], guard := none }) rfl (fun K hK => ?_) AllReadyH.nil
        go_simp
        obtain ⟨X4, hX4⟩ : ∃ X4, X4 = X3.setCell ⟨f, 10, none⟩ (.slice (some ⟨ba, 0, none⟩) c.length c.length) := ⟨_, rfl⟩
        rw [← hX4]
        have y5 : X4.cell? ⟨p, 0, none⟩ = some (.pointer (some ⟨f, 0, none⟩)) := by
          rw [hX4]
          exact (World.cell?_setCell_far _ _ _ _ (show f ≠ p by omega)).trans y4
        refine hK.out _ _ y5 (fun hHeld => ?_)
        clear hK K
        (try simp only [Act.put, List.setIfInBounds_toArray, List.set_cons_zero, List.set_cons_succ])
        refine wpAnyH_done (by kernel_rfl) ?_ _

        have hk4 : Kep (fun b => b = f) X2 X4 := by
          rw [hX4, HF3.out.2]
          exact Kep.setCell (M := fun b => b = f) (p := ⟨f, 10, none⟩) (Kep.setCell (M := fun b => b = f) (p := ⟨f, 9, none⟩) (Kep.refl _ X2) (.inr rfl) _) (.inr rfl) _
        have f4 : Bx X4 f 79 (flC m (⟨nm, pa, lo, oa, cap, g⟩ : Bv) n (.slice (some ⟨bc, 0, none⟩) c.length capc) back (.slice none 0 0) (.slice (some ⟨bn, 0, none⟩) c.length c.length) (.slice (some ⟨ba, 0, none⟩) c.length c.length)) := by
          rw [hX4]
          exact HF3.out.1.set 10 _
        have hNew : NewAt w X4 f m base bn ba Rn Ra l rv (⟨nm, pa, lo, oa, cap, g⟩ : Bv) n C bc capc c back (.slice none 0 0) (fun _ => List.replicate n false) (fun _ => List.replicate n true) := by
          obtain ⟨hb2, hf0, hp0, hm0, hpx, hfx, hch, hB2, hbc2⟩ := HQ.out
          obtain ⟨hn1, hn2, hn3, hn4, hn5⟩ := H1.out
          obtain ⟨ha1, ha2, ha3, ha4, ha5⟩ := H2.out
          have z1 := hb2.size
          have z3 := b3.size
          have z2 := hn4.size
          have zbn := hn5.rows.lt
          have hkw : Kep (fun b => b = f) w2 X4 := ((Kep.of_below (M := fun b => b = f) b32).sub hk4 (fun _ h => .inr h))
          refine ⟨f4, (hch.keep hkw (fun k hk => .inr ⟨_, _, hk ▸ hfx, by decide⟩)), ((hn5.below ha4).kep hk4 (by omega) (fun i hi => by have := hn2 i hi; omega)), (ha5.kep hk4 (by omega) (fun i hi => by have := ha2 i hi; omega)),
            ⟨hf0, hm0, by omega, by omega⟩, fun i hi => ⟨by have := hn2 i hi; omega, by have := ha2 i hi; omega⟩, hn3, ha3, fun i hi j hj => by have := (hn5.row i hi).2.lt; have := ha2 j hj; omega, by omega, hb2.trans (hkw.to_below (by omega) (fun q hq e => by omega))⟩
        have hsz4 : w2.heap.size ≤ X4.heap.size := Nat.le_trans b32.size hk4.size
        have hX4p : Bx X4 p 73 [.pointer (some ⟨f, 0, none⟩)] := ((HQ.out.2.2.2.2.1.below b32 hpl2)).kep hk4 hpf
        have hbc4 : Bx X4 bc 4 (bC c ++ ex) := (HQ.out.2.2.2.2.2.2.2.2.below b32 HQ.out.2.2.2.2.2.2.2.2.lt).kep hk4 (by have := HQ.out.2.1; omega)
        exact ⟨bn, ba, Rn, Ra, rfl, hNew, hsz4, hX4p, hbc4⟩
      case cont3 =>
        intro e a' X4 hq3
        cases e with
        | ret => exact hq3.elim
        | exit id => exact hq3.elim
        | goto t => exact hq3.elim
        | panic ch => exact hq3.elim
        | outgrown => exact hq3.elim
        | normal =>
          obtain ⟨bn, ba, Rn, Ra, rfl, hNew, hsz4, hX4p, hbc4⟩ := hq3
          have hcl := HA.out.2.2.2.2.2.2.1
          have hLL := HA.out.2.2.2.2.2.2.2.1
          have hc1k : c.length ≤ 1000 := by rw [hcl, ← hLL]; exact hL1
          have y1 := hX4p.cell 0
          simp at y1
          have HX := Lib.hid (And.intro hNew (And.intro hsz4 (And.intro hX4p (And.intro hbc4 (And.intro hcl hLL)))))
          clear hNew hsz4 hX4p hbc4 hcl hLL
          go_wp2_with (go_at_call 44; refine (each_any f _).mono ?_; rintro e w' ⟨rfl, rfl⟩)
          obtain ⟨W5, hW5⟩ : ∃ W5, W5 = X4.alloc (.cells #[.pointer (some ⟨f, 0, none⟩)] 73) := ⟨_, rfl⟩
          obtain ⟨e0, he0⟩ : ∃ e0, e0 = X4.heap.size := ⟨_, rfl⟩
          obtain ⟨hNew, hsz4, hX4p, hbc4, hcl, hLL⟩ := HX.out
          have b5 : Below X4.heap.size X4 W5 := by
            rw [hW5]
            exact (Below.refl _ _).alloc (Nat.le_refl _) _
          have v1 : Bx W5 e0 73 [.pointer (some ⟨f, 0, none⟩)] := by
            rw [hW5, he0]
            exact Bx.new X4 _ [.pointer (some ⟨f, 0, none⟩)]
          have v2 := hX4p.below b5 hX4p.lt
          have v3 := hNew.flow.below b5 hNew.flow.lt
          have v4 := hbc4.below b5 hbc4.lt
          have v5 := hNew.ch.below b5
          have v6 := hNew.mn.below b5
          have v7 := hNew.ma.below b5
          have hsz : W5.heap.size = e0 + 1 := by rw [hW5, he0]; simp
          have hB5 : Bv.At (⟨nm, pa, lo, oa, cap, g⟩ : Bv) n0 W5 := HA.out.1.below (hNew.bel.trans (b5.mono hNew.bel.size)) HA.out.2.2.2.2.1
          have hbcl := HA.out.2.2.2.2.2.1.lt
          have hnm : ∀ b, (b = e0 ∨ b = p ∨ b = f ∨ b = bc ∨ b = bn ∨ b = ba ∨ W5.heap.size ≤ b) → ¬ ∃ i ∈ ones c, b = Rn i ∨ b = Ra i := by
            rintro b hb ⟨i, hi, he⟩
            have q1 := (hNew.mn.row i hi).2
            have q2 := (hNew.ma.row i hi).2
            have q3 := hNew.geR i hi
            have q4 := q1.lt
            have q5 := q2.lt
            rcases he with he | he
            · rcases hb with h | h | h | h | h | h | h
              · omega
              · exact bx_ne hX4p q1 (by decide) (h ▸ he)
              · exact bx_ne hNew.flow q1 (by decide) (h ▸ he)
              · omega
              · exact bx_ne hNew.mn.rows q1 (by decide) (h ▸ he)
              · exact bx_ne hNew.ma.rows q1 (by decide) (h ▸ he)
              · omega
            · rcases hb with h | h | h | h | h | h | h
              · omega
              · exact bx_ne hX4p q2 (by decide) (h ▸ he)
              · exact bx_ne hNew.flow q2 (by decide) (h ▸ he)
              · omega
              · exact bx_ne hNew.mn.rows q2 (by decide) (h ▸ he)
              · exact bx_ne hNew.ma.rows q2 (by decide) (h ▸ he)
              · omega
          have hlow : w.heap.size ≤ W5.heap.size ∧ ∀ q, q < w.heap.size → ¬ ∃ i ∈ ones c, q = Rn i ∨ q = Ra i := ⟨Nat.le_trans hNew.bel.size b5.size, fun q hq ⟨i, hi, he⟩ => by have := hNew.geR i hi; omega⟩
          rw [← hW5, ← he0]
          have HW := Lib.hid (And.intro v1 (And.intro v2 (And.intro v3 (And.intro v4 (And.intro v5 (And.intro v6 (And.intro v7 (And.intro hsz (And.intro hB5 (And.intro b5 (And.intro hcl (And.intro hLL hlow))))))))))))
          have HNM := Lib.hid hnm
          have HGV := Lib.hid (each_giv e0 f bc capc c ex hc1k)
          clear v1 v2 v3 v4 v5 v6 v7 hsz hB5 b5 hcl hLL hlow hnm hNew hsz4 hX4p hbc4 hW5 he0 hbcl y1
          refine wp_range HGV.out rfl (enters_of Try.func59 (by kernel_rfl) rfl) (fun _ => rfl) (fun b => ∃ i ∈ ones c, b = Rn i ∨ b = Ra i) ⟨HNM.out _ (by simp), HNM.out _ (by simp)⟩
            (fun k W => Kep (fun b => ∃ i ∈ ones c, b = Rn i ∨ b = Ra i) W5 W ∧ Mat W bn c n Rn (begF g n C back c k false) ∧ Mat W ba c n Ra (begF g n C back c k true)) ?hI ?hID ?h0 ?hround ?hdone
          case hI =>
            rintro k W r o o' hr ho hoc ⟨h1, h2, h3⟩
            exact ⟨h1.put (.inl hr) _, h2.put _ ho hoc, h3.put _ ho hoc⟩
          case hID =>
            rintro k W ⟨h1, -, -⟩
            obtain ⟨v1, v2, v3, v4, v5, v6, v7, hsz, hB5, b5, hcl, hLL, hlow⟩ := HW.out
            exact ⟨v1.kep h1 (HNM.out _ (by simp)), ⟨_, v3.kep h1 (HNM.out _ (by simp)), rfl⟩, v4.kep h1 (HNM.out _ (by simp))⟩
          case h0 =>
            intro r
            obtain ⟨v1, v2, v3, v4, v5, v6, v7, hsz, hB5, b5, hcl, hLL, hlow⟩ := HW.out
            rw [begF_zero, begF_zero]
            have hb : Below W5.heap.size W5 ((W5.alloc (.deferred (some []))).alloc (.loop r)) := ((Below.refl _ _).alloc (Nat.le_refl _) _).alloc (by simp) _
            exact ⟨((Kep.refl _ _).alloc _).alloc _, v6.below hb, v7.below hb⟩
          case hround =>
            rintro k hk W ⟨h1, h2, h3⟩ hrec -
            obtain ⟨x, hx⟩ : ∃ x, x = (ones c)[k] := ⟨_, rfl⟩
            rw [← hx]
            have hxc : x ∈ ones c := hx ▸ List.getElem_mem hk
            have HI := Lib.hid (And.intro h1 (And.intro h2 (And.intro h3 (And.intro hrec hx))))
            clear h1 h2 h3 hrec hx
            gi_wp2
            refine ⟨(Kep.refl _ _).alloc _, fun rr => ?_⟩
            obtain ⟨V, hV⟩ : ∃ V, V = (W.alloc (.cells #[.int .i64 (x : Int)] 3)).putObj (W5.heap.size + 1) (.loop rr) := ⟨_, rfl⟩
            obtain ⟨q0, hq0⟩ : ∃ q0, q0 = W.heap.size := ⟨_, rfl⟩
            obtain ⟨v1, v2, v3, v4, v5, v6, v7, hsz, hB5, b5, hcl, hLL, hlow⟩ := HW.out
            obtain ⟨h1, h2, h3, ⟨r0, hrec⟩, hx⟩ := HI.out
            have hrl : W5.heap.size + 1 < W.heap.size := (Array.getElem?_eq_some_iff.1 hrec).1
            have hrec' : (W.alloc (.cells #[.int .i64 (x : Int)] 3)).heap[W5.heap.size + 1]? = some (.loop r0) := (Below.heap_alloc _ _ _ hrl).trans hrec
            have hbW : Below W.heap.size W (W.alloc (.cells #[.int .i64 (x : Int)] 3)) := (Below.refl _ _).alloc (Nat.le_refl _) _
            have kV : Kep (fun b => ∃ i ∈ ones c, b = Rn i ∨ b = Ra i) W5 V := by
              rw [hV]
              exact (h1.alloc _).put (.inl (by omega)) _
            have x1 : Bx V q0 3 [.int .i64 (x : Int)] := by
              rw [hV, hq0]
              exact (Bx.new W _ [.int .i64 (x : Int)]).put _ hrec' rfl
            have m1 : Mat V bn c n Rn (begF g n C back c k false) := by
              rw [hV]
              exact (h2.below hbW).put _ hrec' rfl
            have m2 : Mat V ba c n Ra (begF g n C back c k true) := by
              rw [hV]
              exact (h3.below hbW).put _ hrec' rfl
            have hl0 : ∃ r, V.heap[W5.heap.size + 1]? = some (.loop r) := by
              rw [hV]
              exact ⟨rr, World.putObj_heap_same (Nat.lt_of_lt_of_le hrl hbW.size)⟩
            have w2V := v2.kep kV (HNM.out _ (by simp))
            have w3V := v3.kep kV (HNM.out _ (by simp))
            have z1 := w2V.cell 0
            have z2 := x1.cell 0
            simp at z1 z2
            have hxg : x < g.length := by rw [← hcl]; exact (ones_lt hxc).1
            have hBV : Bv.At (⟨nm, pa, lo, oa, cap, g⟩ : Bv) n0 V := hB5.below (kV.to_below hlow.1 hlow.2) HA.out.2.2.2.2.1
            have HAL := Lib.hid (along_any n0 f m (⟨nm, pa, lo, oa, cap, g⟩ : Bv) n (.slice (some ⟨bc, 0, none⟩) c.length capc) back (.slice none 0 0) (.slice (some ⟨bn, 0, none⟩) c.length c.length) (.slice (some ⟨ba, 0, none⟩) c.length c.length) x hxg HA.out.2.1 V w3V hBV)
            have hin : insR g x ≤ 1000 := (HA.out.2.1.2 x).1
            have HV := Lib.hid (And.intro kV (And.intro x1 (And.intro m1 (And.intro m2 (And.intro hl0 (And.intro hV (And.intro hq0 hx)))))))
            rw [← hV, ← hq0]
            clear v1 v2 v3 v4 v5 v6 v7 hsz hB5 b5 hcl hLL hlow h1 h2 h3 hrec hx hrl hrec' hbW kV x1 m1 m2 hl0 w2V w3V hBV hV hq0
            have hfn : ∀ f, (Fence.wide).fn f = True := fun _ => rfl
            have hdp : (Fence.wide).depth = none := rfl
            have hfn1 : ∀ f, (WR (W5.heap.size + 1)).fn f = True := fun _ => rfl
            have hdp1 : (WR (W5.heap.size + 1)).depth = none := rfl
            gi_wp2_with (gi_at_call 45; refine (CallsIn.inRound _ (callsIn_wide.2 HAL.out)).mono ?_; clear HAL; rintro e w' ⟨rfl, rfl⟩)
            clear hfn hdp hfn1 hdp1
            obtain ⟨V6, hV6⟩ : ∃ V6, V6 = (V.alloc (.cells #[.pointer (some ⟨f, 0, none⟩)] 73)).alloc (.cells #[.int .i64 (insR g x : Int)] 3) := ⟨_, rfl⟩
            obtain ⟨s6, hs6⟩ : ∃ s6, s6 = V.heap.size := ⟨_, rfl⟩
            obtain ⟨kV, x1, m1, m2, hl0, hV, hq0, hx⟩ := HV.out
            obtain ⟨v1, v2, v3, v4, v5, v6, v7, hsz, hB5, b5, hcl, hLL, hlow⟩ := HW.out
            have b6 : Below V.heap.size V V6 := by
              rw [hV6]
              exact ((Below.refl _ _).alloc (Nat.le_refl _) _).alloc (by simp) _
            have k6 : Kep (fun b => ∃ i ∈ ones c, b = Rn i ∨ b = Ra i) W5 V6 := by
              rw [hV6]
              exact (kV.alloc _).alloc _
            have t1 : Bx V6 s6 73 [.pointer (some ⟨f, 0, none⟩)] := by
              rw [hV6, hs6]
              exact (Bx.new V _ [.pointer (some ⟨f, 0, none⟩)]).alloc _
            have t2 : Bx V6 (s6 + 1) 3 [.int .i64 (insR g x : Int)] := by
              rw [hV6, hs6]
              have := Bx.new (V.alloc (.cells #[.pointer (some ⟨f, 0, none⟩)] 73)) 3 [.int .i64 (insR g x : Int)]
              rwa [World.size_alloc] at this
            have t3 := x1.below b6 x1.lt
            have t4 := v3.kep k6 (HNM.out _ (by simp))
            have t5 := m1.below b6
            have t6 := m2.below b6
            have hq5 : W5.heap.size ≤ q0 := by rw [hq0]; exact HI.out.1.size
            have hs5 : W5.heap.size ≤ s6 := by rw [hs6]; exact kV.size
            have hsz6 : V6.heap.size = s6 + 1 + 1 := by rw [hV6, hs6]; simp
            have hl6 : ∃ r, V6.heap[W5.heap.size + 1]? = some (.loop r) := by
              obtain ⟨r, hr⟩ := hl0
              exact ⟨r, (b6.block _ (Array.getElem?_eq_some_iff.1 hr).1).trans hr⟩
            have H6 := Lib.hid (And.intro b6 (And.intro k6 (And.intro t1 (And.intro t2 (And.intro t3 (And.intro t4 (And.intro t5 (And.intro t6 (And.intro hq5 (And.intro hs5 hsz6))))))))))
            have HG2 := Lib.hid (along_giv (s6 + 1) s6 f (insR g x) back hin)
            rw [← hV6, ← hs6]
            clear kV x1 m1 m2 hl0 hV hq0 hx v1 v2 v3 v4 v5 v6 v7 hsz hB5 b5 hcl hLL hlow b6 k6 t1 t2 t3 t4 t5 t6 hq5 hs5 hsz6 hV6 hs6 z1 z2
            refine wpIn_range hl6 HG2.out rfl (enters_of Try.func60 (by kernel_rfl) rfl) (fun _ => rfl) (fun b => ∃ i ∈ ones c, b = Rn i ∨ b = Ra i) (HNM.out _ (by have := H6.out; have h5 := H6.out.2.2.2.2.2.2.2.2.2.1; have h6 := H6.out.2.2.2.2.2.2.2.2.2.2; right; right; right; right; right; right; omega))
              (fun k' U => Kep (fun b => ∃ i ∈ ones c, b = Rn i ∨ b = Ra i) V6 U ∧ Mat U bn c n Rn (updF (begF g n C back c k false) x (runB g n C x ((alongL back (insR g x)).take k') (List.replicate n false))) ∧ Mat U ba c n Ra (updF (begF g n C back c k true) x (runB g n C x ((alongL back (insR g x)).take k') (List.replicate n true)))) ?hI2 ?hID2 ?h02 ?hround2 ?hdone2
            case hI2 =>
              rintro k' U r o o' hr ho hoc ⟨h1, h2, h3⟩
              exact ⟨h1.put (.inl hr) _, h2.put _ ho hoc, h3.put _ ho hoc⟩
            case hID2 =>
              rintro k' U ⟨h1, -, -⟩
              obtain ⟨b6, k6, t1, t2, t3, t4, t5, t6, hq5, hs5, hsz6⟩ := H6.out
              exact ⟨t2.kep h1 (HNM.out _ (by right; right; right; right; right; right; omega)), t1.kep h1 (HNM.out _ (by right; right; right; right; right; right; omega)), ⟨_, t4.kep h1 (HNM.out _ (by simp)), rfl⟩⟩
            case h02 =>
              intro r
              obtain ⟨b6, k6, t1, t2, t3, t4, t5, t6, hq5, hs5, hsz6⟩ := H6.out
              have hx := HV.out.2.2.2.2.2.2.2
              have e : ∀ v, updF (begF g n C back c k v) x (runB g n C x ((alongL back (insR g x)).take 0) (List.replicate n v)) = begF g n C back c k v := fun v => by
                have h := updF_zero (begF g n C back c k v) x
                have h' := begF_at g n C back c v hk
                rw [← hx] at h'
                rw [h'] at h
                exact h
              rw [e, e]
              have hb : Below V6.heap.size V6 (V6.alloc (.loop r)) := (Below.refl _ _).alloc (Nat.le_refl _) _
              exact ⟨(Kep.refl _ _).alloc _, t5.below hb, t6.below hb⟩
            case hround2 =>
              rintro k' hk' U ⟨h1, h2, h3⟩ hrec
              obtain ⟨y, hy⟩ : ∃ y, y = (alongL back (insR g x))[k'] := ⟨_, rfl⟩
              rw [← hy]
              have HI2 := Lib.hid (And.intro h1 (And.intro h2 (And.intro h3 (And.intro hrec hy))))
              clear h1 h2 h3 hrec hy
              gi_wp2
              refine ⟨Kep.refl _ _, fun rr2 => ?_⟩
              obtain ⟨U3, hU3⟩ : ∃ U3, U3 = U.putObj V6.heap.size (.loop rr2) := ⟨_, rfl⟩
              obtain ⟨h1, h2, h3, ⟨r0, hrec⟩, hy⟩ := HI2.out
              obtain ⟨b6, k6, t1, t2, t3, t4, t5, t6, hq5, hs5, hsz6⟩ := H6.out
              obtain ⟨v1, v2, v3, v4, v5, v6, v7, hsz, hB5, b5, hcl, hLL, hlow⟩ := HW.out
              have k3 : Kep (fun b => ∃ i ∈ ones c, b = Rn i ∨ b = Ra i) V6 U3 := by
                rw [hU3]
                exact h1.put (.inl (Nat.le_refl _)) _
              have m1 := h2.put (.loop rr2) hrec rfl
              have m2 := h3.put (.loop rr2) hrec rfl
              rw [← hU3] at m1 m2
              have k5 : Kep (fun b => ∃ i ∈ ones c, b = Rn i ∨ b = Ra i) W5 U3 := k6.trans k3
              have hnq : ¬ ∃ i ∈ ones c, q0 = Rn i ∨ q0 = Ra i := HNM.out _ (by right; right; right; right; right; right; omega)
              have bP := v2.kep k5 (HNM.out _ (by simp))
              have bQ := t3.kep k3 hnq
              have y1 := bP.cell 0
              have y2 := bQ.cell 0
              have u3 := v3.kep k5 (HNM.out _ (by simp))
              have y3 := u3.cell 0
              have y4 := u3.cell 9
              have y5 := u3.cell 10
              have y6 := m1.cellR hxc
              have y7 := m2.cellR hxc
              simp [flC] at y1 y2 y3 y4 y5
              have hxL : x < c.length := (ones_lt hxc).1
              have hch3 : ChAt U3 base m (rlF g n C) l rv := v5.keep k5 (fun b ⟨i, hi, he⟩ => by
                right
                rcases he with he | he
                · exact ⟨_, _, he ▸ (v6.row i hi).2, by decide⟩
                · exact ⟨_, _, he ▸ (v7.row i hi).2, by decide⟩)
              have r1 := (m1.row x hxc).2
              have r2 := (m2.row x hxc).2
              simp only [updF, ↓reduceIte] at r1 r2
              have H8 := Lib.hid (ChAt.happen (W := U3.drew) (w := w) (hch3.below (Below.refl _ U3).drew) HA.out.2.2.2.1 hn x y (Rn x) _ (by rw [runB_len, List.length_replicate]) r1)
              have HU := Lib.hid (And.intro k3 (And.intro k5 (And.intro m1 (And.intro m2 (And.intro hch3 (And.intro r1 (And.intro r2 (And.intro bP (And.intro bQ (And.intro u3 (And.intro hnq hU3)))))))))))
              have HC8 := Lib.hid (And.intro y1 (And.intro y2 (And.intro y3 (And.intro y4 (And.intro y5 (And.intro y6 y7))))))
              rw [← hU3]
              clear bP bQ h1 h2 h3 hrec hy b6 k6 t1 t2 t3 t4 t5 t6 hq5 hs5 hsz6 v1 v2 v3 v4 v5 v6 v7 hsz hB5 b5 hcl hLL hlow k3 k5 m1 m2 hnq u3 hch3 r1 r2 hU3
              gi_wp2
              refine wpIn_region_held_in (S := (fun w' => w'.cell? ⟨p, 0, none⟩ = some (.pointer (some ⟨f, 0, none⟩)) ∧ w'.cell? ⟨q0, 0, none⟩ = some (.int .i64 (x : Int)) ∧ w'.cell? ⟨f, 0, none⟩ = some (.map (some m)) ∧ w'.cell? ⟨f, 9, none⟩ = some (.slice (some ⟨bn, 0, none⟩) c.length c.length) ∧ w'.cell? ⟨bn, x, none⟩ = some (.slice (some ⟨Rn x, 0, none⟩) n n))) (by kernel_rfl) (by kernel_rfl) (fun ⟨_, _, h⟩ => h) ?_ (fun hHeld => ?_)
              · exact ⟨y1, y2, y3, y4, y6⟩
              refine wpAnyH_take (i := 0) (oi := { dst := some 43, op := Op.load 73 (Operand.tmp 11), type := 73, pos := "flow.go:73", after := #[], guard := none }) (v := ?vq0_27) rfl (by kernel_rfl) (by kernel_rfl) (by kernel_rfl) (fun _ _ _ h => h) (Or.inl ⟨by rfl, ?hq0_27⟩) (by assumption) ?_
              case hq0_27 => intro w hSw; (try dsimp only at hSw); go_simp; try (with_reducible rfl)
              (try simp only [Act.put, List.setIfInBounds_toArray, List.set_cons_zero, List.set_cons_succ])
              refine wpAnyH_take (i := 1) (oi := { dst := some 44, op := Op.nilCheck (Operand.tmp 43), type := 0, pos := "flow.go:73", after := #[{ on := 0, ground := Ground.data }], guard := none }) (v := ?vq1_28) rfl (by kernel_rfl) (by kernel_rfl) (by kernel_rfl) (fun _ _ _ h => h) (Or.inl ⟨by rfl, ?hq1_28⟩) (by assumption) ?_
              case hq1_28 => intro w hSw; (try dsimp only at hSw); go_simp; try (with_reducible rfl)
              (try simp only [Act.put, List.setIfInBounds_toArray, List.set_cons_zero, List.set_cons_succ])
              refine wpAnyH_take (i := 2) (oi := { dst := some 45, op := Op.fieldAddr 79 (Operand.tmp 44) 0, type := 0, pos := "flow.go:73", after := #[{ on := 1, ground := Ground.data }], guard := none }) (v := ?vq2_29) rfl (by kernel_rfl) (by kernel_rfl) (by kernel_rfl) (fun _ _ _ h => h) (Or.inl ⟨by rfl, ?hq2_29⟩) (by assumption) ?_
              case hq2_29 => intro w hSw; (try dsimp only at hSw); go_simp; try (with_reducible rfl)
              (try simp only [Act.put, List.setIfInBounds_toArray, List.set_cons_zero, List.set_cons_succ])
              refine wpAnyH_take (i := 3) (oi := { dst := some 46, op := Op.load 77 (Operand.tmp 45), type := 77, pos := "flow.go:73", after := #[{ on := 2, ground := Ground.data }], guard := none }) (v := ?vq3_30) rfl (by kernel_rfl) (by kernel_rfl) (by kernel_rfl) (fun _ _ _ h => h) (Or.inl ⟨by rfl, ?hq3_30⟩) (by assumption) ?_
              case hq3_30 => intro w hSw; (try dsimp only at hSw); go_simp; try (with_reducible rfl)
              (try simp only [Act.put, List.setIfInBounds_toArray, List.set_cons_zero, List.set_cons_succ])
              refine wpAnyH_take (i := 4) (oi := { dst := some 47, op := Op.load 3 (Operand.tmp 12), type := 3, pos := "flow.go:73", after := #[], guard := none }) (v := ?vq4_31) rfl (by kernel_rfl) (by kernel_rfl) (by kernel_rfl) (fun _ _ _ h => h) (Or.inl ⟨by rfl, ?hq4_31⟩) (by assumption) ?_
              case hq4_31 => intro w hSw; (try dsimp only at hSw); go_simp; try (with_reducible rfl)
              (try simp only [Act.put, List.setIfInBounds_toArray, List.set_cons_zero, List.set_cons_succ])
              refine wpAnyH_take (i := 5) (oi := { dst := some 48, op := Op.move (Operand.tmp 13), type := 3, pos := "flow.go:73", after := #[], guard := none }) (v := ?vq5_32) rfl (by kernel_rfl) (by kernel_rfl) (by kernel_rfl) (fun _ _ _ h => h) (Or.inl ⟨by rfl, ?hq5_32⟩) (by assumption) ?_
              case hq5_32 => intro w hSw; (try dsimp only at hSw); go_simp; try (with_reducible rfl)
              (try simp only [Act.put, List.setIfInBounds_toArray, List.set_cons_zero, List.set_cons_succ])
              refine wpAnyH_take (i := 6) (oi := { dst := some 49, op := Op.build 100 #[(0, Operand.tmp 47), (1, Operand.tmp 48)], type := 100, pos := "flow.go:73", after := #[{ on := 4, ground := Ground.data }, { on := 5, ground := Ground.data }], guard := none }) (v := ?vq6_33) rfl (by kernel_rfl) (by kernel_rfl) (by kernel_rfl) (fun _ _ _ h => h) (Or.inl ⟨by rfl, ?hq6_33⟩) (by assumption) ?_
              case hq6_33 => intro w hSw; (try dsimp only at hSw); go_simp; try (with_reducible rfl)
              (try simp only [Act.put, List.setIfInBounds_toArray, List.set_cons_zero, List.set_cons_succ])
              refine wpAnyH_take (i := 7) (oi := { dst := some 50, op := Op.load 73 (Operand.tmp 11), type := 73, pos := "flow.go:73", after := #[], guard := none }) (v := ?vq7_34) rfl (by kernel_rfl) (by kernel_rfl) (by kernel_rfl) (fun _ _ _ h => h) (Or.inl ⟨by rfl, ?hq7_34⟩) (by assumption) ?_
              case hq7_34 => intro w hSw; (try dsimp only at hSw); go_simp; try (with_reducible rfl)
              (try simp only [Act.put, List.setIfInBounds_toArray, List.set_cons_zero, List.set_cons_succ])
              refine wpAnyH_take (i := 8) (oi := { dst := some 51, op := Op.nilCheck (Operand.tmp 50), type := 0, pos := "flow.go:73", after := #[{ on := 7, ground := Ground.data }], guard := none }) (v := ?vq8_35) rfl (by kernel_rfl) (by kernel_rfl) (by kernel_rfl) (fun _ _ _ h => h) (Or.inl ⟨by rfl, ?hq8_35⟩) (by assumption) ?_
              case hq8_35 => intro w hSw; (try dsimp only at hSw); go_simp; try (with_reducible rfl)
              (try simp only [Act.put, List.setIfInBounds_toArray, List.set_cons_zero, List.set_cons_succ])
              refine wpAnyH_take (i := 9) (oi := { dst := some 52, op := Op.fieldAddr 79 (Operand.tmp 51) 6, type := 0, pos := "flow.go:73", after := #[{ on := 8, ground := Ground.data }], guard := none }) (v := ?vq9_36) rfl (by kernel_rfl) (by kernel_rfl) (by kernel_rfl) (fun _ _ _ h => h) (Or.inl ⟨by rfl, ?hq9_36⟩) (by assumption) ?_
              case hq9_36 => intro w hSw; (try dsimp only at hSw); go_simp; try (with_reducible rfl)
              (try simp only [Act.put, List.setIfInBounds_toArray, List.set_cons_zero, List.set_cons_succ])
              refine wpAnyH_take (i := 10) (oi := { dst := some 53, op := Op.load 44 (Operand.tmp 52), type := 44, pos := "flow.go:73", after := #[{ on := 9, ground := Ground.data }], guard := none }) (v := ?vq10_37) rfl (by kernel_rfl) (by kernel_rfl) (by kernel_rfl) (fun _ _ _ h => h) (Or.inl ⟨by rfl, ?hq10_37⟩) (by assumption) ?_
              case hq10_37 => intro w hSw; (try dsimp only at hSw); go_simp; try (with_reducible rfl)
              (try simp only [Act.put, List.setIfInBounds_toArray, List.set_cons_zero, List.set_cons_succ])
              refine wpAnyH_take (i := 11) (oi := { dst := some 54, op := Op.load 3 (Operand.tmp 12), type := 3, pos := "flow.go:73", after := #[], guard := none }) (v := ?vq11_38) rfl (by kernel_rfl) (by kernel_rfl) (by kernel_rfl) (fun _ _ _ h => h) (Or.inl ⟨by rfl, ?hq11_38⟩) (by assumption) ?_
              case hq11_38 => intro w hSw; (try dsimp only at hSw); go_simp; try (with_reducible rfl)
              (try simp only [Act.put, List.setIfInBounds_toArray, List.set_cons_zero, List.set_cons_succ])
              refine wpAnyH_take (i := 12) (oi := { dst := some 55, op := Op.indexAddr 44 (Operand.tmp 53) (Operand.tmp 54), type := 0, pos := "flow.go:73", after := #[{ on := 10, ground := Ground.data }, { on := 11, ground := Ground.data }], guard := none }) (v := ?vq12_39) rfl (by kernel_rfl) (by kernel_rfl) (by kernel_rfl) (fun _ _ _ h => h) (Or.inl ⟨by rfl, ?hq12_39⟩) (by assumption) ?_
              case hq12_39 => intro w hSw; (try dsimp only at hSw); go_simp; try (with_reducible rfl)
              (try simp only [Act.put, List.setIfInBounds_toArray, List.set_cons_zero, List.set_cons_succ])
              refine wpAnyH_take (i := 13) (oi := { dst := some 56, op := Op.load 26 (Operand.tmp 55), type := 26, pos := "flow.go:73", after := #[{ on := 12, ground := Ground.data }], guard := none }) (v := ?vq13_40) rfl (by kernel_rfl) (by kernel_rfl) (by kernel_rfl) (fun _ _ _ h => h) (Or.inl ⟨by rfl, ?hq13_40⟩) (by assumption) ?_
              case hq13_40 => intro w hSw; (try dsimp only at hSw); go_simp; try (with_reducible rfl)
              (try simp only [Act.put, List.setIfInBounds_toArray, List.set_cons_zero, List.set_cons_succ])
              refine wpAnyH_ready (rs := [14]) (by kernel_rfl) (by simp) ?_
              refine AllReadyH.cons (o := { dst := some 57, op := Op.call { callee := Callee.value (Operand.func 46), args := #[Operand.tmp 46, Operand.tmp 49, Operand.tmp 56], argTypes := #[77, 100, 26] }, type := 0, pos := "flow.go:73", after := #[{ on := 3, ground := Ground.data }, { on := 6, ground := Ground.data }, { on := 13, ground := Ground.data }], guard := none }) rfl (fun K hK => ?_) AllReadyH.nil
              go_simp
              refine H8.out.mono ?_
              clear H8
              rintro e U4 ⟨⟨u, rfl⟩, hk8, hb8⟩
              have H4 : Go.RowKit.Hid (Bx U4 p 73 [.pointer (some ⟨f, 0, none⟩)] ∧ Bx U4 q0 3 [.int .i64 (x : Int)] ∧ Bx U4 f 79 (flC m (⟨nm, pa, lo, oa, cap, g⟩ : Bv) n (.slice (some ⟨bc, 0, none⟩) c.length capc) back (.slice none 0 0) (.slice (some ⟨bn, 0, none⟩) c.length c.length) (.slice (some ⟨ba, 0, none⟩) c.length c.length)) ∧ Mat U4 bn c n Rn (updF (updF (begF g n C back c k false) x (runB g n C x ((alongL back (insR g x)).take k') (List.replicate n false))) x (hapF (rlF g n C ((x : Int), (y : Int), true)) (rlF g n C ((x : Int), (y : Int), false)) (runB g n C x ((alongL back (insR g x)).take k') (List.replicate n false)))) ∧ Mat U4 ba c n Ra (updF (begF g n C back c k true) x (runB g n C x ((alongL back (insR g x)).take k') (List.replicate n true))) ∧ ChAt U4 base m (rlF g n C) l rv ∧ Kep (fun k => k = Rn x) U3 U4) := Lib.hid (by
                obtain ⟨k3, k5, m1, m2, hch3, r1, r2, bP, bQ, u3, hnq, hU3⟩ := HU.out
                have hk8' : Kep (fun k => k = Rn x) U3 U4 := (Kep.refl _ U3).drew.trans hk8
                have hNEW := HX.out.1
                exact ⟨bP.kep hk8' (fun e => HNM.out p (by simp) ⟨x, hxc, .inl e⟩), bQ.kep hk8' (fun e => hnq ⟨x, hxc, .inl e⟩), u3.kep hk8' (fun e => HNM.out f (by simp) ⟨x, hxc, .inl e⟩),
                  m1.upd hxc hk8' hb8 (by rw [hapF_len, runB_len, List.length_replicate]) hNEW.injN, m2.kep hk8' (fun e => HNM.out ba (by simp) ⟨x, hxc, .inl e⟩) (fun i hi e => hNEW.apart x hxc i hi e.symm), hch3.keep hk8' (fun b hb => .inr ⟨_, _, hb ▸ r1, by decide⟩), hk8'⟩)
              have hS8 : (fun w' => w'.cell? ⟨p, 0, none⟩ = some (.pointer (some ⟨f, 0, none⟩)) ∧ w'.cell? ⟨q0, 0, none⟩ = some (.int .i64 (x : Int)) ∧ w'.cell? ⟨f, 0, none⟩ = some (.map (some m)) ∧ w'.cell? ⟨f, 9, none⟩ = some (.slice (some ⟨bn, 0, none⟩) c.length c.length) ∧ w'.cell? ⟨bn, x, none⟩ = some (.slice (some ⟨Rn x, 0, none⟩) n n)) U4 := by
                obtain ⟨p4, q4, f4, m14, m24, ch4, hk⟩ := H4.out
                exact ⟨by simpa using p4.cell 0, by simpa using q4.cell 0, by simpa [flC] using f4.cell 0, by simpa [flC] using f4.cell 9, m14.cellR hxc⟩
              have hS9 : (fun w' => w'.cell? ⟨p, 0, none⟩ = some (.pointer (some ⟨f, 0, none⟩)) ∧ w'.cell? ⟨q0, 0, none⟩ = some (.int .i64 (x : Int)) ∧ w'.cell? ⟨f, 0, none⟩ = some (.map (some m)) ∧ w'.cell? ⟨f, 10, none⟩ = some (.slice (some ⟨ba, 0, none⟩) c.length c.length) ∧ w'.cell? ⟨ba, x, none⟩ = some (.slice (some ⟨Ra x, 0, none⟩) n n)) U4 := by
                obtain ⟨p4, q4, f4, m14, m24, ch4, hk⟩ := H4.out
                exact ⟨by simpa using p4.cell 0, by simpa using q4.cell 0, by simpa [flC] using f4.cell 0, by simpa [flC] using f4.cell 10, m24.cellR hxc⟩
              have H9 := Lib.hid (ChAt.happen (W := U4.drew) (w := w) (H4.out.2.2.2.2.2.1.below (Below.refl _ U4).drew) HA.out.2.2.2.1 hn x y (Ra x) (runB g n C x ((alongL back (insR g x)).take k') (List.replicate n true)) (by rw [runB_len, List.length_replicate]) (by have h := (H4.out.2.2.2.2.1.row x hxc).2; simp only [updF, ↓reduceIte] at h; exact h))
              refine hK.out _ _ hS8 (fun hHeld => ?_)
              clear hK K hS8 hk8 hb8
              (try simp only [Act.put, List.setIfInBounds_toArray, List.set_cons_zero, List.set_cons_succ])
              refine wpAnyH_done (by kernel_rfl) ?_ _
              clear y1 y2 y3 y4 y5 y6 y7
              gi_wp2
              refine wpIn_region_held_in (S := (fun w' => w'.cell? ⟨p, 0, none⟩ = some (.pointer (some ⟨f, 0, none⟩)) ∧ w'.cell? ⟨q0, 0, none⟩ = some (.int .i64 (x : Int)) ∧ w'.cell? ⟨f, 0, none⟩ = some (.map (some m)) ∧ w'.cell? ⟨f, 10, none⟩ = some (.slice (some ⟨ba, 0, none⟩) c.length c.length) ∧ w'.cell? ⟨ba, x, none⟩ = some (.slice (some ⟨Ra x, 0, none⟩) n n))) (by kernel_rfl) (by kernel_rfl) (fun ⟨_, _, h⟩ => h) ?_ (fun hHeld => ?_)
              · exact hS9
              refine wpAnyH_take (i := 0) (oi := { dst := some 58, op := Op.load 73 (Operand.tmp 11), type := 73, pos := "flow.go:74", after := #[], guard := none }) (v := ?vq0_41) rfl (by kernel_rfl) (by kernel_rfl) (by kernel_rfl) (fun _ _ _ h => h) (Or.inl ⟨by rfl, ?hq0_41⟩) (by assumption) ?_
              case hq0_41 => intro w hSw; (try dsimp only at hSw); go_simp; try (with_reducible rfl)
              (try simp only [Act.put, List.setIfInBounds_toArray, List.set_cons_zero, List.set_cons_succ])
              refine wpAnyH_take (i := 1) (oi := { dst := some 59, op := Op.nilCheck (Operand.tmp 58), type := 0, pos := "flow.go:74", after := #[{ on := 0, ground := Ground.data }], guard := none }) (v := ?vq1_42) rfl (by kernel_rfl) (by kernel_rfl) (by kernel_rfl) (fun _ _ _ h => h) (Or.inl ⟨by rfl, ?hq1_42⟩) (by assumption) ?_
              case hq1_42 => intro w hSw; (try dsimp only at hSw); go_simp; try (with_reducible rfl)
              (try simp only [Act.put, List.setIfInBounds_toArray, List.set_cons_zero, List.set_cons_succ])
              refine wpAnyH_take (i := 2) (oi := { dst := some 60, op := Op.fieldAddr 79 (Operand.tmp 59) 0, type := 0, pos := "flow.go:74", after := #[{ on := 1, ground := Ground.data }], guard := none }) (v := ?vq2_43) rfl (by kernel_rfl) (by kernel_rfl) (by kernel_rfl) (fun _ _ _ h => h) (Or.inl ⟨by rfl, ?hq2_43⟩) (by assumption) ?_
              case hq2_43 => intro w hSw; (try dsimp only at hSw); go_simp; try (with_reducible rfl)
              (try simp only [Act.put, List.setIfInBounds_toArray, List.set_cons_zero, List.set_cons_succ])
              refine wpAnyH_take (i := 3) (oi := { dst := some 61, op := Op.load 77 (Operand.tmp 60), type := 77, pos := "flow.go:74", after := #[{ on := 2, ground := Ground.data }], guard := none }) (v := ?vq3_44) rfl (by kernel_rfl) (by kernel_rfl) (by kernel_rfl) (fun _ _ _ h => h) (Or.inl ⟨by rfl, ?hq3_44⟩) (by assumption) ?_
              case hq3_44 => intro w hSw; (try dsimp only at hSw); go_simp; try (with_reducible rfl)
              (try simp only [Act.put, List.setIfInBounds_toArray, List.set_cons_zero, List.set_cons_succ])
              refine wpAnyH_take (i := 4) (oi := { dst := some 62, op := Op.load 3 (Operand.tmp 12), type := 3, pos := "flow.go:74", after := #[], guard := none }) (v := ?vq4_45) rfl (by kernel_rfl) (by kernel_rfl) (by kernel_rfl) (fun _ _ _ h => h) (Or.inl ⟨by rfl, ?hq4_45⟩) (by assumption) ?_
              case hq4_45 => intro w hSw; (try dsimp only at hSw); go_simp; try (with_reducible rfl)
              (try simp only [Act.put, List.setIfInBounds_toArray, List.set_cons_zero, List.set_cons_succ])
              refine wpAnyH_take (i := 5) (oi := { dst := some 63, op := Op.move (Operand.tmp 13), type := 3, pos := "flow.go:74", after := #[], guard := none }) (v := ?vq5_46) rfl (by kernel_rfl) (by kernel_rfl) (by kernel_rfl) (fun _ _ _ h => h) (Or.inl ⟨by rfl, ?hq5_46⟩) (by assumption) ?_
              case hq5_46 => intro w hSw; (try dsimp only at hSw); go_simp; try (with_reducible rfl)
              (try simp only [Act.put, List.setIfInBounds_toArray, List.set_cons_zero, List.set_cons_succ])
              refine wpAnyH_take (i := 6) (oi := { dst := some 64, op := Op.build 100 #[(0, Operand.tmp 62), (1, Operand.tmp 63)], type := 100, pos := "flow.go:74", after := #[{ on := 4, ground := Ground.data }, { on := 5, ground := Ground.data }], guard := none }) (v := ?vq6_47) rfl (by kernel_rfl) (by kernel_rfl) (by kernel_rfl) (fun _ _ _ h => h) (Or.inl ⟨by rfl, ?hq6_47⟩) (by assumption) ?_
              case hq6_47 => intro w hSw; (try dsimp only at hSw); go_simp; try (with_reducible rfl)
              (try simp only [Act.put, List.setIfInBounds_toArray, List.set_cons_zero, List.set_cons_succ])
              refine wpAnyH_take (i := 7) (oi := { dst := some 65, op := Op.load 73 (Operand.tmp 11), type := 73, pos := "flow.go:74", after := #[], guard := none }) (v := ?vq7_48) rfl (by kernel_rfl) (by kernel_rfl) (by kernel_rfl) (fun _ _ _ h => h) (Or.inl ⟨by rfl, ?hq7_48⟩) (by assumption) ?_
              case hq7_48 => intro w hSw; (try dsimp only at hSw); go_simp; try (with_reducible rfl)
              (try simp only [Act.put, List.setIfInBounds_toArray, List.set_cons_zero, List.set_cons_succ])
              refine wpAnyH_take (i := 8) (oi := { dst := some 66, op := Op.nilCheck (Operand.tmp 65), type := 0, pos := "flow.go:74", after := #[{ on := 7, ground := Ground.data }], guard := none }) (v := ?vq8_49) rfl (by kernel_rfl) (by kernel_rfl) (by kernel_rfl) (fun _ _ _ h => h) (Or.inl ⟨by rfl, ?hq8_49⟩) (by assumption) ?_
              case hq8_49 => intro w hSw; (try dsimp only at hSw); go_simp; try (with_reducible rfl)
              (try simp only [Act.put, List.setIfInBounds_toArray, List.set_cons_zero, List.set_cons_succ])
              refine wpAnyH_take (i := 9) (oi := { dst := some 67, op := Op.fieldAddr 79 (Operand.tmp 66) 7, type := 0, pos := "flow.go:74", after := #[{ on := 8, ground := Ground.data }], guard := none }) (v := ?vq9_50) rfl (by kernel_rfl) (by kernel_rfl) (by kernel_rfl) (fun _ _ _ h => h) (Or.inl ⟨by rfl, ?hq9_50⟩) (by assumption) ?_
              case hq9_50 => intro w hSw; (try dsimp only at hSw); go_simp; try (with_reducible rfl)
              (try simp only [Act.put, List.setIfInBounds_toArray, List.set_cons_zero, List.set_cons_succ])
              refine wpAnyH_take (i := 10) (oi := { dst := some 68, op := Op.load 44 (Operand.tmp 67), type := 44, pos := "flow.go:74", after := #[{ on := 9, ground := Ground.data }], guard := none }) (v := ?vq10_51) rfl (by kernel_rfl) (by kernel_rfl) (by kernel_rfl) (fun _ _ _ h => h) (Or.inl ⟨by rfl, ?hq10_51⟩) (by assumption) ?_
              case hq10_51 => intro w hSw; (try dsimp only at hSw); go_simp; try (with_reducible rfl)
              (try simp only [Act.put, List.setIfInBounds_toArray, List.set_cons_zero, List.set_cons_succ])
              refine wpAnyH_take (i := 11) (oi := { dst := some 69, op := Op.load 3 (Operand.tmp 12), type := 3, pos := "flow.go:74", after := #[], guard := none }) (v := ?vq11_52) rfl (by kernel_rfl) (by kernel_rfl) (by kernel_rfl) (fun _ _ _ h => h) (Or.inl ⟨by rfl, ?hq11_52⟩) (by assumption) ?_
              case hq11_52 => intro w hSw; (try dsimp only at hSw); go_simp; try (with_reducible rfl)
              (try simp only [Act.put, List.setIfInBounds_toArray, List.set_cons_zero, List.set_cons_succ])
              refine wpAnyH_take (i := 12) (oi := { dst := some 70, op := Op.indexAddr 44 (Operand.tmp 68) (Operand.tmp 69), type := 0, pos := "flow.go:74", after := #[{ on := 10, ground := Ground.data }, { on := 11, ground := Ground.data }], guard := none }) (v := ?vq12_53) rfl (by kernel_rfl) (by kernel_rfl) (by kernel_rfl) (fun _ _ _ h => h) (Or.inl ⟨by rfl, ?hq12_53⟩) (by assumption) ?_
              case hq12_53 => intro w hSw; (try dsimp only at hSw); go_simp; try (with_reducible rfl)
              (try simp only [Act.put, List.setIfInBounds_toArray, List.set_cons_zero, List.set_cons_succ])
              refine wpAnyH_take (i := 13) (oi := { dst := some 71, op := Op.load 26 (Operand.tmp 70), type := 26, pos := "flow.go:74", after := #[{ on := 12, ground := Ground.data }], guard := none }) (v := ?vq13_54) rfl (by kernel_rfl) (by kernel_rfl) (by kernel_rfl) (fun _ _ _ h => h) (Or.inl ⟨by rfl, ?hq13_54⟩) (by assumption) ?_
              case hq13_54 => intro w hSw; (try dsimp only at hSw); go_simp; try (with_reducible rfl)
              (try simp only [Act.put, List.setIfInBounds_toArray, List.set_cons_zero, List.set_cons_succ])
              refine wpAnyH_ready (rs := [14]) (by kernel_rfl) (by simp) ?_
              refine AllReadyH.cons (o := { dst := some 72, op := Op.call { callee := Callee.value (Operand.func 46), args := #[Operand.tmp 61, Operand.tmp 64, Operand.tmp 71], argTypes := #[77, 100, 26] }, type := 0, pos := "flow.go:74", after := #[{ on := 3, ground := Ground.data }, { on := 6, ground := Ground.data }, { on := 13, ground := Ground.data }], guard := none }) rfl (fun K hK => ?_) AllReadyH.nil
              go_simp
              refine H9.out.mono ?_
              clear H9
              rintro e U5 ⟨⟨u, rfl⟩, hk9, hb9⟩
              have hS9' : (fun w' => w'.cell? ⟨p, 0, none⟩ = some (.pointer (some ⟨f, 0, none⟩)) ∧ w'.cell? ⟨q0, 0, none⟩ = some (.int .i64 (x : Int)) ∧ w'.cell? ⟨f, 0, none⟩ = some (.map (some m)) ∧ w'.cell? ⟨f, 10, none⟩ = some (.slice (some ⟨ba, 0, none⟩) c.length c.length) ∧ w'.cell? ⟨ba, x, none⟩ = some (.slice (some ⟨Ra x, 0, none⟩) n n)) U5 := by
                obtain ⟨p4, q4, f4, m14, m24, ch4, hk⟩ := H4.out
                have hnq := HU.out.2.2.2.2.2.2.2.2.2.2.1
                have hk9' : Kep (fun k => k = Ra x) U4 U5 := (Kep.refl _ U4).drew.trans hk9
                have f5 := f4.kep hk9' (fun e => HNM.out f (by simp) ⟨x, hxc, .inr e⟩)
                have m5 := m24.rows.kep hk9' (fun e => HNM.out ba (by simp) ⟨x, hxc, .inr e⟩)
                exact ⟨by simpa using (p4.kep hk9' (fun e => HNM.out p (by simp) ⟨x, hxc, .inr e⟩)).cell 0, by simpa using (q4.kep hk9' (fun e => hnq ⟨x, hxc, .inr e⟩)).cell 0, by simpa [flC] using f5.cell 0, by simpa [flC] using f5.cell 10, by rw [m5.cell, mC_at hxc]⟩
              refine hK.out _ _ hS9' (fun hHeld => ?_)
              clear hK K hS9' hS9
              (try simp only [Act.put, List.setIfInBounds_toArray, List.set_cons_zero, List.set_cons_succ])
              refine wpAnyH_done (by kernel_rfl) ?_ _
              simp +zetaDelta only [Exit.inBlock, RoundQ]
              obtain ⟨p4, q4, f4, m14, m24, ch4, hk8⟩ := H4.out
              have hNEW := HX.out.1
              have hy := HI2.out.2.2.2.2
              obtain ⟨k3, k5, m1, m2, hch3, r1, r2, bP, bQ, u3, hnq, hU3⟩ := HU.out
              have hk9' : Kep (fun k => k = Ra x) U4 U5 := (Kep.refl _ U4).drew.trans hk9
              have kM : Kep (fun b => ∃ i ∈ ones c, b = Rn i ∨ b = Ra i) U3 U5 := (hk8.mono (fun b _ h => ⟨x, hxc, .inl h⟩)).trans (hk9'.mono (fun b _ h => ⟨x, hxc, .inr h⟩))
              have hM1 := m14.kep hk9' (fun e => HNM.out bn (by simp) ⟨x, hxc, .inr e⟩) (fun i hi e => hNEW.apart i hi x hxc e)
              have hM2 := m24.upd hxc hk9' hb9 (by rw [hapF_len, runB_len, List.length_replicate]) hNEW.injA
              rw [updF_upd] at hM1 hM2
              have e := runB_take g n C x hk' (List.replicate n false)
              have e' := runB_take g n C x hk' (List.replicate n true)
              rw [← hy] at e e'
              rw [← e] at hM1
              rw [← e'] at hM2
              exact ⟨kM, k3.trans kM, hM1, hM2⟩
            case hdone2 =>
              rintro U ⟨h1, h2, h3⟩
              simp +zetaDelta only [Exit.inBlock, RoundQ]
              obtain ⟨b6, k6, t1, t2, t3, t4, t5, t6, hq5, hs5, hsz6⟩ := H6.out
              have hx := HV.out.2.2.2.2.2.2.2
              subst hx
              exact ⟨(Kep.of_below b6).sub h1 (fun i h => .inr h), k6.trans h1, h2.congr (fun i _ => begF_succ g n C back c false hk i), h3.congr (fun i _ => begF_succ g n C back c true hk i)⟩
          case hdone =>
            rintro W ⟨h1, h2, h3⟩ hD
            obtain ⟨v1, v2, v3, v4, v5, v6, v7, hsz, hB5, b5, hcl, hLL, hlow⟩ := HW.out
            have y1 := (v2.kep h1 (HNM.out _ (by simp))).cell 0
            simp at y1
            have HI := Lib.hid (And.intro h1 (And.intro h2 (And.intro h3 hD)))
            clear v1 v2 v3 v4 v5 v6 v7 hsz hB5 b5 hcl hLL hlow h1 h2 h3 hD
            go_wp2
            refine leaves_marks [W5.heap.size] W (by simp) (fun D hD => by
              rw [List.mem_singleton] at hD
              subst hD
              exact HI.out.2.2.2) ⟨_, results_tmp rfl _ _ _, ?_⟩
            obtain ⟨h1, h2, h3, hD⟩ := HI.out
            obtain ⟨v1, v2, v3, v4, v5, v6, v7, hsz, hB5, b5, hcl, hLL, hlow⟩ := HW.out
            have hds : ∀ D ∈ [W5.heap.size], ∃ o, W.heap[D]? = some o ∧ o.isCells = false := fun D hD' => by
              rw [List.mem_singleton] at hD'
              subst hD'
              exact ⟨_, hD, rfl⟩
            have hNEW := HX.out.1
            have kS : Kep (fun b => ∃ i ∈ ones c, b = Rn i ∨ b = Ra i) W5 (shutAll W [W5.heap.size]) := by
              have hb : Below W5.heap.size W (shutAll W [W5.heap.size]) := shutAll_below _ _ (fun D hD => by
                rw [List.mem_singleton] at hD
                omega)
              exact ⟨hb.os.trans h1.os, hb.tape.trans h1.tape, hb.output.trans h1.output, Nat.le_trans h1.size hb.size, fun i hi hm => (hb.block i hi).trans (h1.same i hi hm)⟩
            refine ⟨f, rfl, m, base, bn, ba, Rn, Ra, l, rv, v3.kep kS (HNM.out _ (by simp)), v5.keep kS ?_, ((h2.congr (fun i hi => begF_all g n C back c false hi)).shut hds), ((h3.congr (fun i hi => begF_all g n C back c true hi)).shut hds), hNEW.ge, hNEW.geR, hNEW.injN, hNEW.injA, hNEW.apart, hNEW.two, ?_⟩
            · rintro b ⟨i, hi, he | he⟩
              · exact .inr ⟨_, _, he ▸ (v6.row i hi).2, by decide⟩
              · exact .inr ⟨_, _, he ▸ (v7.row i hi).2, by decide⟩
            · exact (hNEW.bel.trans (b5.mono hNEW.bel.size)).trans (kS.to_below hlow.1 hlow.2)

end Go.Proofs.Ytfpdecjlfnambaa
