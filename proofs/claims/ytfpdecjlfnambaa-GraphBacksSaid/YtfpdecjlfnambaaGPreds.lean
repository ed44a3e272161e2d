/-
  Graph: Preds. Conditions: the body lies in the heap, and is small.
-/
import Derived.Test.YtfpdecjlfnambaaGPredsP
import Derived.Test.YtfpdecjlfnambaaGSprP
import Derived.Test.YtfpdecjlfnambaaGStateP
import Derived.Maps.OwnIn
namespace Go.Proofs.Ytfpdecjlfnambaa
open Go Go.RowKit Go.Shelf

attribute [local go_sem] Oper.semAt_some

theorem make_irows (n : Nat) (h : n ≤ 1000) (w : World) : (Instr.makeSlice 39 (.int .i64 (n : Int)) (.int .i64 (n : Int))).run Try.prog w = .ok (.slice (some ⟨w.heap.size, 0, none⟩) n n) (w.alloc (.cells (List.replicate n (.slice none 0 0)).toArray 42)) := by
  rw [run_make_row' 39 42 (.slice none 0 0) 24 Try.underlying39 (by kernel_rfl) rfl .i64 .i64 n (by omega) (by omega) w, made_one]
theorem own_parts {w : World} {base e n : Nat} {v : Value} {xs : List Value} (h : w.ownsRow base e 1 v n xs) : ∃ ou cu, v = .slice ou n cu ∧ (0 < n → ∃ gu ex, ou = some ⟨gu, 0, none⟩ ∧ Bx w gu e (xs ++ ex)) := by
  by_cases hv : v = .slice none 0 0
  · rcases h.2 with ⟨-, h1⟩ | ⟨g, cap, cur, h1, -⟩
    · subst h1
      exact ⟨none, 0, hv, fun h => absurd h (by omega)⟩
    · rw [hv] at h1
      cases h1
  · obtain ⟨g, cap, ex, h1, -, h3, -⟩ := own_bx h hv
    exact ⟨_, _, h1, fun _ => ⟨g, ex, rfl, h3⟩⟩
theorem PdAt.shut {base pr : Nat} {vs : List Value} {P : Nat → List Nat} : ∀ (ds : List Nat) (W : World), PdAt W base pr vs P → (∀ D ∈ ds, ∃ o, W.heap[D]? = some o ∧ o.isCells = false) → PdAt (shutAll W ds) base pr vs P
  | [], _, h, _ => h
  | D :: ds, W, h, hd => by
    obtain ⟨o, h1, h2⟩ := hd D (by simp)
    refine PdAt.shut ds _ (h.put (.deferred none) h1 h2) fun D' hD' => ?_
    by_cases e : D' = D
    · subst e
      exact ⟨_, World.putObj_heap_same (Array.getElem?_eq_some_iff.1 h1).1, rfl⟩
    · rw [World.putObj_heap_other e]
      exact hd D' (by simp [hD'])
/-- What may be turned while a block's goings are gone through. -/
def PdM (pr : Nat) (vs : List Value) (lim b : Nat) : Prop := b = pr ∨ (∃ (x : Nat) (v : Value), vs[x]? = some v ∧ v.ownBlock = some b) ∨ lim ≤ b
/-- What is so while they are. -/
def PdI (g : Gb) (k base pr L : Nat) (vs0 : List Value) (W2 : World) (j : Nat) (V : World) : Prop :=
  Kep (PdM pr vs0 (W2.heap.size + 2)) W2 V ∧ W2.heap.size + 2 ≤ V.heap.size ∧ ∃ vs, vs.length = L ∧ PdAt V base pr vs (prdJ g k j) ∧ ∀ (x : Nat) (v : Value) (b : Nat), vs[x]? = some v → v.ownBlock = some b → PdM pr vs0 (W2.heap.size + 2) b
/-- What Preds comes to. -/
def PredsT (g : Gb) (w : World) (e : Ending) (w' : World) : Prop :=
  ∃ pr vs base, e = .returned (.slice (some ⟨pr, 0, none⟩) g.length g.length) ∧ w.heap.size ≤ pr ∧ w.heap.size ≤ base ∧ Below w.heap.size w w' ∧ vs.length = g.length ∧ PdAt w' base pr vs (prdK g g.length)
/-- Behind an append to a row. -/
def PdQ (V4 : World) (pr x base : Nat) (u : Value) (nu k : Nat) (l : List Nat) : Exit → Act → World → Prop
  | .normal, _, w' => ∃ gA capA w5, w' = w5.setCell ⟨pr, x, none⟩ (.slice (some ⟨gA, 0, none⟩) (nu + 1) capA) ∧ Kep (fun b => u.ownBlock = some b) V4 w5 ∧ w5.ownsRow base 3 1 (.slice (some ⟨gA, 0, none⟩) (nu + 1) capA) (nu + 1) (nC l ++ [.int .i64 (k : Int)]) ∧
      ((Value.slice (some ⟨gA, 0, none⟩) (nu + 1) capA).ownBlock = u.ownBlock ∨ ∃ q, (Value.slice (some ⟨gA, 0, none⟩) (nu + 1) capA).ownBlock = some q ∧ V4.heap.size ≤ q)
  | _, _, _ => False

theorem wrapN (m : Nat) (h : m ≤ 1000) : IntKind.i64.wrap (m : Int) = m := by rw [IntKind.wrap_i64]; omega
theorem prdJ_same {g : Gb} {k j x : Nat} (hj : j < (tos g k).length) (hx : x = (tos g k)[j]) (hin : x ∈ (tos g k).take j) : prdJ g k j = prdJ g k (j + 1) := by
  funext z
  by_cases e : z = x
  · rw [e]
    have := prdJ_old hj (hx ▸ hin)
    rw [← hx] at this
    exact this.symm
  · exact (prdJ_other hj (fun h => e (h.trans hx.symm))).symm
theorem prdJ_grow {g : Gb} {k j x : Nat} (hj : j < (tos g k).length) (hx : x = (tos g k)[j]) (hn : x ∉ (tos g k).take j) : (fun z => if z = x then prdJ g k j x ++ [k] else prdJ g k j z) = prdJ g k (j + 1) := by
  funext z
  by_cases e : z = x
  · rw [if_pos e, e]
    have := prdJ_new hj (hx ▸ hn)
    rw [← hx] at this
    exact this.symm
  · rw [if_neg e]
    exact (prdJ_other hj (fun h => e (h.trans hx.symm))).symm
theorem prdK_succ' {g : Gb} {k : Nat} : prdK g (k + 1) = prdJ g k (tos g k).length := funext fun x => prdK_succ g k x
/-- A row has grown. -/
theorem PdI.grown {g : Gb} {k j base pr L x gA capA : Nat} {vs0 vs : List Value} {W2 V3 V4 w5 : World} {u : Value} {P : Nat → List Nat} (h1 : Kep (PdM pr vs0 (W2.heap.size + 2)) W2 V3) (h2 : W2.heap.size + 2 ≤ V3.heap.size) (h3 : vs.length = L) (h4 : PdAt V3 base pr vs P)
    (h5 : ∀ (x : Nat) (v : Value) (b : Nat), vs[x]? = some v → v.ownBlock = some b → PdM pr vs0 (W2.heap.size + 2) b) (hvx : vs[x]? = some u) (hP : P = prdJ g k j) (hj : j < (tos g k).length) (hx : x = (tos g k)[j]) (hn : x ∉ (tos g k).take j) (hV4 : V4 = V3.drew ∧ True)
    (hk5 : Kep (fun b => u.ownBlock = some b) V4 w5) (ho5 : w5.ownsRow base 3 1 (.slice (some ⟨gA, 0, none⟩) ((P x).length + 1) capA) ((P x).length + 1) (nC (P x) ++ [.int .i64 (k : Int)]))
    (hv5 : (Value.slice (some ⟨gA, 0, none⟩) ((P x).length + 1) capA).ownBlock = u.ownBlock ∨ ∃ q, (Value.slice (some ⟨gA, 0, none⟩) ((P x).length + 1) capA).ownBlock = some q ∧ V4.heap.size ≤ q) :
    Kep (PdM pr vs0 (W2.heap.size + 2)) V3 (w5.setCell ⟨pr, x, none⟩ (.slice (some ⟨gA, 0, none⟩) ((P x).length + 1) capA)) ∧ PdI g k base pr L vs0 W2 (j + 1) (w5.setCell ⟨pr, x, none⟩ (.slice (some ⟨gA, 0, none⟩) ((P x).length + 1) capA)) := by
  obtain ⟨rfl, -⟩ := hV4
  have hk : Kep (PdM pr vs0 (W2.heap.size + 2)) V3 w5 := (Kep.refl _ V3).drew.sub hk5 (fun b hb => .inr (h5 x u b hvx hb))
  have hkF := hk.setCell (p := ⟨pr, x, none⟩) (.inr (.inl rfl)) (.slice (some ⟨gA, 0, none⟩) ((P x).length + 1) capA)
  have p4 : PdAt V3.drew base pr vs P := h4.below (Below.refl _ _).drew
  have ho : w5.ownsRow base 3 1 (.slice (some ⟨gA, 0, none⟩) ((P x).length + 1) capA) (P x ++ [k]).length (nC (P x ++ [k])) := by
    rw [List.length_append, nC, List.map_append]
    exact ho5
  have p6 := p4.step (g := 0) hvx hk5 ho hv5
  refine ⟨hkF, h1.trans hkF, Nat.le_trans h2 hkF.size, vs.set x (.slice (some ⟨gA, 0, none⟩) ((P x).length + 1) capA), by rw [List.length_set]; exact h3, ?_, fun z v b hz hb => ?_⟩
  · rw [← prdJ_grow hj hx hn, ← hP]
    exact p6
  · by_cases e : z = x
    · subst e
      rw [List.getElem?_set, if_pos rfl, if_pos (List.getElem?_eq_some_iff.1 hvx).1] at hz
      obtain rfl := Option.some.inj hz
      rcases hv5 with h | ⟨q, h, hq⟩
      · exact h5 _ u b hvx (h ▸ hb)
      · rw [h] at hb
        obtain rfl := Option.some.inj hb
        exact .inr (.inr (Nat.le_trans h2 hq))
    · rw [List.getElem?_set, if_neg (fun h => e h.symm)] at hz
      exact h5 z v b hz hb

set_option maxRecDepth 100000 in
set_option maxHeartbeats 8000000 in
theorem preds_any (n0 : Nat) (B : Bv) (w : World) (hB : B.At n0 w) (hs : B.Small) (hn0 : n0 ≤ w.heap.size) : Calls Try.prog 18 #[B.v] w fun e w' => PredsT B.g w e w' := by
  obtain ⟨nm, pa, lo, oa, cap, g⟩ := B
  simp only at hs ⊢
  obtain ⟨L, hL⟩ : ∃ L, L = g.length := ⟨_, rfl⟩
  have hL1 : L ≤ 1000 := by rw [hL]; exact hs.1
  have hmk := make_irows L hL1
  have HA := Lib.hid (And.intro hB (And.intro hs (And.intro hn0 hL)))
  unfold Bv.v Bv.cs
  simp only [← hL]
  clear hB hs hn0 hL
  refine calls_of_wp_marks Try.func18 rfl ?_
  simp only [Try.ntmps18, List.size_toArray, List.length_cons, List.length_nil, Nat.reduceAdd, Nat.reduceSub, Array.replicate_succ, Array.replicate_zero, List.push_toArray, List.append_toArray, List.nil_append, List.cons_append]
  go_upto_region 2 with fail
  obtain ⟨W1, hW1⟩ : ∃ W1, W1 = ((w.alloc (.cells #[nm, pa, lo, .slice oa L cap] 25)).alloc (.cells (Array.replicate L (.slice none 0 0)) 42)).alloc (.cells #[.slice (some ⟨w.heap.size + 1, 0, none⟩) L L] 39) := ⟨_, rfl⟩
  obtain ⟨s, hs'⟩ : ∃ s, s = w.heap.size := ⟨_, rfl⟩
  have v1 : Bx W1 s 25 [nm, pa, lo, .slice oa L cap] := by
    rw [hW1, hs']
    exact ((Bx.new w _ [nm, pa, lo, .slice oa L cap]).alloc _).alloc _
  have v2 : Bx W1 (s + 1) 42 (List.replicate L (.slice none 0 0)) := by
    rw [hW1, hs', ← List.toArray_replicate]
    have := (Bx.new (w.alloc (.cells #[nm, pa, lo, .slice oa L cap] 25)) 42 (List.replicate L (.slice none 0 0))).alloc (.cells #[.slice (some ⟨w.heap.size + 1, 0, none⟩) L L] 39)
    rwa [World.size_alloc] at this
  have v3 : Bx W1 (s + 1 + 1) 39 [.slice (some ⟨s + 1, 0, none⟩) L L] := by
    rw [hW1, hs']
    have := Bx.new ((w.alloc (.cells #[nm, pa, lo, .slice oa L cap] 25)).alloc (.cells (Array.replicate L (.slice none 0 0)) 42)) 39 [.slice (some ⟨w.heap.size + 1, 0, none⟩) L L]
    rwa [World.size_alloc, World.size_alloc] at this
  have hsz : W1.heap.size = s + 1 + 1 + 1 := by rw [hW1, hs']; simp
  have hbel : Below w.heap.size w W1 := by
    rw [hW1]
    exact (((Below.refl _ w).alloc (Nat.le_refl _) _).alloc (by simp) _).alloc (by simp; omega) _
  rw [← hW1, ← hs']
  have y3 := v1.cell 3
  simp at y3
  have HB := Lib.hid (And.intro v1 (And.intro v2 (And.intro v3 (And.intro hsz (And.intro hbel hs')))))
  clear v1 v2 v3 hsz hbel hs' hW1 hmk
  go_wp2
  clear y3
  refine wp_loop_k (fun q a W => ∃ (k : Nat) (u4 u5 u6 u15 u16 u17 u18 u19 u20 u21 u22 u23 u24 u25 u26 u27 u28 u29 u30 u31 u32 u33 u34 u35 u36 u37 u38 u39 u40 u41 u42 u43 u44 u45 u46 u47 u48 u49 u50 u51 : Value) (ds : List Nat) (vs : List Value), q = L - k ∧ k ≤ L ∧
    a = { tmps := #[.agg #[nm, pa, lo, .slice oa L cap], .pointer (some ⟨s, 0, none⟩), .slice none 0 0, .pointer (some ⟨s + 1 + 1, 0, none⟩), u4, u5, u6, .pointer (some ⟨s, 3, none⟩), .slice oa L cap, .int .i64 (L : Int), .slice (some ⟨s + 1, 0, none⟩) L L, .pointer (some ⟨s, 3, none⟩), .slice oa L cap, .int .i64 (L : Int), .int .i64 (k : Int), u15, u16, u17, u18, u19, u20, u21, u22, u23, u24, u25, u26, u27, u28, u29, u30, u31, u32, u33, u34, u35, u36, u37, u38, u39, u40, u41, u42, u43, u44, u45, u46, u47, u48, u49, u50, u51], defers := ds.map mark } ∧
    ds.Nodup ∧ (∀ D ∈ ds, W1.heap.size ≤ D ∧ W.heap[D]? = some (.deferred (some []))) ∧ Kep (fun b => b = s + 1) W1 W ∧ vs.length = L ∧ PdAt W W1.heap.size (s + 1) vs (prdK g k)) L ?start ?round
  case start =>
    refine ⟨0, _, _, _, _, _, _, _, _, _, _, _, _, _, _, _, _, _, _, _, _, _, _, _, _, _, _, _, _, _, _, _, _, _, _, _, _, _, _, _, _, [], List.replicate L (.slice none 0 0), rfl, Nat.zero_le _, rfl, List.nodup_nil, fun D hD => by simp at hD, Kep.refl _ _, List.length_replicate, PdAt.start HB.out.2.1 (fun x => by simp [prdK])⟩
  case round =>
    rintro q a W ⟨k, u4, u5, u6, u15, u16, u17, u18, u19, u20, u21, u22, u23, u24, u25, u26, u27, u28, u29, u30, u31, u32, u33, u34, u35, u36, u37, u38, u39, u40, u41, u42, u43, u44, u45, u46, u47, u48, u49, u50, u51, ds, vs0, hqk, hk, rfl, hnd, hds, hkW, hvl0, hPd⟩ K hK
    have HK : Go.RowKit.Hid (∀ n' a' w', n' < q → _ → K a' w') := Lib.hid hK
    have HC := Lib.hid (And.intro hqk (And.intro hnd (And.intro hds (And.intro hkW (And.intro hvl0 hPd)))))
    clear hK hqk hnd hds hkW hvl0 hPd
    by_cases hlt : k < L
    · have HG : Go.RowKit.Hid (∀ w, Calls Try.prog 31 #[.agg #[nm, pa, lo, .slice oa L cap], .int .i64 (k : Int)] w fun e w' => e = .returned (.func (.func 49) #[] #[.pointer (some ⟨w.heap.size, 0, none⟩), .pointer (some ⟨w.heap.size + 1, 0, none⟩)]) ∧ w' = (w.alloc (.cells #[nm, pa, lo, .slice oa L cap] 25)).alloc (.cells #[.int .i64 (k : Int)] 3)) := Lib.hid (fun w => by
        have h := goes_any ⟨nm, pa, lo, oa, cap, g⟩ k w
        unfold Bv.v Bv.cs at h
        simp only [← HA.out.2.2.2] at h
        exact h)
      obtain ⟨hqk, hnd, hds, hkW, hvl0, hPd⟩ := HC.out
      obtain ⟨v1, v2, v3, hsz, hbel, hs'⟩ := HB.out
      have b1 := v1.kep hkW (by omega)
      have e0 := cellA (.cells #[.int .i64 (k : Int)] 3) (b1.cell 0)
      have e1 := cellA (.cells #[.int .i64 (k : Int)] 3) (b1.cell 1)
      have e2 := cellA (.cells #[.int .i64 (k : Int)] 3) (b1.cell 2)
      have e3 := cellA (.cells #[.int .i64 (k : Int)] 3) (b1.cell 3)
      clear hqk hnd hds hkW hvl0 hPd v1 v2 v3 hsz hbel hs' b1
      go_wp2_with (go_at_call 31; refine (HG.out _).mono ?_; rintro e w' ⟨rfl, rfl⟩)
      obtain ⟨W2, hW2⟩ : ∃ W2, W2 = ((W.alloc (.cells #[.int .i64 (k : Int)] 3)).alloc (.cells #[nm, pa, lo, .slice oa L cap] 25)).alloc (.cells #[.int .i64 (k : Int)] 3) := ⟨_, rfl⟩
      obtain ⟨q0, hq0⟩ : ∃ q0, q0 = W.heap.size := ⟨_, rfl⟩
      obtain ⟨hqk, hnd, hds, hkW, hvl0, hPd⟩ := HC.out
      obtain ⟨v1, v2, v3, hsz, hbel, hs'⟩ := HB.out
      obtain ⟨hB, hs, hn0, hL⟩ := HA.out
      have x1 : Bx W2 q0 3 [.int .i64 (k : Int)] := by
        rw [hW2, hq0]
        exact ((Bx.new W _ [.int .i64 (k : Int)]).alloc _).alloc _
      have x2 : Bx W2 (q0 + 1) 25 [nm, pa, lo, .slice oa L cap] := by
        rw [hW2, hq0]
        have := (Bx.new (W.alloc (.cells #[.int .i64 (k : Int)] 3)) 25 [nm, pa, lo, .slice oa L cap]).alloc (.cells #[.int .i64 (k : Int)] 3)
        rwa [World.size_alloc] at this
      have x3 : Bx W2 (q0 + 1 + 1) 3 [.int .i64 (k : Int)] := by
        rw [hW2, hq0]
        have := Bx.new ((W.alloc (.cells #[.int .i64 (k : Int)] 3)).alloc (.cells #[nm, pa, lo, .slice oa L cap] 25)) 3 [.int .i64 (k : Int)]
        rwa [World.size_alloc, World.size_alloc] at this
      have hsz2 : W2.heap.size = q0 + 1 + 1 + 1 := by rw [hW2, hq0]; simp
      have hbel2 : Below W.heap.size W W2 := by
        rw [hW2]
        exact (((Below.refl _ W).alloc (Nat.le_refl _) _).alloc (by simp) _).alloc (by simp; omega) _
      have hW1s := hkW.size
      have z3 := (v3.kep hkW (by omega)).below hbel2 (by omega)
      have pd2 := hPd.below hbel2
      have hown0 : ∀ (x : Nat) (v : Value) (b : Nat), vs0[x]? = some v → v.ownBlock = some b → b < q0 ∧ W1.heap.size ≤ b := fun x v b h1 h2 => by
        obtain ⟨v', i1, i2⟩ := hPd.own x (Array.getElem?_eq_some_iff.1 (by simpa using h1)).1
        rw [h1] at i1
        cases i1
        rw [hq0]
        exact own_lt i2 h2
      have nM : ∀ b, q0 ≤ b → b < W2.heap.size + 2 → ¬ PdM (s + 1) vs0 (W2.heap.size + 2) b := fun b h1 h2 h => by
        rcases h with h | ⟨x, v, h3, h4⟩ | h
        · omega
        · have := hown0 x v b h3 h4
          omega
        · omega
      have nS : ∀ b, b < W1.heap.size → b ≠ s + 1 → ¬ PdM (s + 1) vs0 (W2.heap.size + 2) b := fun b h1 h2 h => by
        rcases h with h | ⟨x, v, h3, h4⟩ | h
        · exact h2 h
        · have := hown0 x v b h3 h4
          omega
        · omega
      have hgv := goes_giv n0 w ⟨nm, pa, lo, oa, cap, g⟩ hB k (q0 + 1) (q0 + 1 + 1) (by show k < g.length; omega) hs
      have HGV := Lib.hid hgv
      have hlow : ∀ V, Kep (PdM (s + 1) vs0 (W2.heap.size + 2)) W2 V → Below n0 w V := fun V hV => ⟨hV.os.trans (hbel2.os.trans (hkW.os.trans hbel.os)), hV.tape.trans (hbel2.tape.trans (hkW.tape.trans hbel.tape)), hV.output.trans (hbel2.output.trans (hkW.output.trans hbel.output)), by have := hV.size; have := hbel2.size; have := hbel.size; omega, fun b hb =>
        (hV.same b (by omega) (nS b (by omega) (by omega))).trans ((hbel2.block b (by omega)).trans ((hkW.same b (by omega) (by omega)).trans (hbel.block b (by omega))))⟩
      have HD := Lib.hid (And.intro x1 (And.intro x2 (And.intro x3 (And.intro hsz2 (And.intro hbel2 (And.intro z3 (And.intro pd2 (And.intro hown0 (And.intro nM (And.intro nS (And.intro hlow (And.intro hq0 hW1s))))))))))))
      have hq0s : s + 1 + 1 + 1 ≤ q0 := by omega
      rw [← hW2, ← hq0]
      clear hqk hnd hds hkW hvl0 hPd v1 v2 v3 hsz hbel hs' hB hs hn0 hL x1 x2 x3 hsz2 hbel2 hW1s z3 pd2 hown0 nM nS hgv hlow hq0 hW2 e0 e1 e2 e3
      refine wp_range HGV.out rfl (enters_of Try.func49 (by kernel_rfl) rfl) (fun _ => rfl) (PdM (s + 1) vs0 (W2.heap.size + 2)) ⟨HD.out.2.2.2.2.2.2.2.2.1 _ (by have := HD.out.2.2.2.1; omega) (by omega), HD.out.2.2.2.2.2.2.2.2.1 _ (by have := HD.out.2.2.2.1; omega) (by omega)⟩
        (PdI g k W1.heap.size (s + 1) L vs0 W2) ?hI ?hID ?h0 ?hround ?hdone
      case hI =>
        rintro j V r o o' hr ho hoc ⟨h1, h2, vs, h3, h4, h5⟩
        exact ⟨h1.put (.inl hr) _, by simpa using h2, vs, h3, h4.put _ ho hoc, h5⟩
      case hID =>
        rintro j V ⟨h1, -⟩
        obtain ⟨x1, x2, x3, hsz2, hbel2, z3, pd2, hown0, nM, nS, hlow, hq0, hW1s⟩ := HD.out
        refine ⟨?_, x3.kep h1 (nM _ (by omega) (by omega)), hlow V h1⟩
        have := x2.kep h1 (nM _ (by omega) (by omega))
        rw [HA.out.2.2.2] at this
        exact this
      case h0 =>
        intro r
        obtain ⟨x1, x2, x3, hsz2, hbel2, z3, pd2, hown0, nM, nS, hlow, hq0, hW1s⟩ := HD.out
        refine ⟨((Kep.refl _ _).alloc _).alloc _, by simp, vs0, HC.out.2.2.2.2.1, ?_, fun x v b h1 h2 => .inr (.inl ⟨x, v, h1, h2⟩)⟩
        rw [show prdJ g k 0 = prdK g k from funext fun x => prdJ_zero g k x]
        exact pd2.below (((Below.refl _ W2).alloc (Nat.le_refl _) _).alloc (by simp) _)
      case hround =>
        rintro j hj V ⟨h1, h2, vs, h3, h4, h5⟩ ⟨r0, hrec⟩ hDD
        obtain ⟨x, hx⟩ : ∃ x, x = (tos g k)[j] := ⟨_, rfl⟩
        rw [← hx]
        have hxL : x < L := by
          have := tv_lt (show x ∈ tos g k from hx ▸ List.getElem_mem hj)
          rw [HA.out.2.2.2]
          exact this
        have HI := Lib.hid (And.intro h1 (And.intro h2 (And.intro h3 (And.intro h4 (And.intro h5 (And.intro hrec hx))))))
        clear h1 h2 h3 h4 h5 hrec hDD hx
        gi_wp2
        refine ⟨Kep.refl _ _, fun rr => ?_⟩
        obtain ⟨V3, hV3⟩ : ∃ V3, V3 = V.putObj (W2.heap.size + 1) (.loop rr) := ⟨_, rfl⟩
        rw [← hV3]
        obtain ⟨h1, h2, h3, h4, h5, hrec, hx⟩ := HI.out
        obtain ⟨x1, x2, x3, hsz2, hbel2, z3, pd2, hown0, nM, nS, hlow, hq0, hW1s⟩ := HD.out
        have hsz := HB.out.2.2.2.1
        have h1' : Kep (PdM (s + 1) vs0 (W2.heap.size + 2)) W2 V3 := by
          rw [hV3]
          exact h1.put (.inl (by omega)) _
        have h2' : W2.heap.size + 2 ≤ V3.heap.size := by
          rw [hV3]
          simpa using h2
        have h4' : PdAt V3 W1.heap.size (s + 1) vs (prdJ g k j) := by
          rw [hV3]
          exact h4.put _ hrec rfl
        obtain ⟨P, hP⟩ : ∃ P, P = prdJ g k j := ⟨_, rfl⟩
        rw [← hP] at h4'
        obtain ⟨u, hvx, hou⟩ := h4'.own x (by omega)
        obtain ⟨ou, cu, hu, hlast⟩ := own_parts hou
        obtain ⟨nu, hnu⟩ : ∃ nu, nu = (P x).length := ⟨_, rfl⟩
        rw [← hnu] at hu hlast
        subst hu
        have hnu1 : nu ≤ 1001 := by
          have := prdJ_len g k j x
          rw [← hP, ← hnu] at this
          omega
        have t1 := (z3.kep h1' (nS _ (by omega) (by omega))).cell 0
        have t2 := h4'.rows.cell x
        have t3 := (x1.kep h1' (nM _ (by omega) (by omega))).cell 0
        rw [hvx] at t2
        simp at t1 t3
        have hrq : (Value.slice ou nu cu).ownBlock ≠ some q0 := fun e => nM q0 (Nat.le_refl _) (by omega) (h5 x _ q0 hvx e)
        have HJ := Lib.hid (And.intro h1' (And.intro h2' (And.intro h3 (And.intro h4' (And.intro h5 (And.intro hP (And.intro hx (And.intro hou (And.intro hnu hrq)))))))))
        have HV3 : Go.RowKit.Hid (Bx V3 (s + 1 + 1) 39 [.slice (some ⟨s + 1, 0, none⟩) L L] ∧ Bx V3 q0 3 [.int .i64 (k : Int)] ∧ Bx V3 (s + 1) 42 vs) := Lib.hid ⟨z3.kep h1' (nS _ (by omega) (by omega)), x1.kep h1' (nM _ (by omega) (by omega)), h4'.rows⟩
        have HVX := Lib.hid hvx
        have hq1 : (s + 1 : Nat) ≠ q0 := by omega
        have HL := Lib.hid hlast
        clear h1 h2 h3 h4 h5 hrec hx x1 x2 x3 hsz2 hbel2 z3 pd2 hown0 nM nS hlow hq0 hW1s hsz h1' h2' h4' hP hou hnu hlast hvx hrq hV3
        gi_wp2
        obtain ⟨V4, hV4⟩ : ∃ V4, V4 = V3.drew := ⟨_, rfl⟩
        have HV4 := Lib.hid hV4
        have hSV0 : V3.cell? ⟨s + 1 + 1, 0, none⟩ = some (.slice (some ⟨s + 1, 0, none⟩) L L) ∧ V3.cell? ⟨q0, 0, none⟩ = some (.int .i64 (k : Int)) ∧ V3.cell? ⟨s + 1, x, none⟩ = some (.slice ou nu cu) := ⟨t1, t3, t2⟩
        clear t1 t2 t3
        obtain ⟨i3, hi3, hz3, hs3, hb3⟩ := info_parts infoInt
        have HI3 := Lib.hid (And.intro hi3 (And.intro hz3 (And.intro hs3 hb3)))
        clear hi3 hz3 hs3 hb3
        by_cases hnz : nu = 0
        · subst hnz
          have HN : Go.RowKit.Hid (x ∉ (tos g k).take j) := Lib.hid (fun hm => by
            obtain ⟨h1', h2', h3, h4', h5, hP, hx, hou, hnu, hrq⟩ := HJ.out
            have h := (prdJ_last g k j x).2 hm
            rw [← hP, List.eq_nil_of_length_eq_zero hnu.symm] at h
            cases h)
          have hSV := hSV0
          refine Go.Proofs.Ytfpdecjlfnambaa.wpIn_region_held_in (S := (fun w' => w'.cell? ⟨s + 1 + 1, 0, none⟩ = some (.slice (some ⟨s + 1, 0, none⟩) L L) ∧ w'.cell? ⟨q0, 0, none⟩ = some (.int .i64 (k : Int)) ∧ w'.cell? ⟨s + 1, x, none⟩ = some (.slice ou 0 cu))) (by kernel_rfl) (by kernel_rfl) (by rintro ⟨_, _, h⟩; exact h) ?_ (fun hHeld => ?_)
          · exact hSV
          refine wpAnyH_take (i := 0) (oi := { dst := some 26, op := Op.move (Operand.tmp 6), type := 3, pos := "graph.go:22", after := #[], guard := none }) (v := ?vq0_1) rfl (by kernel_rfl) (by kernel_rfl) (by kernel_rfl) (fun _ _ _ h => h) (Or.inl ⟨by rfl, ?hq0_1⟩) (by assumption) ?_
          case hq0_1 => intro w hSw; (try dsimp only at hSw); go_simp; try (with_reducible rfl)
          (try simp only [Act.put, List.setIfInBounds_toArray, List.set_cons_zero, List.set_cons_succ])
          refine wpAnyH_take (i := 1) (oi := { dst := some 27, op := Op.binOp BinOp.eql 3 (Operand.tmp 26) (Operand.const (Value.int IntKind.i64 0)) 3, type := 4, pos := "graph.go:22", after := #[{ on := 0, ground := Ground.data }], guard := none }) (v := ?vq1_2) rfl (by kernel_rfl) (by kernel_rfl) (by kernel_rfl) (fun _ _ _ h => h) (Or.inl ⟨by rfl, ?hq1_2⟩) (by assumption) ?_
          case hq1_2 => intro w hSw; (try dsimp only at hSw); go_simp; try (with_reducible rfl)
          (try simp only [Act.put, List.setIfInBounds_toArray, List.set_cons_zero, List.set_cons_succ])
          refine wpAnyH_take (i := 2) (oi := { dst := some 28, op := Op.move (Operand.tmp 27), type := 4, pos := "graph.go:22", after := #[{ on := 1, ground := Ground.data }], guard := none }) (v := ?vq2_3) rfl (by kernel_rfl) (by kernel_rfl) (by kernel_rfl) (fun _ _ _ h => h) (Or.inl ⟨by rfl, ?hq2_3⟩) (by assumption) ?_
          case hq2_3 => intro w hSw; (try dsimp only at hSw); go_simp; try (with_reducible rfl)
          (try simp only [Act.put, List.setIfInBounds_toArray, List.set_cons_zero, List.set_cons_succ])
          refine wpAnyH_take (i := 3) (oi := { dst := some 29, op := Op.load 39 (Operand.tmp 3), type := 39, pos := "graph.go:22", after := #[{ on := 2, ground := Ground.guard }], guard := some (2, false) }) (v := undef) rfl (by kernel_rfl) (by kernel_rfl) (by kernel_rfl) (fun _ _ _ h => h) (Or.inr ⟨by rfl, rfl⟩) (by assumption) ?_
          (try simp only [Act.put, List.setIfInBounds_toArray, List.set_cons_zero, List.set_cons_succ])
          refine wpAnyH_take (i := 4) (oi := { dst := some 30, op := Op.move (Operand.tmp 5), type := 3, pos := "graph.go:22", after := #[{ on := 2, ground := Ground.guard }], guard := some (2, false) }) (v := undef) rfl (by kernel_rfl) (by kernel_rfl) (by kernel_rfl) (fun _ _ _ h => h) (Or.inr ⟨by rfl, rfl⟩) (by assumption) ?_
          (try simp only [Act.put, List.setIfInBounds_toArray, List.set_cons_zero, List.set_cons_succ])
          refine wpAnyH_take (i := 5) (oi := { dst := some 31, op := Op.indexAddr 39 (Operand.tmp 29) (Operand.tmp 30), type := 0, pos := "graph.go:22", after := #[{ on := 3, ground := Ground.data }, { on := 4, ground := Ground.data }, { on := 2, ground := Ground.guard }], guard := some (2, false) }) (v := undef) rfl (by kernel_rfl) (by kernel_rfl) (by kernel_rfl) (fun _ _ _ h => h) (Or.inr ⟨by rfl, rfl⟩) (by assumption) ?_
          (try simp only [Act.put, List.setIfInBounds_toArray, List.set_cons_zero, List.set_cons_succ])
          refine wpAnyH_take (i := 6) (oi := { dst := some 32, op := Op.load 42 (Operand.tmp 31), type := 42, pos := "graph.go:22", after := #[{ on := 5, ground := Ground.data }, { on := 2, ground := Ground.guard }], guard := some (2, false) }) (v := undef) rfl (by kernel_rfl) (by kernel_rfl) (by kernel_rfl) (fun _ _ _ h => h) (Or.inr ⟨by rfl, rfl⟩) (by assumption) ?_
          (try simp only [Act.put, List.setIfInBounds_toArray, List.set_cons_zero, List.set_cons_succ])
          refine wpAnyH_take (i := 7) (oi := { dst := some 33, op := Op.move (Operand.tmp 6), type := 3, pos := "graph.go:22", after := #[{ on := 2, ground := Ground.guard }], guard := some (2, false) }) (v := undef) rfl (by kernel_rfl) (by kernel_rfl) (by kernel_rfl) (fun _ _ _ h => h) (Or.inr ⟨by rfl, rfl⟩) (by assumption) ?_
          (try simp only [Act.put, List.setIfInBounds_toArray, List.set_cons_zero, List.set_cons_succ])
          refine wpAnyH_take (i := 8) (oi := { dst := some 34, op := Op.binOp BinOp.sub 3 (Operand.tmp 33) (Operand.const (Value.int IntKind.i64 1)) 3, type := 3, pos := "graph.go:22", after := #[{ on := 7, ground := Ground.data }, { on := 2, ground := Ground.guard }], guard := some (2, false) }) (v := undef) rfl (by kernel_rfl) (by kernel_rfl) (by kernel_rfl) (fun _ _ _ h => h) (Or.inr ⟨by rfl, rfl⟩) (by assumption) ?_
          (try simp only [Act.put, List.setIfInBounds_toArray, List.set_cons_zero, List.set_cons_succ])
          refine wpAnyH_take (i := 9) (oi := { dst := some 35, op := Op.indexAddr 42 (Operand.tmp 32) (Operand.tmp 34), type := 0, pos := "graph.go:22", after := #[{ on := 6, ground := Ground.data }, { on := 8, ground := Ground.data }, { on := 2, ground := Ground.guard }], guard := some (2, false) }) (v := undef) rfl (by kernel_rfl) (by kernel_rfl) (by kernel_rfl) (fun _ _ _ h => h) (Or.inr ⟨by rfl, rfl⟩) (by assumption) ?_
          (try simp only [Act.put, List.setIfInBounds_toArray, List.set_cons_zero, List.set_cons_succ])
          refine wpAnyH_take (i := 10) (oi := { dst := some 36, op := Op.load 3 (Operand.tmp 35), type := 3, pos := "graph.go:22", after := #[{ on := 9, ground := Ground.data }, { on := 2, ground := Ground.guard }], guard := some (2, false) }) (v := undef) rfl (by kernel_rfl) (by kernel_rfl) (by kernel_rfl) (fun _ _ _ h => h) (Or.inr ⟨by rfl, rfl⟩) (by assumption) ?_
          (try simp only [Act.put, List.setIfInBounds_toArray, List.set_cons_zero, List.set_cons_succ])
          refine wpAnyH_take (i := 11) (oi := { dst := some 37, op := Op.load 3 (Operand.tmp 4), type := 3, pos := "graph.go:22", after := #[{ on := 2, ground := Ground.guard }], guard := some (2, false) }) (v := undef) rfl (by kernel_rfl) (by kernel_rfl) (by kernel_rfl) (fun _ _ _ h => h) (Or.inr ⟨by rfl, rfl⟩) (by assumption) ?_
          (try simp only [Act.put, List.setIfInBounds_toArray, List.set_cons_zero, List.set_cons_succ])
          refine wpAnyH_take (i := 12) (oi := { dst := some 38, op := Op.binOp BinOp.neq 3 (Operand.tmp 36) (Operand.tmp 37) 3, type := 4, pos := "graph.go:22", after := #[{ on := 10, ground := Ground.data }, { on := 11, ground := Ground.data }, { on := 2, ground := Ground.guard }], guard := some (2, false) }) (v := undef) rfl (by kernel_rfl) (by kernel_rfl) (by kernel_rfl) (fun _ _ _ h => h) (Or.inr ⟨by rfl, rfl⟩) (by assumption) ?_
          (try simp only [Act.put, List.setIfInBounds_toArray, List.set_cons_zero, List.set_cons_succ])
          refine wpAnyH_take (i := 13) (oi := { dst := some 39, op := Op.pick (Operand.tmp 28) (Operand.const (Value.bool true)) (Operand.tmp 38), type := 4, pos := "graph.go:22", after := #[{ on := 2, ground := Ground.data }, { on := 12, ground := Ground.data }], guard := none }) (v := ?vq13_4) rfl (by kernel_rfl) (by kernel_rfl) (by kernel_rfl) (fun _ _ _ h => h) (Or.inl ⟨by rfl, ?hq13_4⟩) (by assumption) ?_
          case hq13_4 => intro w hSw; (try dsimp only at hSw); go_simp; try (with_reducible rfl)
          (try simp only [Act.put, List.setIfInBounds_toArray, List.set_cons_zero, List.set_cons_succ])
          refine wpAnyH_done (by kernel_rfl) ?_ _
          clear hSV
          have hSV : V4.cell? ⟨s + 1 + 1, 0, none⟩ = some (.slice (some ⟨s + 1, 0, none⟩) L L) ∧ V4.cell? ⟨q0, 0, none⟩ = some (.int .i64 (k : Int)) := by
            rw [hV4]
            exact ⟨hSV0.1, hSV0.2.1⟩
          have hcX : V4.cell? ⟨s + 1, x, none⟩ = some (.slice ou 0 cu) := by
            rw [hV4]
            exact hSV0.2.2
          have HP : Go.RowKit.Hid (V4.ownsRow W1.heap.size 3 1 (.slice ou 0 cu) (P x).length (nC (P x)) ∧ W1.heap.size ≤ V4.heap.size ∧ (P x).length ≤ 1001 ∧ Bx V4 (s + 1 + 1) 39 [.slice (some ⟨s + 1, 0, none⟩) L L] ∧ Bx V4 q0 3 [.int .i64 (k : Int)] ∧ Bx V4 (s + 1) 42 vs ∧ (Value.slice ou 0 cu).ownBlock ≠ some q0) := Lib.hid (by
            obtain ⟨h1', h2', h3, h4', h5, hP, hx, hou, hnu, hrq⟩ := HJ.out
            obtain ⟨g1, g2, g3⟩ := HV3.out
            obtain ⟨x1, x2, x3, hsz2, hbel2, z3, pd2, hown0, nM, nS, hlow, hq0, hW1s⟩ := HD.out
            have hb2 := hbel2.size
            rw [hV4]
            exact ⟨hou, by show W1.heap.size ≤ V3.heap.size; omega, by omega, g1, g2, g3, hrq⟩)
          have hvx := HVX.out
          rw [← hV4]
          clear hSV0 hV4
          gi_wp2
          refine wpIn_mono (Q := PdQ V4 (s + 1) x W1.heap.size (.slice ou 0 cu) (P x).length k (P x)) ?regA ?contA
          case regA =>
            refine Go.Proofs.Ytfpdecjlfnambaa.wpIn_region_held_in (S := (fun w' => w'.cell? ⟨s + 1 + 1, 0, none⟩ = some (.slice (some ⟨s + 1, 0, none⟩) L L) ∧ w'.cell? ⟨q0, 0, none⟩ = some (.int .i64 (k : Int)))) (by kernel_rfl) (by kernel_rfl) (by rintro ⟨_, _, h⟩; exact h) ?_ (fun hHeld => ?_)
            · exact hSV
            obtain ⟨Ud, hUd⟩ : ∃ Ud, Ud = V4.drew := ⟨_, rfl⟩
            have hSd : Ud.cell? ⟨s + 1 + 1, 0, none⟩ = some (.slice (some ⟨s + 1, 0, none⟩) L L) ∧ Ud.cell? ⟨q0, 0, none⟩ = some (.int .i64 (k : Int)) := by rw [hUd]; exact hSV
            have cXd : Ud.cell? ⟨s + 1, x, none⟩ = some (.slice ou 0 cu) := by rw [hUd]; exact hcX
            obtain ⟨ua, hua⟩ : ∃ ua, ua = Ud.heap.size := ⟨_, rfl⟩
            rw [← hUd]
            have HUD := Lib.hid (And.intro hUd hua)
            clear hSV hcX hUd
            refine wpAnyH_take (i := 0) (oi := { dst := some 40, op := Op.load 39 (Operand.tmp 3), type := 39, pos := "graph.go:23", after := #[], guard := none }) (v := ?vq0_33) rfl (by kernel_rfl) (by kernel_rfl) (by kernel_rfl) (fun _ _ _ h => h) (Or.inl ⟨by rfl, ?hq0_33⟩) (by assumption) ?_
            case hq0_33 => intro w hSw; (try dsimp only at hSw); go_simp; try (with_reducible rfl)
            (try simp only [Act.put, List.setIfInBounds_toArray, List.set_cons_zero, List.set_cons_succ])
            refine wpAnyH_take (i := 1) (oi := { dst := some 41, op := Op.move (Operand.tmp 5), type := 3, pos := "graph.go:23", after := #[], guard := none }) (v := ?vq1_34) rfl (by kernel_rfl) (by kernel_rfl) (by kernel_rfl) (fun _ _ _ h => h) (Or.inl ⟨by rfl, ?hq1_34⟩) (by assumption) ?_
            case hq1_34 => intro w hSw; (try dsimp only at hSw); go_simp; try (with_reducible rfl)
            (try simp only [Act.put, List.setIfInBounds_toArray, List.set_cons_zero, List.set_cons_succ])
            refine wpAnyH_take (i := 2) (oi := { dst := some 42, op := Op.load 39 (Operand.tmp 3), type := 39, pos := "graph.go:23", after := #[], guard := none }) (v := ?vq2_35) rfl (by kernel_rfl) (by kernel_rfl) (by kernel_rfl) (fun _ _ _ h => h) (Or.inl ⟨by rfl, ?hq2_35⟩) (by assumption) ?_
            case hq2_35 => intro w hSw; (try dsimp only at hSw); go_simp; try (with_reducible rfl)
            (try simp only [Act.put, List.setIfInBounds_toArray, List.set_cons_zero, List.set_cons_succ])
            refine wpAnyH_take (i := 3) (oi := { dst := some 43, op := Op.move (Operand.tmp 5), type := 3, pos := "graph.go:23", after := #[], guard := none }) (v := ?vq3_36) rfl (by kernel_rfl) (by kernel_rfl) (by kernel_rfl) (fun _ _ _ h => h) (Or.inl ⟨by rfl, ?hq3_36⟩) (by assumption) ?_
            case hq3_36 => intro w hSw; (try dsimp only at hSw); go_simp; try (with_reducible rfl)
            (try simp only [Act.put, List.setIfInBounds_toArray, List.set_cons_zero, List.set_cons_succ])
            refine wpAnyH_take (i := 4) (oi := { dst := some 44, op := Op.indexAddr 39 (Operand.tmp 42) (Operand.tmp 43), type := 0, pos := "graph.go:23", after := #[{ on := 2, ground := Ground.data }, { on := 3, ground := Ground.data }], guard := none }) (v := ?vq4_37) rfl (by kernel_rfl) (by kernel_rfl) (by kernel_rfl) (fun _ _ _ h => h) (Or.inl ⟨by rfl, ?hq4_37⟩) (by assumption) ?_
            case hq4_37 => intro w hSw; (try dsimp only at hSw); go_simp; try (with_reducible rfl)
            (try simp only [Act.put, List.setIfInBounds_toArray, List.set_cons_zero, List.set_cons_succ])
            refine wpAnyH_take (i := 6) (oi := { dst := some 46, op := Op.load 3 (Operand.tmp 4), type := 3, pos := "graph.go:23", after := #[], guard := none }) (v := ?vq6_38) rfl (by kernel_rfl) (by kernel_rfl) (by kernel_rfl) (fun _ _ _ h => h) (Or.inl ⟨by rfl, ?hq6_38⟩) (by assumption) ?_
            case hq6_38 => intro w hSw; (try dsimp only at hSw); go_simp; try (with_reducible rfl)
            (try simp only [Act.put, List.setIfInBounds_toArray, List.set_cons_zero, List.set_cons_succ])
            refine wpAnyH_ready (rs := [5, 7]) (by kernel_rfl) (by simp) ?_
            refine AllReadyH.cons (o := { dst := some 45, op := Op.load 42 (Operand.tmp 44), type := 42, pos := "graph.go:23", after := #[{ on := 4, ground := Ground.data }], guard := none }) rfl (fun K hK => ?_) ?_
            · go_simp
              refine hK.out _ _ hSd (fun hHeld => ?_)
              clear hK K
              (try simp only [Act.put, List.setIfInBounds_toArray, List.set_cons_zero, List.set_cons_succ])
              refine wpAnyH_ready (rs := [7]) (by kernel_rfl) (by simp) ?_
              refine AllReadyH.cons (o := { dst := some 47, op := Op.buildSlice 42 1 #[(0, Operand.tmp 46)], type := 42, pos := "graph.go:23", after := #[{ on := 6, ground := Ground.data }], guard := none }) rfl (fun K hK => ?_) AllReadyH.nil
              go_simp
              obtain ⟨Wa, hWa⟩ : ∃ Wa, Wa = Ud.alloc (.cells #[.int .i64 (k : Int)] 3) := ⟨_, rfl⟩
              rw [← hWa]
              try rw [← hua]
              have hSa : Wa.cell? ⟨s + 1 + 1, 0, none⟩ = some (.slice (some ⟨s + 1, 0, none⟩) L L) ∧ Wa.cell? ⟨q0, 0, none⟩ = some (.int .i64 (k : Int)) := by
                rw [hWa]
                exact ⟨cellA _ hSd.1, cellA _ hSd.2⟩
              have cXa : Wa.cell? ⟨s + 1, x, none⟩ = some (.slice ou 0 cu) := by rw [hWa]; exact cellA _ cXd
              have HWA := Lib.hid hWa
              clear hWa hua
              refine hK.out _ _ hSa (fun hHeld => ?_)
              clear hK K
              (try simp only [Act.put, List.setIfInBounds_toArray, List.set_cons_zero, List.set_cons_succ])
              refine wpAnyH_ready (rs := [8]) (by kernel_rfl) (by simp) ?_
              refine AllReadyH.cons (o := { dst := some 48, op := Op.call { callee := Callee.builtin Builtin.append, args := #[Operand.tmp 45, Operand.tmp 47], argTypes := #[42, 42] }, type := 42, pos := "graph.go:23", after := #[{ on := 5, ground := Ground.data }, { on := 7, ground := Ground.data }], guard := none }) rfl (fun K hK => ?_) AllReadyH.nil
              refine op_append_own_at (.tmp 45) (.tmp 47) 42 rfl (W1.heap.size) 3 i3 _ 1 8 Try.underlying42 HI3.out.1 HI3.out.2.1 HI3.out.2.2.1 HI3.out.2.2.2 rfl (by decide) (.slice ou 0 cu) (P x).length (nC (P x)) rfl (by rw [HWA.out, HUD.out.1]; exact (show World.ownsRow _ _ _ _ _ _ _ from HP.out.1).alloc _) ⟨ua, 0, none⟩ 1 1 [.int .i64 (k : Int)] rfl rfl (by rw [HWA.out, HUD.out.2]; exact new_cells _ [.int .i64 (k : Int)] _) (fun u hu => by simp at hu; subst hu; rfl) (by have := HP.out.2.2.1; unfold maxLen; omega) (by have := HP.out.2.2.1; omega) ?hbs ?_
              case hbs => rw [HWA.out, HUD.out.1]; have h7 := HP.out.2.1; simp; omega
              intro v' w5 hown hg hnil hat
              have hnn : v' ≠ .slice none 0 0 := fun e => by
                have := (hnil.1 e).2
                omega
              obtain ⟨gA, capA, exA, rfl, -, -, -⟩ := own_bx hown hnn
              have H5 : Go.RowKit.Hid (w5.ownsRow W1.heap.size 3 1 (.slice (some ⟨gA, 0, none⟩) ((P x).length + 1) capA) ((P x).length + 1) (nC (P x) ++ [.int .i64 (k : Int)]) ∧ Kep (fun b => (Value.slice ou 0 cu).ownBlock = some b) V4 w5 ∧ ((Value.slice (some ⟨gA, 0, none⟩) ((P x).length + 1) capA).ownBlock = (Value.slice ou 0 cu).ownBlock ∨ ∃ q, (Value.slice (some ⟨gA, 0, none⟩) ((P x).length + 1) capA).ownBlock = some q ∧ V4.heap.size ≤ q)) := Lib.hid (by
                have hk : Kep (fun b => (Value.slice ou 0 cu).ownBlock = some b) V4 Wa := by
                  rw [HWA.out, HUD.out.1]
                  exact (Kep.refl _ _).drew.alloc _
                refine ⟨hown, hk.grown hg (fun q hq => .inr hq), ?_⟩
                rcases hat with h | h
                · exact .inl h
                · exact .inr ⟨_, h, hk.size⟩)
              clear hown hg hnil hat hnn
              have hS5 : w5.cell? ⟨s + 1 + 1, 0, none⟩ = some (.slice (some ⟨s + 1, 0, none⟩) L L) ∧ w5.cell? ⟨q0, 0, none⟩ = some (.int .i64 (k : Int)) := by
                obtain ⟨hP1, hP2, hP3, hP4, hP5, hP6, hP7⟩ := HP.out
                have hk := H5.out.2.1
                exact ⟨by simpa using (hP4.kep hk (fun h => own_ne hP1 hP4 (fun cs fr e => by cases e) h)).cell 0, by simpa using (hP5.kep hk (fun h => hP7 h)).cell 0⟩
              have hX5 : Bx w5 (s + 1) 42 vs := by
                obtain ⟨hP1, hP2, hP3, hP4, hP5, hP6, hP7⟩ := HP.out
                exact hP6.kep H5.out.2.1 (fun h => own_ne hP1 hP6 (fun cs fr e => by cases e) h)
              have c6 := hX5.cell x
              rw [hvx] at c6
              have f6 := hX5.frozen x
              have HX5 := Lib.hid hX5
              clear hX5
              refine hK.out _ _ hS5 (fun hHeld => ?_)
              clear hK K
              (try simp only [Act.put, List.setIfInBounds_toArray, List.set_cons_zero, List.set_cons_succ])
              refine wpAnyH_take (i := 9) (oi := { dst := some 49, op := Op.indexAddr 39 (Operand.tmp 40) (Operand.tmp 41), type := 0, pos := "graph.go:23", after := #[{ on := 0, ground := Ground.data }, { on := 1, ground := Ground.data }, { on := 0, ground := Ground.phase }, { on := 1, ground := Ground.phase }, { on := 2, ground := Ground.phase }, { on := 3, ground := Ground.phase }, { on := 4, ground := Ground.phase }, { on := 5, ground := Ground.phase }, { on := 6, ground := Ground.phase }, { on := 7, ground := Ground.phase }, { on := 8, ground := Ground.phase }], guard := none }) (v := ?vq9_39) rfl (by kernel_rfl) (by kernel_rfl) (by kernel_rfl) (fun _ _ _ h => h) (Or.inl ⟨by rfl, ?hq9_39⟩) (by assumption) ?_
              case hq9_39 => intro w hSw; (try dsimp only at hSw); go_simp; try (with_reducible rfl)
              (try simp only [Act.put, List.setIfInBounds_toArray, List.set_cons_zero, List.set_cons_succ])
              refine wpAnyH_ready (rs := [10]) (by kernel_rfl) (by simp) ?_
              refine AllReadyH.cons (o := { dst := none, op := Op.store 42 (Operand.tmp 49) (Operand.tmp 48), type := 0, pos := "graph.go:23", after := #[{ on := 9, ground := Ground.data }, { on := 8, ground := Ground.data }, { on := 8, ground := Ground.chain }, { on := 0, ground := Ground.phase }, { on := 1, ground := Ground.phase }, { on := 2, ground := Ground.phase }, { on := 3, ground := Ground.phase }, { on := 4, ground := Ground.phase }, { on := 5, ground := Ground.phase }, { on := 6, ground := Ground.phase }, { on := 7, ground := Ground.phase }, { on := 8, ground := Ground.phase }], guard := none }) rfl (fun K hK => ?_) AllReadyH.nil
              go_simp
              obtain ⟨Uf, hUf⟩ : ∃ Uf, Uf = w5.setCell ⟨s + 1, x, none⟩ (.slice (some ⟨gA, 0, none⟩) ((P x).length + 1) capA) := ⟨_, rfl⟩
              rw [← hUf]
              have hSf : Uf.cell? ⟨s + 1 + 1, 0, none⟩ = some (.slice (some ⟨s + 1, 0, none⟩) L L) ∧ Uf.cell? ⟨q0, 0, none⟩ = some (.int .i64 (k : Int)) := by
                rw [hUf]
                exact ⟨(World.cell?_setCell_far _ _ _ _ (by show (s + 1 : Nat) ≠ s + 1 + 1; omega)).trans hS5.1, (World.cell?_setCell_far _ _ _ _ (by have := HP.out.2.2.2.1; show (s + 1 : Nat) ≠ q0; exact hq1)).trans hS5.2⟩
              refine hK.out _ _ hSf (fun hHeld => ?_)
              clear hK K
              (try simp only [Act.put, List.setIfInBounds_toArray, List.set_cons_zero, List.set_cons_succ])
              refine wpAnyH_done (by kernel_rfl) ?_ _
              obtain ⟨h1, h2, h3⟩ := H5.out
              exact ⟨gA, capA, w5, hUf, h2, h1, h3⟩
            refine AllReadyH.cons (o := { dst := some 47, op := Op.buildSlice 42 1 #[(0, Operand.tmp 46)], type := 42, pos := "graph.go:23", after := #[{ on := 6, ground := Ground.data }], guard := none }) rfl (fun K hK => ?_) AllReadyH.nil
            go_simp
            obtain ⟨Wa, hWa⟩ : ∃ Wa, Wa = Ud.alloc (.cells #[.int .i64 (k : Int)] 3) := ⟨_, rfl⟩
            rw [← hWa]
            try rw [← hua]
            have hSa : Wa.cell? ⟨s + 1 + 1, 0, none⟩ = some (.slice (some ⟨s + 1, 0, none⟩) L L) ∧ Wa.cell? ⟨q0, 0, none⟩ = some (.int .i64 (k : Int)) := by
              rw [hWa]
              exact ⟨cellA _ hSd.1, cellA _ hSd.2⟩
            have cXa : Wa.cell? ⟨s + 1, x, none⟩ = some (.slice ou 0 cu) := by rw [hWa]; exact cellA _ cXd
            have HWA := Lib.hid hWa
            clear hWa hua
            refine hK.out _ _ hSa (fun hHeld => ?_)
            clear hK K
            (try simp only [Act.put, List.setIfInBounds_toArray, List.set_cons_zero, List.set_cons_succ])
            refine wpAnyH_ready (rs := [5]) (by kernel_rfl) (by simp) ?_
            refine AllReadyH.cons (o := { dst := some 45, op := Op.load 42 (Operand.tmp 44), type := 42, pos := "graph.go:23", after := #[{ on := 4, ground := Ground.data }], guard := none }) rfl (fun K hK => ?_) AllReadyH.nil
            go_simp
            refine hK.out _ _ hSa (fun hHeld => ?_)
            clear hK K
            (try simp only [Act.put, List.setIfInBounds_toArray, List.set_cons_zero, List.set_cons_succ])
            refine wpAnyH_ready (rs := [8]) (by kernel_rfl) (by simp) ?_
            refine AllReadyH.cons (o := { dst := some 48, op := Op.call { callee := Callee.builtin Builtin.append, args := #[Operand.tmp 45, Operand.tmp 47], argTypes := #[42, 42] }, type := 42, pos := "graph.go:23", after := #[{ on := 5, ground := Ground.data }, { on := 7, ground := Ground.data }], guard := none }) rfl (fun K hK => ?_) AllReadyH.nil
            refine op_append_own_at (.tmp 45) (.tmp 47) 42 rfl (W1.heap.size) 3 i3 _ 1 8 Try.underlying42 HI3.out.1 HI3.out.2.1 HI3.out.2.2.1 HI3.out.2.2.2 rfl (by decide) (.slice ou 0 cu) (P x).length (nC (P x)) rfl (by rw [HWA.out, HUD.out.1]; exact (show World.ownsRow _ _ _ _ _ _ _ from HP.out.1).alloc _) ⟨ua, 0, none⟩ 1 1 [.int .i64 (k : Int)] rfl rfl (by rw [HWA.out, HUD.out.2]; exact new_cells _ [.int .i64 (k : Int)] _) (fun u hu => by simp at hu; subst hu; rfl) (by have := HP.out.2.2.1; unfold maxLen; omega) (by have := HP.out.2.2.1; omega) ?hbs ?_
            case hbs => rw [HWA.out, HUD.out.1]; have h7 := HP.out.2.1; simp; omega
            intro v' w5 hown hg hnil hat
            have hnn : v' ≠ .slice none 0 0 := fun e => by
              have := (hnil.1 e).2
              omega
            obtain ⟨gA, capA, exA, rfl, -, -, -⟩ := own_bx hown hnn
            have H5 : Go.RowKit.Hid (w5.ownsRow W1.heap.size 3 1 (.slice (some ⟨gA, 0, none⟩) ((P x).length + 1) capA) ((P x).length + 1) (nC (P x) ++ [.int .i64 (k : Int)]) ∧ Kep (fun b => (Value.slice ou 0 cu).ownBlock = some b) V4 w5 ∧ ((Value.slice (some ⟨gA, 0, none⟩) ((P x).length + 1) capA).ownBlock = (Value.slice ou 0 cu).ownBlock ∨ ∃ q, (Value.slice (some ⟨gA, 0, none⟩) ((P x).length + 1) capA).ownBlock = some q ∧ V4.heap.size ≤ q)) := Lib.hid (by
              have hk : Kep (fun b => (Value.slice ou 0 cu).ownBlock = some b) V4 Wa := by
                rw [HWA.out, HUD.out.1]
                exact (Kep.refl _ _).drew.alloc _
              refine ⟨hown, hk.grown hg (fun q hq => .inr hq), ?_⟩
              rcases hat with h | h
              · exact .inl h
              · exact .inr ⟨_, h, hk.size⟩)
            clear hown hg hnil hat hnn
            have hS5 : w5.cell? ⟨s + 1 + 1, 0, none⟩ = some (.slice (some ⟨s + 1, 0, none⟩) L L) ∧ w5.cell? ⟨q0, 0, none⟩ = some (.int .i64 (k : Int)) := by
              obtain ⟨hP1, hP2, hP3, hP4, hP5, hP6, hP7⟩ := HP.out
              have hk := H5.out.2.1
              exact ⟨by simpa using (hP4.kep hk (fun h => own_ne hP1 hP4 (fun cs fr e => by cases e) h)).cell 0, by simpa using (hP5.kep hk (fun h => hP7 h)).cell 0⟩
            have hX5 : Bx w5 (s + 1) 42 vs := by
              obtain ⟨hP1, hP2, hP3, hP4, hP5, hP6, hP7⟩ := HP.out
              exact hP6.kep H5.out.2.1 (fun h => own_ne hP1 hP6 (fun cs fr e => by cases e) h)
            have c6 := hX5.cell x
            rw [hvx] at c6
            have f6 := hX5.frozen x
            have HX5 := Lib.hid hX5
            clear hX5
            refine hK.out _ _ hS5 (fun hHeld => ?_)
            clear hK K
            (try simp only [Act.put, List.setIfInBounds_toArray, List.set_cons_zero, List.set_cons_succ])
            refine wpAnyH_take (i := 9) (oi := { dst := some 49, op := Op.indexAddr 39 (Operand.tmp 40) (Operand.tmp 41), type := 0, pos := "graph.go:23", after := #[{ on := 0, ground := Ground.data }, { on := 1, ground := Ground.data }, { on := 0, ground := Ground.phase }, { on := 1, ground := Ground.phase }, { on := 2, ground := Ground.phase }, { on := 3, ground := Ground.phase }, { on := 4, ground := Ground.phase }, { on := 5, ground := Ground.phase }, { on := 6, ground := Ground.phase }, { on := 7, ground := Ground.phase }, { on := 8, ground := Ground.phase }], guard := none }) (v := ?vq9_39) rfl (by kernel_rfl) (by kernel_rfl) (by kernel_rfl) (fun _ _ _ h => h) (Or.inl ⟨by rfl, ?hq9_39⟩) (by assumption) ?_
            case hq9_39 => intro w hSw; (try dsimp only at hSw); go_simp; try (with_reducible rfl)
            (try simp only [Act.put, List.setIfInBounds_toArray, List.set_cons_zero, List.set_cons_succ])
            refine wpAnyH_ready (rs := [10]) (by kernel_rfl) (by simp) ?_
            refine AllReadyH.cons (o := { dst := none, op := Op.store 42 (Operand.tmp 49) (Operand.tmp 48), type := 0, pos := "graph.go:23", after := #[{ on := 9, ground := Ground.data }, { on := 8, ground := Ground.data }, { on := 8, ground := Ground.chain }, { on := 0, ground := Ground.phase }, { on := 1, ground := Ground.phase }, { on := 2, ground := Ground.phase }, { on := 3, ground := Ground.phase }, { on := 4, ground := Ground.phase }, { on := 5, ground := Ground.phase }, { on := 6, ground := Ground.phase }, { on := 7, ground := Ground.phase }, { on := 8, ground := Ground.phase }], guard := none }) rfl (fun K hK => ?_) AllReadyH.nil
            go_simp
            obtain ⟨Uf, hUf⟩ : ∃ Uf, Uf = w5.setCell ⟨s + 1, x, none⟩ (.slice (some ⟨gA, 0, none⟩) ((P x).length + 1) capA) := ⟨_, rfl⟩
            rw [← hUf]
            have hSf : Uf.cell? ⟨s + 1 + 1, 0, none⟩ = some (.slice (some ⟨s + 1, 0, none⟩) L L) ∧ Uf.cell? ⟨q0, 0, none⟩ = some (.int .i64 (k : Int)) := by
              rw [hUf]
              exact ⟨(World.cell?_setCell_far _ _ _ _ (by show (s + 1 : Nat) ≠ s + 1 + 1; omega)).trans hS5.1, (World.cell?_setCell_far _ _ _ _ (by have := HP.out.2.2.2.1; show (s + 1 : Nat) ≠ q0; exact hq1)).trans hS5.2⟩
            refine hK.out _ _ hSf (fun hHeld => ?_)
            clear hK K
            (try simp only [Act.put, List.setIfInBounds_toArray, List.set_cons_zero, List.set_cons_succ])
            refine wpAnyH_done (by kernel_rfl) ?_ _
            obtain ⟨h1, h2, h3⟩ := H5.out
            exact ⟨gA, capA, w5, hUf, h2, h1, h3⟩
          case contA =>
            intro e a' V5 hq
            cases e with
            | ret => exact hq.elim
            | exit id => exact hq.elim
            | goto t => exact hq.elim
            | panic ch => exact hq.elim
            | outgrown => exact hq.elim
            | normal =>
              obtain ⟨gA, capA, w5, rfl, hk5, ho5, hv5⟩ := hq
              simp +zetaDelta only [Exit.inBlock, RoundQ]
              obtain ⟨h1', h2', h3, h4', h5, hP, hx, hou, hnu, hrq⟩ := HJ.out
              exact PdI.grown h1' h2' h3 h4' h5 hvx hP hj hx HN.out (by rw [HV4.out]; exact ⟨rfl, trivial⟩) hk5 ho5 hv5
        · obtain ⟨m, rfl⟩ : ∃ m, nu = m + 1 := ⟨nu - 1, by omega⟩
          obtain ⟨gu, ex, rfl, hgx⟩ := HL.out (by omega)
          have hPl := HJ.out.2.2.2.2.2.2.2.2.1
          obtain ⟨y, hy⟩ : ∃ y, y = (P x)[m]'(by omega) := ⟨_, rfl⟩
          have t8 := hgx.cell m
          rw [nC_at (by omega), ← hy] at t8
          have HY : Go.RowKit.Hid ((P x).getLast? = some y) := Lib.hid (by
            rw [List.getLast?_eq_getElem?, ← hPl, hy, Nat.add_sub_cancel, List.getElem?_eq_getElem])
          clear hgx hPl hy
          have hSV := And.intro hSV0.1 (And.intro hSV0.2.1 (And.intro hSV0.2.2 t8))
          by_cases hyk : y = k
          · subst hyk
            refine Go.Proofs.Ytfpdecjlfnambaa.wpIn_region_held_in (S := (fun w' => w'.cell? ⟨s + 1 + 1, 0, none⟩ = some (.slice (some ⟨s + 1, 0, none⟩) L L) ∧ w'.cell? ⟨q0, 0, none⟩ = some (.int .i64 (y : Int)) ∧ w'.cell? ⟨s + 1, x, none⟩ = some (.slice (some ⟨gu, 0, none⟩) (m + 1) cu) ∧ w'.cell? ⟨gu, m, none⟩ = some (.int .i64 (y : Int)))) (by kernel_rfl) (by kernel_rfl) (by rintro ⟨_, _, h⟩; exact h) ?_ (fun hHeld => ?_)
            · exact hSV
            refine wpAnyH_take (i := 0) (oi := { dst := some 26, op := Op.move (Operand.tmp 6), type := 3, pos := "graph.go:22", after := #[], guard := none }) (v := ?vq0_19) rfl (by kernel_rfl) (by kernel_rfl) (by kernel_rfl) (fun _ _ _ h => h) (Or.inl ⟨by rfl, ?hq0_19⟩) (by assumption) ?_
            case hq0_19 => intro w hSw; (try dsimp only at hSw); go_simp; try (with_reducible rfl)
            (try simp only [Act.put, List.setIfInBounds_toArray, List.set_cons_zero, List.set_cons_succ])
            refine wpAnyH_take (i := 1) (oi := { dst := some 27, op := Op.binOp BinOp.eql 3 (Operand.tmp 26) (Operand.const (Value.int IntKind.i64 0)) 3, type := 4, pos := "graph.go:22", after := #[{ on := 0, ground := Ground.data }], guard := none }) (v := ?vq1_20) rfl (by kernel_rfl) (by kernel_rfl) (by kernel_rfl) (fun _ _ _ h => h) (Or.inl ⟨by rfl, ?hq1_20⟩) (by assumption) ?_
            case hq1_20 => intro w hSw; (try dsimp only at hSw); go_simp; try (with_reducible rfl)
            (try simp only [Act.put, List.setIfInBounds_toArray, List.set_cons_zero, List.set_cons_succ])
            refine wpAnyH_take (i := 2) (oi := { dst := some 28, op := Op.move (Operand.tmp 27), type := 4, pos := "graph.go:22", after := #[{ on := 1, ground := Ground.data }], guard := none }) (v := ?vq2_21) rfl (by kernel_rfl) (by kernel_rfl) (by kernel_rfl) (fun _ _ _ h => h) (Or.inl ⟨by rfl, ?hq2_21⟩) (by assumption) ?_
            case hq2_21 => intro w hSw; (try dsimp only at hSw); go_simp; try (with_reducible rfl)
            (try simp only [Act.put, List.setIfInBounds_toArray, List.set_cons_zero, List.set_cons_succ])
            refine wpAnyH_take (i := 3) (oi := { dst := some 29, op := Op.load 39 (Operand.tmp 3), type := 39, pos := "graph.go:22", after := #[{ on := 2, ground := Ground.guard }], guard := some (2, false) }) (v := ?vq3_22) rfl (by kernel_rfl) (by kernel_rfl) (by kernel_rfl) (fun _ _ _ h => h) (Or.inl ⟨by rfl, ?hq3_22⟩) (by assumption) ?_
            case hq3_22 => intro w hSw; (try dsimp only at hSw); go_simp; try (with_reducible rfl)
            (try simp only [Act.put, List.setIfInBounds_toArray, List.set_cons_zero, List.set_cons_succ])
            refine wpAnyH_take (i := 4) (oi := { dst := some 30, op := Op.move (Operand.tmp 5), type := 3, pos := "graph.go:22", after := #[{ on := 2, ground := Ground.guard }], guard := some (2, false) }) (v := ?vq4_23) rfl (by kernel_rfl) (by kernel_rfl) (by kernel_rfl) (fun _ _ _ h => h) (Or.inl ⟨by rfl, ?hq4_23⟩) (by assumption) ?_
            case hq4_23 => intro w hSw; (try dsimp only at hSw); go_simp; try (with_reducible rfl)
            (try simp only [Act.put, List.setIfInBounds_toArray, List.set_cons_zero, List.set_cons_succ])
            refine wpAnyH_take (i := 5) (oi := { dst := some 31, op := Op.indexAddr 39 (Operand.tmp 29) (Operand.tmp 30), type := 0, pos := "graph.go:22", after := #[{ on := 3, ground := Ground.data }, { on := 4, ground := Ground.data }, { on := 2, ground := Ground.guard }], guard := some (2, false) }) (v := ?vq5_24) rfl (by kernel_rfl) (by kernel_rfl) (by kernel_rfl) (fun _ _ _ h => h) (Or.inl ⟨by rfl, ?hq5_24⟩) (by assumption) ?_
            case hq5_24 => intro w hSw; (try dsimp only at hSw); go_simp; try (with_reducible rfl)
            (try simp only [Act.put, List.setIfInBounds_toArray, List.set_cons_zero, List.set_cons_succ])
            refine wpAnyH_take (i := 6) (oi := { dst := some 32, op := Op.load 42 (Operand.tmp 31), type := 42, pos := "graph.go:22", after := #[{ on := 5, ground := Ground.data }, { on := 2, ground := Ground.guard }], guard := some (2, false) }) (v := ?vq6_25) rfl (by kernel_rfl) (by kernel_rfl) (by kernel_rfl) (fun _ _ _ h => h) (Or.inl ⟨by rfl, ?hq6_25⟩) (by assumption) ?_
            case hq6_25 => intro w hSw; (try dsimp only at hSw); go_simp; try (with_reducible rfl)
            (try simp only [Act.put, List.setIfInBounds_toArray, List.set_cons_zero, List.set_cons_succ])
            refine wpAnyH_take (i := 7) (oi := { dst := some 33, op := Op.move (Operand.tmp 6), type := 3, pos := "graph.go:22", after := #[{ on := 2, ground := Ground.guard }], guard := some (2, false) }) (v := ?vq7_26) rfl (by kernel_rfl) (by kernel_rfl) (by kernel_rfl) (fun _ _ _ h => h) (Or.inl ⟨by rfl, ?hq7_26⟩) (by assumption) ?_
            case hq7_26 => intro w hSw; (try dsimp only at hSw); go_simp; try (with_reducible rfl)
            (try simp only [Act.put, List.setIfInBounds_toArray, List.set_cons_zero, List.set_cons_succ])
            refine wpAnyH_take (i := 8) (oi := { dst := some 34, op := Op.binOp BinOp.sub 3 (Operand.tmp 33) (Operand.const (Value.int IntKind.i64 1)) 3, type := 3, pos := "graph.go:22", after := #[{ on := 7, ground := Ground.data }, { on := 2, ground := Ground.guard }], guard := some (2, false) }) (v := ?vq8_27) rfl (by kernel_rfl) (by kernel_rfl) (by kernel_rfl) (fun _ _ _ h => h) (Or.inl ⟨by rfl, ?hq8_27⟩) (by assumption) ?_
            case hq8_27 => intro w hSw; (try dsimp only at hSw); go_simp; try (with_reducible rfl)
            (try simp only [Act.put, List.setIfInBounds_toArray, List.set_cons_zero, List.set_cons_succ])
            refine wpAnyH_take (i := 9) (oi := { dst := some 35, op := Op.indexAddr 42 (Operand.tmp 32) (Operand.tmp 34), type := 0, pos := "graph.go:22", after := #[{ on := 6, ground := Ground.data }, { on := 8, ground := Ground.data }, { on := 2, ground := Ground.guard }], guard := some (2, false) }) (v := .pointer (some ⟨gu, m, none⟩)) rfl (by kernel_rfl) (by kernel_rfl) (by kernel_rfl) (fun _ _ _ h => h) (Or.inl ⟨by rfl, ?hq9_28⟩) (by assumption) ?_
            case hq9_28 => intro w hSw; (try dsimp only at hSw); go_simp; rw [wrapN m (by omega), if_pos (by omega)]; simp
            (try simp only [Act.put, List.setIfInBounds_toArray, List.set_cons_zero, List.set_cons_succ])
            refine wpAnyH_take (i := 10) (oi := { dst := some 36, op := Op.load 3 (Operand.tmp 35), type := 3, pos := "graph.go:22", after := #[{ on := 9, ground := Ground.data }, { on := 2, ground := Ground.guard }], guard := some (2, false) }) (v := ?vq10_29) rfl (by kernel_rfl) (by kernel_rfl) (by kernel_rfl) (fun _ _ _ h => h) (Or.inl ⟨by rfl, ?hq10_29⟩) (by assumption) ?_
            case hq10_29 => intro w hSw; (try dsimp only at hSw); go_simp; try (with_reducible rfl)
            (try simp only [Act.put, List.setIfInBounds_toArray, List.set_cons_zero, List.set_cons_succ])
            refine wpAnyH_take (i := 11) (oi := { dst := some 37, op := Op.load 3 (Operand.tmp 4), type := 3, pos := "graph.go:22", after := #[{ on := 2, ground := Ground.guard }], guard := some (2, false) }) (v := ?vq11_30) rfl (by kernel_rfl) (by kernel_rfl) (by kernel_rfl) (fun _ _ _ h => h) (Or.inl ⟨by rfl, ?hq11_30⟩) (by assumption) ?_
            case hq11_30 => intro w hSw; (try dsimp only at hSw); go_simp; try (with_reducible rfl)
            (try simp only [Act.put, List.setIfInBounds_toArray, List.set_cons_zero, List.set_cons_succ])
            refine wpAnyH_take (i := 12) (oi := { dst := some 38, op := Op.binOp BinOp.neq 3 (Operand.tmp 36) (Operand.tmp 37) 3, type := 4, pos := "graph.go:22", after := #[{ on := 10, ground := Ground.data }, { on := 11, ground := Ground.data }, { on := 2, ground := Ground.guard }], guard := some (2, false) }) (v := .bool false) rfl (by kernel_rfl) (by kernel_rfl) (by kernel_rfl) (fun _ _ _ h => h) (Or.inl ⟨by rfl, ?hq12_31⟩) (by assumption) ?_
            case hq12_31 => intro w hSw; (try dsimp only at hSw); go_simp; try simp
            (try simp only [Act.put, List.setIfInBounds_toArray, List.set_cons_zero, List.set_cons_succ])
            refine wpAnyH_take (i := 13) (oi := { dst := some 39, op := Op.pick (Operand.tmp 28) (Operand.const (Value.bool true)) (Operand.tmp 38), type := 4, pos := "graph.go:22", after := #[{ on := 2, ground := Ground.data }, { on := 12, ground := Ground.data }], guard := none }) (v := ?vq13_32) rfl (by kernel_rfl) (by kernel_rfl) (by kernel_rfl) (fun _ _ _ h => h) (Or.inl ⟨by rfl, ?hq13_32⟩) (by assumption) ?_
            case hq13_32 => intro w hSw; (try dsimp only at hSw); go_simp; try (with_reducible rfl)
            (try simp only [Act.put, List.setIfInBounds_toArray, List.set_cons_zero, List.set_cons_succ])
            refine wpAnyH_done (by kernel_rfl) ?_ _
            clear hSV
            rw [← hV4]
            gi_wp2
            simp +zetaDelta only [Exit.inBlock, RoundQ]
            obtain ⟨h1', h2', h3, h4', h5, hP, hx, hou, hnu, hrq⟩ := HJ.out
            have hin : x ∈ (tos g y).take j := (prdJ_last g y j x).1 (by rw [← hP]; exact HY.out)
            refine ⟨by rw [HV4.out]; exact (Kep.refl _ _).drew, by rw [HV4.out]; exact h1'.drew, by rw [HV4.out]; exact h2', vs, h3, ?_, h5⟩
            rw [← prdJ_same hj hx hin, ← hP, HV4.out]
            exact h4'.below (Below.refl _ _).drew
          · have HN : Go.RowKit.Hid (x ∉ (tos g k).take j) := Lib.hid (fun hm => by
              obtain ⟨h1', h2', h3, h4', h5, hP, hx, hou, hnu, hrq⟩ := HJ.out
              have h := (prdJ_last g k j x).2 hm
              rw [← hP, HY.out] at h
              exact hyk (Option.some.inj h))
            have hykI : ¬ ((y : Int) = (k : Int)) := by omega
            refine Go.Proofs.Ytfpdecjlfnambaa.wpIn_region_held_in (S := (fun w' => w'.cell? ⟨s + 1 + 1, 0, none⟩ = some (.slice (some ⟨s + 1, 0, none⟩) L L) ∧ w'.cell? ⟨q0, 0, none⟩ = some (.int .i64 (k : Int)) ∧ w'.cell? ⟨s + 1, x, none⟩ = some (.slice (some ⟨gu, 0, none⟩) (m + 1) cu) ∧ w'.cell? ⟨gu, m, none⟩ = some (.int .i64 (y : Int)))) (by kernel_rfl) (by kernel_rfl) (by rintro ⟨_, _, h⟩; exact h) ?_ (fun hHeld => ?_)
            · exact hSV
            refine wpAnyH_take (i := 0) (oi := { dst := some 26, op := Op.move (Operand.tmp 6), type := 3, pos := "graph.go:22", after := #[], guard := none }) (v := ?vq0_5) rfl (by kernel_rfl) (by kernel_rfl) (by kernel_rfl) (fun _ _ _ h => h) (Or.inl ⟨by rfl, ?hq0_5⟩) (by assumption) ?_
            case hq0_5 => intro w hSw; (try dsimp only at hSw); go_simp; try (with_reducible rfl)
            (try simp only [Act.put, List.setIfInBounds_toArray, List.set_cons_zero, List.set_cons_succ])
            refine wpAnyH_take (i := 1) (oi := { dst := some 27, op := Op.binOp BinOp.eql 3 (Operand.tmp 26) (Operand.const (Value.int IntKind.i64 0)) 3, type := 4, pos := "graph.go:22", after := #[{ on := 0, ground := Ground.data }], guard := none }) (v := ?vq1_6) rfl (by kernel_rfl) (by kernel_rfl) (by kernel_rfl) (fun _ _ _ h => h) (Or.inl ⟨by rfl, ?hq1_6⟩) (by assumption) ?_
            case hq1_6 => intro w hSw; (try dsimp only at hSw); go_simp; try (with_reducible rfl)
            (try simp only [Act.put, List.setIfInBounds_toArray, List.set_cons_zero, List.set_cons_succ])
            refine wpAnyH_take (i := 2) (oi := { dst := some 28, op := Op.move (Operand.tmp 27), type := 4, pos := "graph.go:22", after := #[{ on := 1, ground := Ground.data }], guard := none }) (v := ?vq2_7) rfl (by kernel_rfl) (by kernel_rfl) (by kernel_rfl) (fun _ _ _ h => h) (Or.inl ⟨by rfl, ?hq2_7⟩) (by assumption) ?_
            case hq2_7 => intro w hSw; (try dsimp only at hSw); go_simp; try (with_reducible rfl)
            (try simp only [Act.put, List.setIfInBounds_toArray, List.set_cons_zero, List.set_cons_succ])
            refine wpAnyH_take (i := 3) (oi := { dst := some 29, op := Op.load 39 (Operand.tmp 3), type := 39, pos := "graph.go:22", after := #[{ on := 2, ground := Ground.guard }], guard := some (2, false) }) (v := ?vq3_8) rfl (by kernel_rfl) (by kernel_rfl) (by kernel_rfl) (fun _ _ _ h => h) (Or.inl ⟨by rfl, ?hq3_8⟩) (by assumption) ?_
            case hq3_8 => intro w hSw; (try dsimp only at hSw); go_simp; try (with_reducible rfl)
            (try simp only [Act.put, List.setIfInBounds_toArray, List.set_cons_zero, List.set_cons_succ])
            refine wpAnyH_take (i := 4) (oi := { dst := some 30, op := Op.move (Operand.tmp 5), type := 3, pos := "graph.go:22", after := #[{ on := 2, ground := Ground.guard }], guard := some (2, false) }) (v := ?vq4_9) rfl (by kernel_rfl) (by kernel_rfl) (by kernel_rfl) (fun _ _ _ h => h) (Or.inl ⟨by rfl, ?hq4_9⟩) (by assumption) ?_
            case hq4_9 => intro w hSw; (try dsimp only at hSw); go_simp; try (with_reducible rfl)
            (try simp only [Act.put, List.setIfInBounds_toArray, List.set_cons_zero, List.set_cons_succ])
            refine wpAnyH_take (i := 5) (oi := { dst := some 31, op := Op.indexAddr 39 (Operand.tmp 29) (Operand.tmp 30), type := 0, pos := "graph.go:22", after := #[{ on := 3, ground := Ground.data }, { on := 4, ground := Ground.data }, { on := 2, ground := Ground.guard }], guard := some (2, false) }) (v := ?vq5_10) rfl (by kernel_rfl) (by kernel_rfl) (by kernel_rfl) (fun _ _ _ h => h) (Or.inl ⟨by rfl, ?hq5_10⟩) (by assumption) ?_
            case hq5_10 => intro w hSw; (try dsimp only at hSw); go_simp; try (with_reducible rfl)
            (try simp only [Act.put, List.setIfInBounds_toArray, List.set_cons_zero, List.set_cons_succ])
            refine wpAnyH_take (i := 6) (oi := { dst := some 32, op := Op.load 42 (Operand.tmp 31), type := 42, pos := "graph.go:22", after := #[{ on := 5, ground := Ground.data }, { on := 2, ground := Ground.guard }], guard := some (2, false) }) (v := ?vq6_11) rfl (by kernel_rfl) (by kernel_rfl) (by kernel_rfl) (fun _ _ _ h => h) (Or.inl ⟨by rfl, ?hq6_11⟩) (by assumption) ?_
            case hq6_11 => intro w hSw; (try dsimp only at hSw); go_simp; try (with_reducible rfl)
            (try simp only [Act.put, List.setIfInBounds_toArray, List.set_cons_zero, List.set_cons_succ])
            refine wpAnyH_take (i := 7) (oi := { dst := some 33, op := Op.move (Operand.tmp 6), type := 3, pos := "graph.go:22", after := #[{ on := 2, ground := Ground.guard }], guard := some (2, false) }) (v := ?vq7_12) rfl (by kernel_rfl) (by kernel_rfl) (by kernel_rfl) (fun _ _ _ h => h) (Or.inl ⟨by rfl, ?hq7_12⟩) (by assumption) ?_
            case hq7_12 => intro w hSw; (try dsimp only at hSw); go_simp; try (with_reducible rfl)
            (try simp only [Act.put, List.setIfInBounds_toArray, List.set_cons_zero, List.set_cons_succ])
            refine wpAnyH_take (i := 8) (oi := { dst := some 34, op := Op.binOp BinOp.sub 3 (Operand.tmp 33) (Operand.const (Value.int IntKind.i64 1)) 3, type := 3, pos := "graph.go:22", after := #[{ on := 7, ground := Ground.data }, { on := 2, ground := Ground.guard }], guard := some (2, false) }) (v := ?vq8_13) rfl (by kernel_rfl) (by kernel_rfl) (by kernel_rfl) (fun _ _ _ h => h) (Or.inl ⟨by rfl, ?hq8_13⟩) (by assumption) ?_
            case hq8_13 => intro w hSw; (try dsimp only at hSw); go_simp; try (with_reducible rfl)
            (try simp only [Act.put, List.setIfInBounds_toArray, List.set_cons_zero, List.set_cons_succ])
            refine wpAnyH_take (i := 9) (oi := { dst := some 35, op := Op.indexAddr 42 (Operand.tmp 32) (Operand.tmp 34), type := 0, pos := "graph.go:22", after := #[{ on := 6, ground := Ground.data }, { on := 8, ground := Ground.data }, { on := 2, ground := Ground.guard }], guard := some (2, false) }) (v := .pointer (some ⟨gu, m, none⟩)) rfl (by kernel_rfl) (by kernel_rfl) (by kernel_rfl) (fun _ _ _ h => h) (Or.inl ⟨by rfl, ?hq9_14⟩) (by assumption) ?_
            case hq9_14 => intro w hSw; (try dsimp only at hSw); go_simp; rw [wrapN m (by omega), if_pos (by omega)]; simp
            (try simp only [Act.put, List.setIfInBounds_toArray, List.set_cons_zero, List.set_cons_succ])
            refine wpAnyH_take (i := 10) (oi := { dst := some 36, op := Op.load 3 (Operand.tmp 35), type := 3, pos := "graph.go:22", after := #[{ on := 9, ground := Ground.data }, { on := 2, ground := Ground.guard }], guard := some (2, false) }) (v := ?vq10_15) rfl (by kernel_rfl) (by kernel_rfl) (by kernel_rfl) (fun _ _ _ h => h) (Or.inl ⟨by rfl, ?hq10_15⟩) (by assumption) ?_
            case hq10_15 => intro w hSw; (try dsimp only at hSw); go_simp; try (with_reducible rfl)
            (try simp only [Act.put, List.setIfInBounds_toArray, List.set_cons_zero, List.set_cons_succ])
            refine wpAnyH_take (i := 11) (oi := { dst := some 37, op := Op.load 3 (Operand.tmp 4), type := 3, pos := "graph.go:22", after := #[{ on := 2, ground := Ground.guard }], guard := some (2, false) }) (v := ?vq11_16) rfl (by kernel_rfl) (by kernel_rfl) (by kernel_rfl) (fun _ _ _ h => h) (Or.inl ⟨by rfl, ?hq11_16⟩) (by assumption) ?_
            case hq11_16 => intro w hSw; (try dsimp only at hSw); go_simp; try (with_reducible rfl)
            (try simp only [Act.put, List.setIfInBounds_toArray, List.set_cons_zero, List.set_cons_succ])
            refine wpAnyH_take (i := 12) (oi := { dst := some 38, op := Op.binOp BinOp.neq 3 (Operand.tmp 36) (Operand.tmp 37) 3, type := 4, pos := "graph.go:22", after := #[{ on := 10, ground := Ground.data }, { on := 11, ground := Ground.data }, { on := 2, ground := Ground.guard }], guard := some (2, false) }) (v := .bool true) rfl (by kernel_rfl) (by kernel_rfl) (by kernel_rfl) (fun _ _ _ h => h) (Or.inl ⟨by rfl, ?hq12_17⟩) (by assumption) ?_
            case hq12_17 => intro w hSw; (try dsimp only at hSw); go_simp; try simpa using hykI
            (try simp only [Act.put, List.setIfInBounds_toArray, List.set_cons_zero, List.set_cons_succ])
            refine wpAnyH_take (i := 13) (oi := { dst := some 39, op := Op.pick (Operand.tmp 28) (Operand.const (Value.bool true)) (Operand.tmp 38), type := 4, pos := "graph.go:22", after := #[{ on := 2, ground := Ground.data }, { on := 12, ground := Ground.data }], guard := none }) (v := ?vq13_18) rfl (by kernel_rfl) (by kernel_rfl) (by kernel_rfl) (fun _ _ _ h => h) (Or.inl ⟨by rfl, ?hq13_18⟩) (by assumption) ?_
            case hq13_18 => intro w hSw; (try dsimp only at hSw); go_simp; try (with_reducible rfl)
            (try simp only [Act.put, List.setIfInBounds_toArray, List.set_cons_zero, List.set_cons_succ])
            refine wpAnyH_done (by kernel_rfl) ?_ _
            clear hSV hykI
            have hSV : V4.cell? ⟨s + 1 + 1, 0, none⟩ = some (.slice (some ⟨s + 1, 0, none⟩) L L) ∧ V4.cell? ⟨q0, 0, none⟩ = some (.int .i64 (k : Int)) := by
              rw [hV4]
              exact ⟨hSV0.1, hSV0.2.1⟩
            have hcX : V4.cell? ⟨s + 1, x, none⟩ = some (.slice (some ⟨gu, 0, none⟩) (m + 1) cu) := by
              rw [hV4]
              exact hSV0.2.2
            have HP : Go.RowKit.Hid (V4.ownsRow W1.heap.size 3 1 (.slice (some ⟨gu, 0, none⟩) (m + 1) cu) (P x).length (nC (P x)) ∧ W1.heap.size ≤ V4.heap.size ∧ (P x).length ≤ 1001 ∧ Bx V4 (s + 1 + 1) 39 [.slice (some ⟨s + 1, 0, none⟩) L L] ∧ Bx V4 q0 3 [.int .i64 (k : Int)] ∧ Bx V4 (s + 1) 42 vs ∧ (Value.slice (some ⟨gu, 0, none⟩) (m + 1) cu).ownBlock ≠ some q0) := Lib.hid (by
              obtain ⟨h1', h2', h3, h4', h5, hP, hx, hou, hnu, hrq⟩ := HJ.out
              obtain ⟨g1, g2, g3⟩ := HV3.out
              obtain ⟨x1, x2, x3, hsz2, hbel2, z3, pd2, hown0, nM, nS, hlow, hq0, hW1s⟩ := HD.out
              have hb2 := hbel2.size
              rw [hV4]
              exact ⟨hou, by show W1.heap.size ≤ V3.heap.size; omega, by omega, g1, g2, g3, hrq⟩)
            have hvx := HVX.out
            rw [← hV4]
            clear hSV0 hV4
            gi_wp2
            refine wpIn_mono (Q := PdQ V4 (s + 1) x W1.heap.size (.slice (some ⟨gu, 0, none⟩) (m + 1) cu) (P x).length k (P x)) ?regB ?contB
            case regB =>
              refine Go.Proofs.Ytfpdecjlfnambaa.wpIn_region_held_in (S := (fun w' => w'.cell? ⟨s + 1 + 1, 0, none⟩ = some (.slice (some ⟨s + 1, 0, none⟩) L L) ∧ w'.cell? ⟨q0, 0, none⟩ = some (.int .i64 (k : Int)))) (by kernel_rfl) (by kernel_rfl) (by rintro ⟨_, _, h⟩; exact h) ?_ (fun hHeld => ?_)
              · exact hSV
              obtain ⟨Ud, hUd⟩ : ∃ Ud, Ud = V4.drew := ⟨_, rfl⟩
              have hSd : Ud.cell? ⟨s + 1 + 1, 0, none⟩ = some (.slice (some ⟨s + 1, 0, none⟩) L L) ∧ Ud.cell? ⟨q0, 0, none⟩ = some (.int .i64 (k : Int)) := by rw [hUd]; exact hSV
              have cXd : Ud.cell? ⟨s + 1, x, none⟩ = some (.slice (some ⟨gu, 0, none⟩) (m + 1) cu) := by rw [hUd]; exact hcX
              obtain ⟨ua, hua⟩ : ∃ ua, ua = Ud.heap.size := ⟨_, rfl⟩
              rw [← hUd]
              have HUD := Lib.hid (And.intro hUd hua)
              clear hSV hcX hUd
              refine wpAnyH_take (i := 0) (oi := { dst := some 40, op := Op.load 39 (Operand.tmp 3), type := 39, pos := "graph.go:23", after := #[], guard := none }) (v := ?vq0_40) rfl (by kernel_rfl) (by kernel_rfl) (by kernel_rfl) (fun _ _ _ h => h) (Or.inl ⟨by rfl, ?hq0_40⟩) (by assumption) ?_
              case hq0_40 => intro w hSw; (try dsimp only at hSw); go_simp; try (with_reducible rfl)
              (try simp only [Act.put, List.setIfInBounds_toArray, List.set_cons_zero, List.set_cons_succ])
              refine wpAnyH_take (i := 1) (oi := { dst := some 41, op := Op.move (Operand.tmp 5), type := 3, pos := "graph.go:23", after := #[], guard := none }) (v := ?vq1_41) rfl (by kernel_rfl) (by kernel_rfl) (by kernel_rfl) (fun _ _ _ h => h) (Or.inl ⟨by rfl, ?hq1_41⟩) (by assumption) ?_
              case hq1_41 => intro w hSw; (try dsimp only at hSw); go_simp; try (with_reducible rfl)
              (try simp only [Act.put, List.setIfInBounds_toArray, List.set_cons_zero, List.set_cons_succ])
              refine wpAnyH_take (i := 2) (oi := { dst := some 42, op := Op.load 39 (Operand.tmp 3), type := 39, pos := "graph.go:23", after := #[], guard := none }) (v := ?vq2_42) rfl (by kernel_rfl) (by kernel_rfl) (by kernel_rfl) (fun _ _ _ h => h) (Or.inl ⟨by rfl, ?hq2_42⟩) (by assumption) ?_
              case hq2_42 => intro w hSw; (try dsimp only at hSw); go_simp; try (with_reducible rfl)
              (try simp only [Act.put, List.setIfInBounds_toArray, List.set_cons_zero, List.set_cons_succ])
              refine wpAnyH_take (i := 3) (oi := { dst := some 43, op := Op.move (Operand.tmp 5), type := 3, pos := "graph.go:23", after := #[], guard := none }) (v := ?vq3_43) rfl (by kernel_rfl) (by kernel_rfl) (by kernel_rfl) (fun _ _ _ h => h) (Or.inl ⟨by rfl, ?hq3_43⟩) (by assumption) ?_
              case hq3_43 => intro w hSw; (try dsimp only at hSw); go_simp; try (with_reducible rfl)
              (try simp only [Act.put, List.setIfInBounds_toArray, List.set_cons_zero, List.set_cons_succ])
              refine wpAnyH_take (i := 4) (oi := { dst := some 44, op := Op.indexAddr 39 (Operand.tmp 42) (Operand.tmp 43), type := 0, pos := "graph.go:23", after := #[{ on := 2, ground := Ground.data }, { on := 3, ground := Ground.data }], guard := none }) (v := ?vq4_44) rfl (by kernel_rfl) (by kernel_rfl) (by kernel_rfl) (fun _ _ _ h => h) (Or.inl ⟨by rfl, ?hq4_44⟩) (by assumption) ?_
              case hq4_44 => intro w hSw; (try dsimp only at hSw); go_simp; try (with_reducible rfl)
              (try simp only [Act.put, List.setIfInBounds_toArray, List.set_cons_zero, List.set_cons_succ])
              refine wpAnyH_take (i := 6) (oi := { dst := some 46, op := Op.load 3 (Operand.tmp 4), type := 3, pos := "graph.go:23", after := #[], guard := none }) (v := ?vq6_45) rfl (by kernel_rfl) (by kernel_rfl) (by kernel_rfl) (fun _ _ _ h => h) (Or.inl ⟨by rfl, ?hq6_45⟩) (by assumption) ?_
              case hq6_45 => intro w hSw; (try dsimp only at hSw); go_simp; try (with_reducible rfl)
              (try simp only [Act.put, List.setIfInBounds_toArray, List.set_cons_zero, List.set_cons_succ])
              refine wpAnyH_ready (rs := [5, 7]) (by kernel_rfl) (by simp) ?_
              refine AllReadyH.cons (o := { dst := some 45, op := Op.load 42 (Operand.tmp 44), type := 42, pos := "graph.go:23", after := #[{ on := 4, ground := Ground.data }], guard := none }) rfl (fun K hK => ?_) ?_
              · go_simp
                refine hK.out _ _ hSd (fun hHeld => ?_)
                clear hK K
                (try simp only [Act.put, List.setIfInBounds_toArray, List.set_cons_zero, List.set_cons_succ])
                refine wpAnyH_ready (rs := [7]) (by kernel_rfl) (by simp) ?_
                refine AllReadyH.cons (o := { dst := some 47, op := Op.buildSlice 42 1 #[(0, Operand.tmp 46)], type := 42, pos := "graph.go:23", after := #[{ on := 6, ground := Ground.data }], guard := none }) rfl (fun K hK => ?_) AllReadyH.nil
                go_simp
                obtain ⟨Wa, hWa⟩ : ∃ Wa, Wa = Ud.alloc (.cells #[.int .i64 (k : Int)] 3) := ⟨_, rfl⟩
                rw [← hWa]
                try rw [← hua]
                have hSa : Wa.cell? ⟨s + 1 + 1, 0, none⟩ = some (.slice (some ⟨s + 1, 0, none⟩) L L) ∧ Wa.cell? ⟨q0, 0, none⟩ = some (.int .i64 (k : Int)) := by
                  rw [hWa]
                  exact ⟨cellA _ hSd.1, cellA _ hSd.2⟩
                have cXa : Wa.cell? ⟨s + 1, x, none⟩ = some (.slice (some ⟨gu, 0, none⟩) (m + 1) cu) := by rw [hWa]; exact cellA _ cXd
                have HWA := Lib.hid hWa
                clear hWa hua
                refine hK.out _ _ hSa (fun hHeld => ?_)
                clear hK K
                (try simp only [Act.put, List.setIfInBounds_toArray, List.set_cons_zero, List.set_cons_succ])
                refine wpAnyH_ready (rs := [8]) (by kernel_rfl) (by simp) ?_
                refine AllReadyH.cons (o := { dst := some 48, op := Op.call { callee := Callee.builtin Builtin.append, args := #[Operand.tmp 45, Operand.tmp 47], argTypes := #[42, 42] }, type := 42, pos := "graph.go:23", after := #[{ on := 5, ground := Ground.data }, { on := 7, ground := Ground.data }], guard := none }) rfl (fun K hK => ?_) AllReadyH.nil
                refine op_append_own_at (.tmp 45) (.tmp 47) 42 rfl (W1.heap.size) 3 i3 _ 1 8 Try.underlying42 HI3.out.1 HI3.out.2.1 HI3.out.2.2.1 HI3.out.2.2.2 rfl (by decide) (.slice (some ⟨gu, 0, none⟩) (m + 1) cu) (P x).length (nC (P x)) rfl (by rw [HWA.out, HUD.out.1]; exact (show World.ownsRow _ _ _ _ _ _ _ from HP.out.1).alloc _) ⟨ua, 0, none⟩ 1 1 [.int .i64 (k : Int)] rfl rfl (by rw [HWA.out, HUD.out.2]; exact new_cells _ [.int .i64 (k : Int)] _) (fun u hu => by simp at hu; subst hu; rfl) (by have := HP.out.2.2.1; unfold maxLen; omega) (by have := HP.out.2.2.1; omega) ?hbs ?_
                case hbs => rw [HWA.out, HUD.out.1]; have h7 := HP.out.2.1; simp; omega
                intro v' w5 hown hg hnil hat
                have hnn : v' ≠ .slice none 0 0 := fun e => by
                  have := (hnil.1 e).2
                  omega
                obtain ⟨gA, capA, exA, rfl, -, -, -⟩ := own_bx hown hnn
                have H5 : Go.RowKit.Hid (w5.ownsRow W1.heap.size 3 1 (.slice (some ⟨gA, 0, none⟩) ((P x).length + 1) capA) ((P x).length + 1) (nC (P x) ++ [.int .i64 (k : Int)]) ∧ Kep (fun b => (Value.slice (some ⟨gu, 0, none⟩) (m + 1) cu).ownBlock = some b) V4 w5 ∧ ((Value.slice (some ⟨gA, 0, none⟩) ((P x).length + 1) capA).ownBlock = (Value.slice (some ⟨gu, 0, none⟩) (m + 1) cu).ownBlock ∨ ∃ q, (Value.slice (some ⟨gA, 0, none⟩) ((P x).length + 1) capA).ownBlock = some q ∧ V4.heap.size ≤ q)) := Lib.hid (by
                  have hk : Kep (fun b => (Value.slice (some ⟨gu, 0, none⟩) (m + 1) cu).ownBlock = some b) V4 Wa := by
                    rw [HWA.out, HUD.out.1]
                    exact (Kep.refl _ _).drew.alloc _
                  refine ⟨hown, hk.grown hg (fun q hq => .inr hq), ?_⟩
                  rcases hat with h | h
                  · exact .inl h
                  · exact .inr ⟨_, h, hk.size⟩)
                clear hown hg hnil hat hnn
                have hS5 : w5.cell? ⟨s + 1 + 1, 0, none⟩ = some (.slice (some ⟨s + 1, 0, none⟩) L L) ∧ w5.cell? ⟨q0, 0, none⟩ = some (.int .i64 (k : Int)) := by
                  obtain ⟨hP1, hP2, hP3, hP4, hP5, hP6, hP7⟩ := HP.out
                  have hk := H5.out.2.1
                  exact ⟨by simpa using (hP4.kep hk (fun h => own_ne hP1 hP4 (fun cs fr e => by cases e) h)).cell 0, by simpa using (hP5.kep hk (fun h => hP7 h)).cell 0⟩
                have hX5 : Bx w5 (s + 1) 42 vs := by
                  obtain ⟨hP1, hP2, hP3, hP4, hP5, hP6, hP7⟩ := HP.out
                  exact hP6.kep H5.out.2.1 (fun h => own_ne hP1 hP6 (fun cs fr e => by cases e) h)
                have c6 := hX5.cell x
                rw [hvx] at c6
                have f6 := hX5.frozen x
                have HX5 := Lib.hid hX5
                clear hX5
                refine hK.out _ _ hS5 (fun hHeld => ?_)
                clear hK K
                (try simp only [Act.put, List.setIfInBounds_toArray, List.set_cons_zero, List.set_cons_succ])
                refine wpAnyH_take (i := 9) (oi := { dst := some 49, op := Op.indexAddr 39 (Operand.tmp 40) (Operand.tmp 41), type := 0, pos := "graph.go:23", after := #[{ on := 0, ground := Ground.data }, { on := 1, ground := Ground.data }, { on := 0, ground := Ground.phase }, { on := 1, ground := Ground.phase }, { on := 2, ground := Ground.phase }, { on := 3, ground := Ground.phase }, { on := 4, ground := Ground.phase }, { on := 5, ground := Ground.phase }, { on := 6, ground := Ground.phase }, { on := 7, ground := Ground.phase }, { on := 8, ground := Ground.phase }], guard := none }) (v := ?vq9_46) rfl (by kernel_rfl) (by kernel_rfl) (by kernel_rfl) (fun _ _ _ h => h) (Or.inl ⟨by rfl, ?hq9_46⟩) (by assumption) ?_
                case hq9_46 => intro w hSw; (try dsimp only at hSw); go_simp; try (with_reducible rfl)
                (try simp only [Act.put, List.setIfInBounds_toArray, List.set_cons_zero, List.set_cons_succ])
                refine wpAnyH_ready (rs := [10]) (by kernel_rfl) (by simp) ?_
                refine AllReadyH.cons (o := { dst := none, op := Op.store 42 (Operand.tmp 49) (Operand.tmp 48), type := 0, pos := "graph.go:23", after := #[{ on := 9, ground := Ground.data }, { on := 8, ground := Ground.data }, { on := 8, ground := Ground.chain }, { on := 0, ground := Ground.phase }, { on := 1, ground := Ground.phase }, { on := 2, ground := Ground.phase }, { on := 3, ground := Ground.phase }, { on := 4, ground := Ground.phase }, { on := 5, ground := Ground.phase }, { on := 6, ground := Ground.phase }, { on := 7, ground := Ground.phase }, { on := 8, ground := Ground.phase }], guard := none }) rfl (fun K hK => ?_) AllReadyH.nil
                go_simp
                obtain ⟨Uf, hUf⟩ : ∃ Uf, Uf = w5.setCell ⟨s + 1, x, none⟩ (.slice (some ⟨gA, 0, none⟩) ((P x).length + 1) capA) := ⟨_, rfl⟩
                rw [← hUf]
                have hSf : Uf.cell? ⟨s + 1 + 1, 0, none⟩ = some (.slice (some ⟨s + 1, 0, none⟩) L L) ∧ Uf.cell? ⟨q0, 0, none⟩ = some (.int .i64 (k : Int)) := by
                  rw [hUf]
                  exact ⟨(World.cell?_setCell_far _ _ _ _ (by show (s + 1 : Nat) ≠ s + 1 + 1; omega)).trans hS5.1, (World.cell?_setCell_far _ _ _ _ (by have := HP.out.2.2.2.1; show (s + 1 : Nat) ≠ q0; exact hq1)).trans hS5.2⟩
                refine hK.out _ _ hSf (fun hHeld => ?_)
                clear hK K
                (try simp only [Act.put, List.setIfInBounds_toArray, List.set_cons_zero, List.set_cons_succ])
                refine wpAnyH_done (by kernel_rfl) ?_ _
                obtain ⟨h1, h2, h3⟩ := H5.out
                exact ⟨gA, capA, w5, hUf, h2, h1, h3⟩
              refine AllReadyH.cons (o := { dst := some 47, op := Op.buildSlice 42 1 #[(0, Operand.tmp 46)], type := 42, pos := "graph.go:23", after := #[{ on := 6, ground := Ground.data }], guard := none }) rfl (fun K hK => ?_) AllReadyH.nil
              go_simp
              obtain ⟨Wa, hWa⟩ : ∃ Wa, Wa = Ud.alloc (.cells #[.int .i64 (k : Int)] 3) := ⟨_, rfl⟩
              rw [← hWa]
              try rw [← hua]
              have hSa : Wa.cell? ⟨s + 1 + 1, 0, none⟩ = some (.slice (some ⟨s + 1, 0, none⟩) L L) ∧ Wa.cell? ⟨q0, 0, none⟩ = some (.int .i64 (k : Int)) := by
                rw [hWa]
                exact ⟨cellA _ hSd.1, cellA _ hSd.2⟩
              have cXa : Wa.cell? ⟨s + 1, x, none⟩ = some (.slice (some ⟨gu, 0, none⟩) (m + 1) cu) := by rw [hWa]; exact cellA _ cXd
              have HWA := Lib.hid hWa
              clear hWa hua
              refine hK.out _ _ hSa (fun hHeld => ?_)
              clear hK K
              (try simp only [Act.put, List.setIfInBounds_toArray, List.set_cons_zero, List.set_cons_succ])
              refine wpAnyH_ready (rs := [5]) (by kernel_rfl) (by simp) ?_
              refine AllReadyH.cons (o := { dst := some 45, op := Op.load 42 (Operand.tmp 44), type := 42, pos := "graph.go:23", after := #[{ on := 4, ground := Ground.data }], guard := none }) rfl (fun K hK => ?_) AllReadyH.nil
              go_simp
              refine hK.out _ _ hSa (fun hHeld => ?_)
              clear hK K
              (try simp only [Act.put, List.setIfInBounds_toArray, List.set_cons_zero, List.set_cons_succ])
              refine wpAnyH_ready (rs := [8]) (by kernel_rfl) (by simp) ?_
              refine AllReadyH.cons (o := { dst := some 48, op := Op.call { callee := Callee.builtin Builtin.append, args := #[Operand.tmp 45, Operand.tmp 47], argTypes := #[42, 42] }, type := 42, pos := "graph.go:23", after := #[{ on := 5, ground := Ground.data }, { on := 7, ground := Ground.data }], guard := none }) rfl (fun K hK => ?_) AllReadyH.nil
              refine op_append_own_at (.tmp 45) (.tmp 47) 42 rfl (W1.heap.size) 3 i3 _ 1 8 Try.underlying42 HI3.out.1 HI3.out.2.1 HI3.out.2.2.1 HI3.out.2.2.2 rfl (by decide) (.slice (some ⟨gu, 0, none⟩) (m + 1) cu) (P x).length (nC (P x)) rfl (by rw [HWA.out, HUD.out.1]; exact (show World.ownsRow _ _ _ _ _ _ _ from HP.out.1).alloc _) ⟨ua, 0, none⟩ 1 1 [.int .i64 (k : Int)] rfl rfl (by rw [HWA.out, HUD.out.2]; exact new_cells _ [.int .i64 (k : Int)] _) (fun u hu => by simp at hu; subst hu; rfl) (by have := HP.out.2.2.1; unfold maxLen; omega) (by have := HP.out.2.2.1; omega) ?hbs ?_
              case hbs => rw [HWA.out, HUD.out.1]; have h7 := HP.out.2.1; simp; omega
              intro v' w5 hown hg hnil hat
              have hnn : v' ≠ .slice none 0 0 := fun e => by
                have := (hnil.1 e).2
                omega
              obtain ⟨gA, capA, exA, rfl, -, -, -⟩ := own_bx hown hnn
              have H5 : Go.RowKit.Hid (w5.ownsRow W1.heap.size 3 1 (.slice (some ⟨gA, 0, none⟩) ((P x).length + 1) capA) ((P x).length + 1) (nC (P x) ++ [.int .i64 (k : Int)]) ∧ Kep (fun b => (Value.slice (some ⟨gu, 0, none⟩) (m + 1) cu).ownBlock = some b) V4 w5 ∧ ((Value.slice (some ⟨gA, 0, none⟩) ((P x).length + 1) capA).ownBlock = (Value.slice (some ⟨gu, 0, none⟩) (m + 1) cu).ownBlock ∨ ∃ q, (Value.slice (some ⟨gA, 0, none⟩) ((P x).length + 1) capA).ownBlock = some q ∧ V4.heap.size ≤ q)) := Lib.hid (by
                have hk : Kep (fun b => (Value.slice (some ⟨gu, 0, none⟩) (m + 1) cu).ownBlock = some b) V4 Wa := by
                  rw [HWA.out, HUD.out.1]
                  exact (Kep.refl _ _).drew.alloc _
                refine ⟨hown, hk.grown hg (fun q hq => .inr hq), ?_⟩
                rcases hat with h | h
                · exact .inl h
                · exact .inr ⟨_, h, hk.size⟩)
              clear hown hg hnil hat hnn
              have hS5 : w5.cell? ⟨s + 1 + 1, 0, none⟩ = some (.slice (some ⟨s + 1, 0, none⟩) L L) ∧ w5.cell? ⟨q0, 0, none⟩ = some (.int .i64 (k : Int)) := by
                obtain ⟨hP1, hP2, hP3, hP4, hP5, hP6, hP7⟩ := HP.out
                have hk := H5.out.2.1
                exact ⟨by simpa using (hP4.kep hk (fun h => own_ne hP1 hP4 (fun cs fr e => by cases e) h)).cell 0, by simpa using (hP5.kep hk (fun h => hP7 h)).cell 0⟩
              have hX5 : Bx w5 (s + 1) 42 vs := by
                obtain ⟨hP1, hP2, hP3, hP4, hP5, hP6, hP7⟩ := HP.out
                exact hP6.kep H5.out.2.1 (fun h => own_ne hP1 hP6 (fun cs fr e => by cases e) h)
              have c6 := hX5.cell x
              rw [hvx] at c6
              have f6 := hX5.frozen x
              have HX5 := Lib.hid hX5
              clear hX5
              refine hK.out _ _ hS5 (fun hHeld => ?_)
              clear hK K
              (try simp only [Act.put, List.setIfInBounds_toArray, List.set_cons_zero, List.set_cons_succ])
              refine wpAnyH_take (i := 9) (oi := { dst := some 49, op := Op.indexAddr 39 (Operand.tmp 40) (Operand.tmp 41), type := 0, pos := "graph.go:23", after := #[{ on := 0, ground := Ground.data }, { on := 1, ground := Ground.data }, { on := 0, ground := Ground.phase }, { on := 1, ground := Ground.phase }, { on := 2, ground := Ground.phase }, { on := 3, ground := Ground.phase }, { on := 4, ground := Ground.phase }, { on := 5, ground := Ground.phase }, { on := 6, ground := Ground.phase }, { on := 7, ground := Ground.phase }, { on := 8, ground := Ground.phase }], guard := none }) (v := ?vq9_46) rfl (by kernel_rfl) (by kernel_rfl) (by kernel_rfl) (fun _ _ _ h => h) (Or.inl ⟨by rfl, ?hq9_46⟩) (by assumption) ?_
              case hq9_46 => intro w hSw; (try dsimp only at hSw); go_simp; try (with_reducible rfl)
              (try simp only [Act.put, List.setIfInBounds_toArray, List.set_cons_zero, List.set_cons_succ])
              refine wpAnyH_ready (rs := [10]) (by kernel_rfl) (by simp) ?_
              refine AllReadyH.cons (o := { dst := none, op := Op.store 42 (Operand.tmp 49) (Operand.tmp 48), type := 0, pos := "graph.go:23", after := #[{ on := 9, ground := Ground.data }, { on := 8, ground := Ground.data }, { on := 8, ground := Ground.chain }, { on := 0, ground := Ground.phase }, { on := 1, ground := Ground.phase }, { on := 2, ground := Ground.phase }, { on := 3, ground := Ground.phase }, { on := 4, ground := Ground.phase }, { on := 5, ground := Ground.phase }, { on := 6, ground := Ground.phase }, { on := 7, ground := Ground.phase }, { on := 8, ground := Ground.phase }], guard := none }) rfl (fun K hK => ?_) AllReadyH.nil
              go_simp
              obtain ⟨Uf, hUf⟩ : ∃ Uf, Uf = w5.setCell ⟨s + 1, x, none⟩ (.slice (some ⟨gA, 0, none⟩) ((P x).length + 1) capA) := ⟨_, rfl⟩
              rw [← hUf]
              have hSf : Uf.cell? ⟨s + 1 + 1, 0, none⟩ = some (.slice (some ⟨s + 1, 0, none⟩) L L) ∧ Uf.cell? ⟨q0, 0, none⟩ = some (.int .i64 (k : Int)) := by
                rw [hUf]
                exact ⟨(World.cell?_setCell_far _ _ _ _ (by show (s + 1 : Nat) ≠ s + 1 + 1; omega)).trans hS5.1, (World.cell?_setCell_far _ _ _ _ (by have := HP.out.2.2.2.1; show (s + 1 : Nat) ≠ q0; exact hq1)).trans hS5.2⟩
              refine hK.out _ _ hSf (fun hHeld => ?_)
              clear hK K
              (try simp only [Act.put, List.setIfInBounds_toArray, List.set_cons_zero, List.set_cons_succ])
              refine wpAnyH_done (by kernel_rfl) ?_ _
              obtain ⟨h1, h2, h3⟩ := H5.out
              exact ⟨gA, capA, w5, hUf, h2, h1, h3⟩
            case contB =>
              intro e a' V5 hq
              cases e with
              | ret => exact hq.elim
              | exit id => exact hq.elim
              | goto t => exact hq.elim
              | panic ch => exact hq.elim
              | outgrown => exact hq.elim
              | normal =>
                obtain ⟨gA, capA, w5, rfl, hk5, ho5, hv5⟩ := hq
                simp +zetaDelta only [Exit.inBlock, RoundQ]
                obtain ⟨h1', h2', h3, h4', h5, hP, hx, hou, hnu, hrq⟩ := HJ.out
                exact PdI.grown h1' h2' h3 h4' h5 hvx hP hj hx HN.out (by rw [HV4.out]; exact ⟨rfl, trivial⟩) hk5 ho5 hv5
      case hdone =>
        rintro V ⟨h1, h2, vs, h3, h4, h5⟩ hDD
        obtain ⟨hqk, hnd, hds, hkW, hvl0, hPd⟩ := HC.out
        obtain ⟨x1, x2, x3, hsz2, hbel2, z3, pd2, hown0, nM, nS, hlow, hq0, hW1s⟩ := HD.out
        obtain ⟨v1, v2, v3, hsz, hbel, hs'⟩ := HB.out
        have HF := Lib.hid (And.intro h1 (And.intro h3 (And.intro h4 hDD)))
        clear h1 h2 h3 h4 h5 hDD hqk hnd hds hkW hvl0 hPd x1 x2 x3 hsz2 hbel2 z3 pd2 hown0 nM nS hlow hq0 hW1s v1 v2 v3 hsz hbel hs'
        go_wp2
        obtain ⟨h1, h3, h4, hDD⟩ := HF.out
        obtain ⟨hqk, hnd, hds, hkW, hvl0, hPd⟩ := HC.out
        obtain ⟨x1, x2, x3, hsz2, hbel2, z3, pd2, hown0, nM, nS, hlow, hq0, hW1s⟩ := HD.out
        obtain ⟨v1, v2, v3, hsz, hbel, hs'⟩ := HB.out
        refine HK.out (L - (k + 1)) _ _ (by omega) ⟨k + 1, _, _, _, _, _, _, _, _, _, _, _, _, _, _, _, _, _, _, _, _, _, _, _, _, _, _, _, _, _, _, _, _, _, _, _, _, _, _, _, _, W2.heap.size :: ds, vs, rfl, hlt, rfl, ?_, ?_, ?_, h3, ?_⟩
        · refine List.nodup_cons.2 ⟨fun h => ?_, hnd⟩
          have := (Array.getElem?_eq_some_iff.1 (hds _ h).2).1
          omega
        · intro D hD'
          rcases List.mem_cons.1 hD' with h | h
          · subst h
            exact ⟨by omega, hDD⟩
          · obtain ⟨p1, p2⟩ := hds D h
            have hDl := (Array.getElem?_eq_some_iff.1 p2).1
            have p3 := (hbel2.block D hDl).trans p2
            refine ⟨p1, (h1.same D (by omega) (fun hm => ?_)).trans p3⟩
            rcases hm with hm | ⟨z, v, hz, hv⟩ | hm
            · omega
            · obtain ⟨v', i1, i2⟩ := pd2.own z (List.getElem?_eq_some_iff.1 hz).1
              rw [hz] at i1
              cases i1
              exact own_ne i2 p3 (fun cs fr e => by cases e) hv
            · omega
        · have hbs := hbel2.size
          have h1s := h1.size
          exact ⟨h1.os.trans (hbel2.os.trans hkW.os), h1.tape.trans (hbel2.tape.trans hkW.tape), h1.output.trans (hbel2.output.trans hkW.output), by omega, fun b hb hm => (h1.same b (by omega) (nS b hb hm)).trans ((hbel2.block b (by omega)).trans (hkW.same b hb hm))⟩
        · rw [prdK_succ']
          exact h4
    · obtain rfl : k = L := by omega
      obtain ⟨hqk, hnd, hds, hkW, hvl0, hPd⟩ := HC.out
      obtain ⟨v1, v2, v3, hsz, hbel, hs'⟩ := HB.out
      have e3 := (v3.kep hkW (by omega)).cell 0
      simp at e3
      clear hqk hnd hds hkW hvl0 hPd v1 v2 v3 hsz hbel hs'
      go_wp2
      obtain ⟨hqk, hnd, hds, hkW, hvl0, hPd⟩ := HC.out
      obtain ⟨v1, v2, v3, hsz, hbel, hs'⟩ := HB.out
      refine leaves_marks ds W hnd (fun D hD => (hds D hD).2) ⟨_, results_tmp rfl _ _ _, ?_⟩
      have hg := HA.out.2.2.2
      refine ⟨s + 1, vs0, W1.heap.size, by rw [← hg]; rfl, by omega, by omega, ?_, by rw [hvl0, hg], by rw [← hg]; exact hPd.shut ds W (fun D hD => ⟨_, (hds D hD).2, rfl⟩)⟩
      have hsb := shutAll_below (n := W1.heap.size) ds W (fun D hD => (hds D hD).1)
      have hbs := hbel.size
      have h1 : Below w.heap.size w W := ⟨hkW.os.trans hbel.os, hkW.tape.trans hbel.tape, hkW.output.trans hbel.output, by have := hkW.size; omega, fun b hb => (hkW.same b (by omega) (by omega)).trans (hbel.block b hb)⟩
      exact h1.trans (hsb.mono (by omega))
end Go.Proofs.Ytfpdecjlfnambaa
