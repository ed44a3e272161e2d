/-
  Arguments that are sources, or rows of statements, opened to cells. No conditions: lemmas.
-/
import Derived.Test.YtgogdcpgfmndnaaGreatDoorTValA
import Derived.ProofKit
import Derived.OpenShut
import Derived.Lib.SmallJoins
import Derived.Deep.Slices
import Derived.Deep.Fields
namespace Go.Proofs.YtgogdcpgfmndnaaGreatDoor
open Go.RowKit Go.ChangeShapes Go.WideShapes Go.ChangeAt

theorem i64_bounds {a : Int} (h : (Lit.int .i64 a).wf = true) : I64 a := by
  unfold I64
  simpa [Lit.wf, IntKind.min, IntKind.max, IntKind.signed, IntKind.bits] using h
theorem addr_eq {w : World} {a : Addr} {v : Value} (h : w.cell? a = some v) : a = ⟨a.block, a.off, none⟩ := by
  cases a with
  | mk b o s =>
    cases s with
    | none => rfl
    | some s =>
      simp only [World.cell?] at h
      split at h
      · simp at h
      · cases h
theorem add_plain (b o k : Nat) : (⟨b, o, none⟩ : Addr).add k = ⟨b, o + k, none⟩ := by unfold Addr.add; split <;> simp_all
theorem list_choose {α : Type} (P : Nat → α → Prop) : ∀ n : Nat, (∀ i, i < n → ∃ x, P i x) → ∃ l : List α, l.length = n ∧ ∀ i x, l[i]? = some x → P i x
  | 0, _ => ⟨[], rfl, by simp⟩
  | n + 1, h => by
    obtain ⟨l, hl, hp⟩ := list_choose P n fun i hi => h i (by omega)
    obtain ⟨x, hx⟩ := h n (by omega)
    refine ⟨l ++ [x], by simp [hl], fun i y hy => ?_⟩
    by_cases hi : i < n
    · rw [List.getElem?_append_left (by omega)] at hy
      exact hp i y hy
    · rw [List.getElem?_append_right (by omega), hl] at hy
      by_cases h2 : i = n
      · subst h2
        simp at hy
        subst hy
        exact hx
      · rw [List.getElem?_eq_none (by simp; omega)] at hy
        cases hy

section
variable {H : Type} {enc : TypeId × Value → H} {W : World}

theorem row_of {α : Type} {t e : TypeId} {sz fuel : Nat} {cs : List Value} {x : DataW H × List MemPlace} (C : α → List Value) (Q : α → Prop) (ht : Tryz.prog.underlying t = some (.slice e)) (hC : Tryz.prog.cellsOf e = sz) (hsz : 0 < sz)
    (hf : DataW.trod enc Tryz.prog W 0 (fun _ => true) true fuel t cs = some x)
    (hel : ∀ n cs' x', n < fuel → cs'.length = sz → DataW.trod enc Tryz.prog W 0 (fun _ => true) true n e cs' = some x' → ∃ y, cs' = C y ∧ Q y) :
    ∃ (h : Hd) (l : List α), cs = [.slice h.oa l.length h.cap] ∧ Row W h sz l C Q := by
  rcases DataW.trod_slice ht hf with ⟨h0, _⟩ | ⟨a, len, cap, elems, rest, n, hn, hcs, _, hb, hl, hm, hlen, hx, _, _⟩
  · exact ⟨⟨none, 0⟩, [], h0, Nat.le_refl _, Nat.zero_le _, fun h => absurd h (Nat.lt_irrefl _), fun _ h => by cases h⟩
  · rw [hC] at hx
    have cell : ∀ i, i < len → ∃ cs' x', cs'.length = sz ∧ (∀ j, j < sz → W.cell? ((a.add (i * sz)).add j) = cs'[j]?) ∧ DataW.trod enc Tryz.prog W 0 (fun _ => true) true n e cs' = some x' := fun i hil => by
      have h1 := hx i hil
      rw [List.getElem?_eq_getElem (by omega)] at h1
      obtain ⟨cs', hc, htr⟩ := Option.bind_eq_some_iff.1 h1
      obtain ⟨_, hcl, hat⟩ := World.cells?_some hc
      exact ⟨cs', _, hcl, hat, htr⟩
    obtain ⟨l, hll, hp⟩ := list_choose (fun i (y : α) => (∀ j v, (C y)[j]? = some v → W.cell? ((a.add (i * sz)).add j) = some v) ∧ Q y) len fun i hi => by
      obtain ⟨cs', x', h1, h2, h3⟩ := cell i hi
      obtain ⟨y, rfl, hq⟩ := hel n cs' x' (by omega) h1 h3
      exact ⟨y, fun j v hv => by rw [h2 j (by rw [← h1]; exact (List.getElem?_eq_some_iff.1 hv).1)]; exact hv, hq⟩
    subst hll
    refine ⟨⟨some a, cap⟩, l, hcs, hl, hm, fun h0 => ?_, fun y hy => ?_⟩
    · obtain ⟨cs0, x0, hcl, hat, _⟩ := cell 0 h0
      have h00 := hat 0 hsz
      rw [Nat.zero_mul] at h00
      have ha : (a.add 0).add 0 = a := by unfold Addr.add; simp
      rw [ha, List.getElem?_eq_getElem (by omega)] at h00
      have he := addr_eq h00
      have hlt := World.block_lt_of_cell? W a h00
      refine ⟨a.block, a.off, by rw [← he], hlt, fun i y hy j v hv => ?_⟩
      have := (hp i y hy).1 j v hv
      rw [he, add_plain, add_plain] at this
      exact this
    · obtain ⟨i, hi⟩ := List.getElem?_of_mem hy
      exact (hp i y hi).2

theorem k3 : Tryz.prog.cellsOf 3 = 1 := by kernel_rfl
theorem k4 : Tryz.prog.cellsOf 4 = 1 := by kernel_rfl
theorem k9 : Tryz.prog.cellsOf 9 = 1 := by kernel_rfl
theorem k36 : Tryz.prog.cellsOf 36 = 1 := by kernel_rfl
theorem k42 : Tryz.prog.cellsOf 42 = 1 := by kernel_rfl
theorem k46 : Tryz.prog.cellsOf 46 = 1 := by kernel_rfl
theorem k22 : Tryz.prog.cellsOf 22 = 1 := by kernel_rfl
theorem k23 : Tryz.prog.cellsOf 23 = 1 := by kernel_rfl
theorem k24 : Tryz.prog.cellsOf 24 = 1 := by kernel_rfl
theorem k32 : Tryz.prog.cellsOf 32 = 1 := by kernel_rfl
theorem k33 : Tryz.prog.cellsOf 33 = 1 := by kernel_rfl
theorem k37 : Tryz.prog.cellsOf 37 = 1 := by kernel_rfl
theorem k43 : Tryz.prog.cellsOf 43 = 1 := by kernel_rfl
theorem k47 : Tryz.prog.cellsOf 47 = 1 := by kernel_rfl
theorem k50 : Tryz.prog.cellsOf 50 = 1 := by kernel_rfl
theorem k66 : Tryz.prog.cellsOf 66 = 1 := by kernel_rfl
theorem k58 : Tryz.prog.cellsOf 58 = 1 := by kernel_rfl
theorem k39 : Tryz.prog.cellsOf 39 = 2 := by kernel_rfl
theorem k41 : Tryz.prog.cellsOf 41 = 4 := by kernel_rfl
theorem k45 : Tryz.prog.cellsOf 45 = 3 := by kernel_rfl
theorem k49 : Tryz.prog.cellsOf 49 = 6 := by kernel_rfl
theorem k52 : Tryz.prog.cellsOf 52 = 21 := by kernel_rfl
theorem k107 : Tryz.prog.cellsOf 107 = 3 := by kernel_rfl
theorem k102 : Tryz.prog.cellsOf 102 = 4 := by kernel_rfl
theorem k71 : Tryz.prog.cellsOf 71 = 4 := by kernel_rfl
theorem k65 : Tryz.prog.cellsOf 65 = 4 := by kernel_rfl
theorem k68 : Tryz.prog.cellsOf 68 = 3 := by kernel_rfl
theorem k35 : Tryz.prog.cellsOf 35 = 4 := by kernel_rfl
theorem k26 : Tryz.prog.cellsOf 26 = 3 := by kernel_rfl

abbrev Tr (enc : TypeId × Value → H) (W : World) (fuel : Nat) (t : TypeId) (cs : List Value) (x : DataW H × List MemPlace) : Prop := DataW.trod enc Tryz.prog W 0 (fun _ => true) true fuel t cs = some x

set_option maxRecDepth 100000 in
theorem step_of {fuel : Nat} {cs : List Value} {x : DataW H × List MemPlace} (hl : cs.length = 1) (h : Tr enc W fuel 58 cs x) : ∃ s, cs = stepC s := by
  obtain ⟨xs, m, _, _, _, hlen, hf⟩ := DataW.trod_struct Tryz.underlying58 h
  match cs, hl with
  | [c0], _ =>
    match xs, hlen with
    | [y0], _ =>
      have h0 := hf 0 _ rfl
      simp [k9] at h0
      obtain ⟨s, e, -⟩ := DataW.trod_string Tryz.underlying9 h0
      exact ⟨s, e⟩
set_option maxRecDepth 100000 in
theorem pl_of {fuel : Nat} {cs : List Value} {x : DataW H × List MemPlace} (hl : cs.length = 2) (h : Tr enc W fuel 39 cs x) : ∃ p, cs = plC p ∧ PlH W p := by
  obtain ⟨xs, m, _, _, _, hlen, hf⟩ := DataW.trod_struct Tryz.underlying39 h
  match cs, hl with
  | [c0, c1], _ =>
    match xs, hlen with
    | [y0, y1], _ =>
      have h0 := hf 0 _ rfl
      have h1 := hf 1 _ rfl
      simp [k9] at h0
      simp [k37] at h1
      obtain ⟨s, e0, -⟩ := DataW.trod_string Tryz.underlying9 h0
      obtain ⟨hd, l, e1, hr⟩ := row_of stepC (fun _ => True) Tryz.underlying37 k58 (by decide) h1 fun n cs' x' _ hl ht => by
        obtain ⟨s, e⟩ := step_of hl ht
        exact ⟨s, e, trivial⟩
      simp at e0 e1
      subst e0 e1
      exact ⟨⟨s, hd, l⟩, rfl, hr⟩
set_option maxRecDepth 100000 in
theorem op_of {fuel : Nat} {cs : List Value} {x : DataW H × List MemPlace} (hl : cs.length = 4) (h : Tr enc W fuel 41 cs x) : ∃ p, cs = opC p ∧ OpH W p := by
  obtain ⟨xs, m, _, _, _, hlen, hf⟩ := DataW.trod_struct Tryz.underlying41 h
  match cs, hl with
  | [c0, c1, c2, c3], _ =>
    match xs, hlen with
    | [y0, y1, y2], _ =>
      have h0 := hf 0 _ rfl
      have h1 := hf 1 _ rfl
      have h2 := hf 2 _ rfl
      simp [k4] at h0
      simp [k3] at h1
      simp [k39] at h2
      obtain ⟨b, e0, -⟩ := DataW.trod_bool Tryz.underlying4 h0
      obtain ⟨n, e1, -, w1⟩ := DataW.trod_int Tryz.underlying3 h1
      obtain ⟨p, e2, hp⟩ := pl_of rfl h2
      obtain ⟨pn, ph, pp⟩ := p
      simp [plC] at e0 e1 e2
      obtain ⟨e2, e3⟩ := e2
      subst e0 e1 e2 e3
      exact ⟨⟨b, n, ⟨pn, ph, pp⟩⟩, rfl, i64_bounds w1, hp⟩
set_option maxRecDepth 100000 in
theorem rv_of {fuel : Nat} {cs : List Value} {x : DataW H × List MemPlace} (hl : cs.length = 6) (h : Tr enc W fuel 49 cs x) : ∃ p, cs = rvC p ∧ RvH W p := by
  obtain ⟨xs, m, _, _, _, hlen, hf⟩ := DataW.trod_struct Tryz.underlying49 h
  match cs, hl with
  | [c0, c1, c2, c3, c4, c5], _ =>
    match xs, hlen with
    | [y0, y1, y2, y3, y4], _ =>
      have h0 := hf 0 _ rfl
      have h1 := hf 1 _ rfl
      have h2 := hf 2 _ rfl
      have h3 := hf 3 _ rfl
      have h4 := hf 4 _ rfl
      simp [k46] at h0
      simp [k47] at h1
      simp [k39] at h2
      simp [k9] at h3 h4
      obtain ⟨n, e0, -, w0⟩ := DataW.trod_int Tryz.underlying46 h0
      obtain ⟨hd, l, e1, hr⟩ := row_of opC (OpH W) Tryz.underlying47 k41 (by decide) h1 fun n cs' x' _ hl ht => op_of hl ht
      obtain ⟨p, e2, hp⟩ := pl_of rfl h2
      obtain ⟨s3, e4, -⟩ := DataW.trod_string Tryz.underlying9 h3
      obtain ⟨s4, e5, -⟩ := DataW.trod_string Tryz.underlying9 h4
      obtain ⟨pn, ph, pp⟩ := p
      simp [plC] at e0 e1 e2 e4 e5
      obtain ⟨e2, e3⟩ := e2
      subst e0 e1 e2 e3 e4 e5
      exact ⟨⟨n, hd, l, ⟨pn, ph, pp⟩, s3, s4⟩, rfl, i64_bounds w0, hr, hp⟩
set_option maxRecDepth 100000 in
theorem ty_of (fuel : Nat) : ∀ {cs : List Value} {x : DataW H × List MemPlace}, cs.length = 3 → Tr enc W fuel 45 cs x → ∃ t, cs = tyC t ∧ TyH fuel W t := by
  induction fuel using Nat.strongRecOn with
  | _ fuel ih =>
    intro cs x hl h
    obtain ⟨xs, m, hm, _, _, hlen, hf⟩ := DataW.trod_struct Tryz.underlying45 h
    match cs, hl with
    | [c0, c1, c2], _ =>
      match xs, hlen with
      | [y0, y1, y2], _ =>
        have h0 := hf 0 _ rfl
        have h1 := hf 1 _ rfl
        have h2 := hf 2 _ rfl
        simp [k42] at h0
        simp [k9] at h1
        simp [k43] at h2
        obtain ⟨n, e0, -, w0⟩ := DataW.trod_int Tryz.underlying42 h0
        obtain ⟨s, e1, -⟩ := DataW.trod_string Tryz.underlying9 h1
        obtain ⟨hd, l, e2, hr⟩ := row_of tyC (TyH m W) Tryz.underlying43 k45 (by decide) h2 fun q cs' x' hq hl ht => by
          obtain ⟨t, e, ht⟩ := ih q (by omega) hl ht
          exact ⟨t, e, TyH.le (by omega) ht⟩
        simp at e0 e1 e2
        subst e0 e1 e2 hm
        exact ⟨.mk n s hd l, rfl, i64_bounds w0, hr⟩
set_option maxRecDepth 100000 in
theorem st_of (fuel : Nat) : (∀ {cs : List Value} {x : DataW H × List MemPlace}, cs.length = 21 → Tr enc W fuel 52 cs x → ∃ t, cs = stC t ∧ StH fuel W t) ∧ (∀ {cs : List Value} {x : DataW H × List MemPlace}, cs.length = 3 → Tr enc W fuel 107 cs x → ∃ t, cs = arC t ∧ ArH fuel W t) := by
  induction fuel using Nat.strongRecOn with
  | _ fuel ih =>
    constructor
    · intro cs x hl h
      obtain ⟨xs, m, hm, _, _, hlen, hf⟩ := DataW.trod_struct Tryz.underlying52 h
      match cs, hl with
      | [c0, c1, c2, c3, c4, c5, c6, c7, c8, c9, c10, c11, c12, c13, c14, c15, c16, c17, c18, c19, c20], _ =>
        match xs, hlen with
        | [y0, y1, y2, y3, y4, y5, y6, y7, y8, y9], _ =>
          have h0 := hf 0 _ rfl
          have h1 := hf 1 _ rfl
          have h2 := hf 2 _ rfl
          have h3 := hf 3 _ rfl
          have h4 := hf 4 _ rfl
          have h5 := hf 5 _ rfl
          have h6 := hf 6 _ rfl
          have h7 := hf 7 _ rfl
          have h8 := hf 8 _ rfl
          have h9 := hf 9 _ rfl
          clear hf h
          simp [k36] at h0
          simp [k3] at h1
          simp [k9] at h2
          simp [k45] at h3
          simp [k39] at h4
          simp [k49] at h5
          simp [k41] at h6
          simp [k32] at h7 h8
          simp [k50] at h9
          obtain ⟨n0, e0, -, w0⟩ := DataW.trod_int Tryz.underlying36 h0
          obtain ⟨n1, e1, -, -⟩ := DataW.trod_int Tryz.underlying3 h1
          obtain ⟨s2, e2, -⟩ := DataW.trod_string Tryz.underlying9 h2
          obtain ⟨ty, e3, hty⟩ := ty_of m rfl h3
          obtain ⟨p, e4, hp⟩ := pl_of rfl h4
          obtain ⟨rv, e5, hrv⟩ := rv_of rfl h5
          obtain ⟨op, e6, hop⟩ := op_of rfl h6
          have hst : ∀ q cs' x', q < m → cs'.length = 21 → DataW.trod enc Tryz.prog W 0 (fun _ => true) true q 52 cs' = some x' → ∃ y, cs' = stC y ∧ StH m W y := fun q cs' x' hq hl ht => by
            obtain ⟨t, e, ht⟩ := (ih q (by omega)).1 hl ht
            exact ⟨t, e, StH.le (by omega) ht⟩
          obtain ⟨hd7, l7, e7, hr7⟩ := row_of stC (StH m W) Tryz.underlying32 k52 (by decide) h7 hst
          obtain ⟨hd8, l8, e8, hr8⟩ := row_of stC (StH m W) Tryz.underlying32 k52 (by decide) h8 hst
          obtain ⟨hd9, l9, e9, hr9⟩ := row_of arC (ArH m W) Tryz.underlying50 k107 (by decide) h9 fun q cs' x' hq hl ht => by
            obtain ⟨t, e, ht⟩ := (ih q (by omega)).2 hl ht
            exact ⟨t, e, ArH.le (by omega) ht⟩
          subst hm
          refine ⟨.mk n0 n1 s2 ty p rv op hd7 l7 hd8 l8 hd9 l9, ?_, i64_bounds w0, hty, hp, hrv, hop, hr7, hr8, hr9⟩
          rw [stC, ← e3, ← e4, ← e5, ← e6]
          simp at e0 e1 e2 e7 e8 e9
          rw [e0, e1, e2, e7, e8, e9]
          rfl
    · intro cs x hl h
      obtain ⟨xs, m, hm, _, _, hlen, hf⟩ := DataW.trod_struct Tryz.underlying107 h
      match cs, hl with
      | [c0, c1, c2], _ =>
        match xs, hlen with
        | [y0, y1, y2], _ =>
          have h0 := hf 0 _ rfl
          have h1 := hf 1 _ rfl
          have h2 := hf 2 _ rfl
          simp [k9] at h0 h1
          simp [k32] at h2
          obtain ⟨s0, e0, -⟩ := DataW.trod_string Tryz.underlying9 h0
          obtain ⟨s1, e1, -⟩ := DataW.trod_string Tryz.underlying9 h1
          obtain ⟨hd, l, e2, hr⟩ := row_of stC (StH m W) Tryz.underlying32 k52 (by decide) h2 fun q cs' x' hq hl ht => by
            obtain ⟨t, e, ht⟩ := (ih q (by omega)).1 hl ht
            exact ⟨t, e, StH.le (by omega) ht⟩
          simp at e0 e1 e2
          subst e0 e1 e2 hm
          exact ⟨.mk s0 s1 hd l, rfl, hr⟩
end
end Go.Proofs.YtgogdcpgfmndnaaGreatDoor
