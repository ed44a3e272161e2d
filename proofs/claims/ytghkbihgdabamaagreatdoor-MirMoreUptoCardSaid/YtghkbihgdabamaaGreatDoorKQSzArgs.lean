/-
  Arguments opened to the model, with their bulk. No conditions: lemmas.
-/
import Derived.Test.YtghkbihgdabamaaGreatDoorKLScan
import Derived.Test.YtghkbihgdabamaaGreatDoorRows
import Derived.ProofKit
import Derived.OpenShut
import Derived.Lib.SmallJoins
import Derived.Deep.Slices
import Derived.Deep.Fields
import Derived.WideShapes
namespace Go.Proofs.YtghkbihgdabamaaGreatDoor
open Go.RowKit Go.ChangeShapes Go.WideShapes Go.ChangeAt

theorem i64_bounds {a : Int} (h : (Lit.int .i64 a).wf = true) : I64 a := by
  unfold I64
  simpa [Lit.wf, IntKind.min, IntKind.max, IntKind.signed, IntKind.bits] using h
theorem addr_eq {w : World} {a : Addr} {v : Value} (h : w.cell? a = some v) : a = ⟨a.block, a.off, none⟩ := by
  cases a with
  | mk b o s =>
    cases s with
    | none => rfl
    | some s =>
      simp only [World.cell?] at h
      split at h
      · simp at h
      · cases h
theorem add_plain (b o k : Nat) : (⟨b, o, none⟩ : Addr).add k = ⟨b, o + k, none⟩ := by unfold Addr.add; split <;> simp_all
theorem list_choose {α : Type} (P : Nat → α → Prop) : ∀ n : Nat, (∀ i, i < n → ∃ x, P i x) → ∃ l : List α, l.length = n ∧ ∀ i x, l[i]? = some x → P i x
  | 0, _ => ⟨[], rfl, by simp⟩
  | n + 1, h => by
    obtain ⟨l, hl, hp⟩ := list_choose P n fun i hi => h i (by omega)
    obtain ⟨x, hx⟩ := h n (by omega)
    refine ⟨l ++ [x], by simp [hl], fun i y hy => ?_⟩
    by_cases hi : i < n
    · rw [List.getElem?_append_left (by omega)] at hy
      exact hp i y hy
    · rw [List.getElem?_append_right (by omega), hl] at hy
      by_cases h2 : i = n
      · subst h2
        simp at hy
        subst hy
        exact hx
      · rw [List.getElem?_eq_none (by simp; omega)] at hy
        cases hy

mutual
def tyS : Ty5 → Nat
  | .mk _ nm _ l => nm.size + tysS l + 4
def tysS : List Ty5 → Nat
  | [] => 0
  | t :: r => tyS t + tysS r
end
def plS (p : Pl5) : Nat := p.nm.size + (p.path.map fun f => f.size + 2).sum + 3
def opS (o : Op5) : Nat := plS o.p + 3
def rvS (v : Rv5) : Nat := (v.ops.map opS).sum + plS v.p + v.nm.size + v.vr.size + 5
mutual
def stS : St5 → Nat
  | .mk _ _ nm ty p rv op _ th _ el _ ar => nm.size + tyS ty + plS p + rvS rv + opS op + stsS th + stsS el + arsS ar + 6
def stsS : List St5 → Nat
  | [] => 0
  | s :: r => stS s + stsS r
def arS : Ar5 → Nat
  | .mk vr bi _ body => vr.size + bi.size + stsS body + 4
def arsS : List Ar5 → Nat
  | [] => 0
  | s :: r => arS s + arsS r
end
def fdS (f : Fd5) : Nat := f.nm.size + tyS f.ty + 2
def suS (s : Su5) : Nat := s.nm.size + (s.fields.map fdS).sum + 5
def enS (s : En5) : Nat := s.nm.size + (s.vars.map fdS).sum + 4
def fnS (s : Fn5) : Nat := s.nm.size + (s.params.map fdS).sum + stsS s.body + 5
def soS (s : So5) : Nat := (s.structs.map suS).sum + (s.enums.map enS).sum + (s.fns.map fnS).sum + 4
theorem tysS_eq : ∀ l, tysS l = (l.map tyS).sum
  | [] => rfl
  | t :: r => by rw [tysS, tysS_eq r]; rfl
theorem stsS_eq : ∀ l, stsS l = (l.map stS).sum
  | [] => by rw [stsS]; rfl
  | t :: r => by rw [stsS, stsS_eq r]; rfl
theorem arsS_eq : ∀ l, arsS l = (l.map arS).sum
  | [] => by rw [arsS]; rfl
  | t :: r => by rw [arsS, arsS_eq r]; rfl


theorem bulk_one {H : Type} (d : DataW H) : 1 ≤ Rows.uptoBulk d := by
  cases d with
  | lit l => cases l <;> simp [Rows.uptoBulk]
  | nil => simp [Rows.uptoBulk]
  | ptr d => simp [Rows.uptoBulk]
  | slice elems spare => simp [Rows.uptoBulk]
  | agg parts => simp [Rows.uptoBulk]
  | iface t d => simp [Rows.uptoBulk]
  | map entries => simp [Rows.uptoBulk]
  | held h => simp [Rows.uptoBulk]
theorem bulk_str {H : Type} {y : DataW H × List MemPlace} {s : ByteArray} (h : y = (.lit (.string s.data.toList), [])) : Rows.uptoBulk y.1 = s.size + 1 := by
  rw [h]
  simp only [Rows.uptoBulk, Array.length_toList]
  rfl
theorem bulk_sum {H α : Type} (S : α → Nat) : ∀ (l : List α) (es : List (DataW H × List MemPlace)), l.length = es.length → (∀ (i : Nat) (y : α) (z : DataW H × List MemPlace), l[i]? = some y → es[i]? = some z → S y ≤ Rows.uptoBulk z.1) → (l.map S).sum ≤ Rows.uptoBulkAll (es.map (·.1))
  | [], _, _, _ => by simp
  | x :: r, [], h, _ => by simp at h
  | x :: r, z :: es, h, hh => by
    have h1 := hh 0 x z rfl rfl
    have h2 := bulk_sum S r es (by simpa using h) fun i y z' h3 h4 => hh (i + 1) y z' (by simpa using h3) (by simpa using h4)
    simp only [List.map_cons, List.sum_cons, Rows.uptoBulkAll]
    omega

section
variable {H : Type} {enc : TypeId × Value → H} {W : World}

theorem kz3 : Tryz.prog.cellsOf 3 = 1 := by kernel_rfl
theorem kz4 : Tryz.prog.cellsOf 4 = 1 := by kernel_rfl
theorem kz9 : Tryz.prog.cellsOf 9 = 1 := by kernel_rfl
theorem kz36 : Tryz.prog.cellsOf 120 = 1 := by kernel_rfl
theorem kz42 : Tryz.prog.cellsOf 43 = 1 := by kernel_rfl
theorem kz46 : Tryz.prog.cellsOf 34 = 1 := by kernel_rfl
theorem kz22 : Tryz.prog.cellsOf 22 = 1 := by kernel_rfl
theorem kz23 : Tryz.prog.cellsOf 23 = 1 := by kernel_rfl
theorem kz24 : Tryz.prog.cellsOf 24 = 1 := by kernel_rfl
theorem kz32 : Tryz.prog.cellsOf 77 = 1 := by kernel_rfl
theorem kz33 : Tryz.prog.cellsOf 69 = 1 := by kernel_rfl
theorem kz37 : Tryz.prog.cellsOf 121 = 1 := by kernel_rfl
theorem kz43 : Tryz.prog.cellsOf 44 = 1 := by kernel_rfl
theorem kz47 : Tryz.prog.cellsOf 124 = 1 := by kernel_rfl
theorem kz50 : Tryz.prog.cellsOf 129 = 1 := by kernel_rfl
theorem kz66 : Tryz.prog.cellsOf 72 = 1 := by kernel_rfl
theorem kz58 : Tryz.prog.cellsOf 237 = 1 := by kernel_rfl
theorem kz39 : Tryz.prog.cellsOf 123 = 2 := by kernel_rfl
theorem kz41 : Tryz.prog.cellsOf 128 = 4 := by kernel_rfl
theorem kz45 : Tryz.prog.cellsOf 46 = 3 := by kernel_rfl
theorem kz49 : Tryz.prog.cellsOf 126 = 6 := by kernel_rfl
theorem kz52 : Tryz.prog.cellsOf 131 = 21 := by kernel_rfl
theorem kz107 : Tryz.prog.cellsOf 133 = 3 := by kernel_rfl
theorem kz102 : Tryz.prog.cellsOf 92 = 4 := by kernel_rfl
theorem kz71 : Tryz.prog.cellsOf 76 = 4 := by kernel_rfl
theorem kz65 : Tryz.prog.cellsOf 71 = 4 := by kernel_rfl
theorem kz68 : Tryz.prog.cellsOf 74 = 3 := by kernel_rfl
theorem kz35 : Tryz.prog.cellsOf 79 = 4 := by kernel_rfl
theorem kz26 : Tryz.prog.cellsOf 26 = 3 := by kernel_rfl
abbrev Tr (enc : TypeId × Value → H) (W : World) (fuel : Nat) (t : TypeId) (cs : List Value) (x : DataW H × List MemPlace) : Prop := DataW.trod enc Tryz.prog W 0 (fun _ => true) true fuel t cs = some x
theorem row_sz {α : Type} {t e : TypeId} {sz fuel : Nat} {cs : List Value} {x : DataW H × List MemPlace} (C : α → List Value) (Q : α → Prop) (S : α → Nat) (ht : Tryz.prog.underlying t = some (.slice e)) (hC : Tryz.prog.cellsOf e = sz) (hsz : 0 < sz)
    (hf : DataW.trod enc Tryz.prog W 0 (fun _ => true) true fuel t cs = some x)
    (hel : ∀ n cs' x', n < fuel → cs'.length = sz → DataW.trod enc Tryz.prog W 0 (fun _ => true) true n e cs' = some x' → ∃ y, cs' = C y ∧ Q y ∧ S y ≤ Rows.uptoBulk x'.1) :
    ∃ (h : Hd) (l : List α), cs = [.slice h.oa l.length h.cap] ∧ Row W h sz l C Q ∧ (l.map S).sum + 1 ≤ Rows.uptoBulk x.1 := by
  rcases DataW.trod_slice ht hf with ⟨h0, hx0⟩ | ⟨a, len, cap, elems, rest, n, hn, hcs, hx1, hb, hl, hm, hlen, hx, _, _⟩
  · exact ⟨⟨none, 0⟩, [], h0, ⟨Nat.le_refl _, Nat.zero_le _, fun h => absurd h (Nat.lt_irrefl _), fun _ h => by cases h⟩, by rw [hx0]; simp [Rows.uptoBulk]⟩
  · rw [hC] at hx
    have cell : ∀ i, i < len → ∃ cs' x', elems[i]? = some x' ∧ cs'.length = sz ∧ (∀ j, j < sz → W.cell? ((a.add (i * sz)).add j) = cs'[j]?) ∧ DataW.trod enc Tryz.prog W 0 (fun _ => true) true n e cs' = some x' := fun i hil => by
      have h1 := hx i hil
      rw [List.getElem?_eq_getElem (by omega)] at h1
      obtain ⟨cs', hc, htr⟩ := Option.bind_eq_some_iff.1 h1
      obtain ⟨_, hcl, hat⟩ := World.cells?_some hc
      exact ⟨cs', _, List.getElem?_eq_getElem (by omega), hcl, hat, htr⟩
    obtain ⟨l, hll, hp⟩ := list_choose (fun i (y : α) => (∀ j v, (C y)[j]? = some v → W.cell? ((a.add (i * sz)).add j) = some v) ∧ Q y ∧ ∀ z, elems[i]? = some z → S y ≤ Rows.uptoBulk z.1) len fun i hi => by
      obtain ⟨cs', x', h0, h1, h2, h3⟩ := cell i hi
      obtain ⟨y, rfl, hq, hs⟩ := hel n cs' x' (by omega) h1 h3
      refine ⟨y, fun j v hv => by rw [h2 j (by rw [← h1]; exact (List.getElem?_eq_some_iff.1 hv).1)]; exact hv, hq, fun z hz => ?_⟩
      rw [h0] at hz
      cases hz
      exact hs
    subst hll
    refine ⟨⟨some a, cap⟩, l, hcs, ⟨hl, hm, fun h0 => ?_, fun y hy => ?_⟩, ?_⟩
    · obtain ⟨cs0, x0, _, hcl, hat, _⟩ := cell 0 h0
      have h00 := hat 0 hsz
      rw [Nat.zero_mul] at h00
      have ha : (a.add 0).add 0 = a := by unfold Addr.add; simp
      rw [ha, List.getElem?_eq_getElem (by omega)] at h00
      have he := addr_eq h00
      have hlt := World.block_lt_of_cell? W a h00
      refine ⟨a.block, a.off, by rw [← he], hlt, fun i y hy j v hv => ?_⟩
      have := (hp i y hy).1 j v hv
      rw [he, add_plain, add_plain] at this
      exact this
    · obtain ⟨i, hi⟩ := List.getElem?_of_mem hy
      exact (hp i y hi).2.1
    · have h1 := bulk_sum S l elems hlen.symm fun i y z h2 h3 => (hp i y h2).2.2 z h3
      rw [hx1]
      simp only [Rows.uptoBulk]
      omega

set_option maxRecDepth 100000 in
theorem step_sz {fuel : Nat} {cs : List Value} {x : DataW H × List MemPlace} (hl : cs.length = 1) (h : Tr enc W fuel 237 cs x) : ∃ s, cs = stepC s ∧ s.size + 2 ≤ Rows.uptoBulk x.1 := by
  obtain ⟨xs, m, _, hxe, _, hlen, hf⟩ := DataW.trod_struct Tryz.underlying237 h
  match cs, hl with
  | [c0], _ =>
    match xs, hlen with
    | [y0], _ =>
      have h0 := hf 0 _ rfl
      simp [kz9] at h0
      obtain ⟨s, e, d0, -⟩ := DataW.trod_string Tryz.underlying9 h0
      have hb := congrArg (fun z => Rows.uptoBulk z.1) hxe
      simp only [List.map_cons, List.map_nil, Rows.uptoBulk, Rows.uptoBulkAll, bulk_str d0] at hb
      exact ⟨s, e, by omega⟩
set_option maxRecDepth 100000 in
theorem pl_sz {fuel : Nat} {cs : List Value} {x : DataW H × List MemPlace} (hl : cs.length = 2) (h : Tr enc W fuel 123 cs x) : ∃ p, cs = plC p ∧ PlH W p ∧ plS p ≤ Rows.uptoBulk x.1 := by
  obtain ⟨xs, m, _, hxe, _, hlen, hf⟩ := DataW.trod_struct Tryz.underlying123 h
  match cs, hl with
  | [c0, c1], _ =>
    match xs, hlen with
    | [y0, y1], _ =>
      have h0 := hf 0 _ rfl
      have h1 := hf 1 _ rfl
      simp [kz9] at h0
      simp [kz37] at h1
      obtain ⟨s, e0, d0, -⟩ := DataW.trod_string Tryz.underlying9 h0
      obtain ⟨hd, l, e1, hr, s1⟩ := row_sz stepC (fun _ => True) (fun f => f.size + 2) Tryz.underlying121 kz58 (by decide) h1 fun n cs' x' _ hl ht => by
        obtain ⟨s, e, hs⟩ := step_sz hl ht
        exact ⟨s, e, trivial, hs⟩
      have hb := congrArg (fun z => Rows.uptoBulk z.1) hxe
      simp only [List.map_cons, List.map_nil, Rows.uptoBulk, Rows.uptoBulkAll, bulk_str d0] at hb
      simp at e0 e1
      subst e0 e1
      exact ⟨⟨s, hd, l⟩, rfl, hr, by simp only [plS]; omega⟩
set_option maxRecDepth 100000 in
theorem op_sz {fuel : Nat} {cs : List Value} {x : DataW H × List MemPlace} (hl : cs.length = 4) (h : Tr enc W fuel 128 cs x) : ∃ p, cs = opC p ∧ OpH W p ∧ opS p ≤ Rows.uptoBulk x.1 := by
  obtain ⟨xs, m, _, hxe, _, hlen, hf⟩ := DataW.trod_struct Tryz.underlying128 h
  match cs, hl with
  | [c0, c1, c2, c3], _ =>
    match xs, hlen with
    | [y0, y1, y2], _ =>
      have h0 := hf 0 _ rfl
      have h1 := hf 1 _ rfl
      have h2 := hf 2 _ rfl
      simp [kz4] at h0
      simp [kz3] at h1
      simp [kz39] at h2
      obtain ⟨b, e0, -⟩ := DataW.trod_bool Tryz.underlying4 h0
      obtain ⟨n, e1, -, w1⟩ := DataW.trod_int Tryz.underlying3 h1
      obtain ⟨p, e2, hp, s2⟩ := pl_sz rfl h2
      have hb := congrArg (fun z => Rows.uptoBulk z.1) hxe
      simp only [List.map_cons, List.map_nil, Rows.uptoBulk, Rows.uptoBulkAll] at hb
      have b0 := bulk_one y0.1
      have b1 := bulk_one y1.1
      obtain ⟨pn, ph, pp⟩ := p
      simp [plC] at e0 e1 e2
      obtain ⟨e2, e3⟩ := e2
      subst e0 e1 e2 e3
      exact ⟨⟨b, n, ⟨pn, ph, pp⟩⟩, rfl, ⟨i64_bounds w1, hp⟩, by simp only [opS]; omega⟩
set_option maxRecDepth 100000 in
theorem rv_sz {fuel : Nat} {cs : List Value} {x : DataW H × List MemPlace} (hl : cs.length = 6) (h : Tr enc W fuel 126 cs x) : ∃ p, cs = rvC p ∧ RvH W p ∧ rvS p ≤ Rows.uptoBulk x.1 := by
  obtain ⟨xs, m, _, hxe, _, hlen, hf⟩ := DataW.trod_struct Tryz.underlying126 h
  match cs, hl with
  | [c0, c1, c2, c3, c4, c5], _ =>
    match xs, hlen with
    | [y0, y1, y2, y3, y4], _ =>
      have h0 := hf 0 _ rfl
      have h1 := hf 1 _ rfl
      have h2 := hf 2 _ rfl
      have h3 := hf 3 _ rfl
      have h4 := hf 4 _ rfl
      simp [kz46] at h0
      simp [kz47] at h1
      simp [kz39] at h2
      simp [kz9] at h3 h4
      obtain ⟨n, e0, -, w0⟩ := DataW.trod_int Tryz.underlying34 h0
      obtain ⟨hd, l, e1, hr, s1⟩ := row_sz opC (OpH W) opS Tryz.underlying124 kz41 (by decide) h1 fun n cs' x' _ hl ht => op_sz hl ht
      obtain ⟨p, e2, hp, s2⟩ := pl_sz rfl h2
      obtain ⟨s3, e4, d3, -⟩ := DataW.trod_string Tryz.underlying9 h3
      obtain ⟨s4, e5, d4, -⟩ := DataW.trod_string Tryz.underlying9 h4
      have hb := congrArg (fun z => Rows.uptoBulk z.1) hxe
      simp only [List.map_cons, List.map_nil, Rows.uptoBulk, Rows.uptoBulkAll, bulk_str d3, bulk_str d4] at hb
      have b0 := bulk_one y0.1
      obtain ⟨pn, ph, pp⟩ := p
      simp [plC] at e0 e1 e2 e4 e5
      obtain ⟨e2, e3⟩ := e2
      subst e0 e1 e2 e3 e4 e5
      exact ⟨⟨n, hd, l, ⟨pn, ph, pp⟩, s3, s4⟩, rfl, ⟨i64_bounds w0, hr, hp⟩, by simp only [rvS]; omega⟩
set_option maxRecDepth 100000 in
theorem ty_sz (fuel : Nat) : ∀ {cs : List Value} {x : DataW H × List MemPlace}, cs.length = 3 → Tr enc W fuel 46 cs x → ∃ t, cs = tyC t ∧ TyH fuel W t ∧ tyS t ≤ Rows.uptoBulk x.1 := by
  induction fuel using Nat.strongRecOn with
  | _ fuel ih =>
    intro cs x hl h
    obtain ⟨xs, m, hm, hxe, _, hlen, hf⟩ := DataW.trod_struct Tryz.underlying46 h
    match cs, hl with
    | [c0, c1, c2], _ =>
      match xs, hlen with
      | [y0, y1, y2], _ =>
        have h0 := hf 0 _ rfl
        have h1 := hf 1 _ rfl
        have h2 := hf 2 _ rfl
        simp [kz42] at h0
        simp [kz9] at h1
        simp [kz43] at h2
        obtain ⟨n, e0, -, w0⟩ := DataW.trod_int Tryz.underlying43 h0
        obtain ⟨s, e1, d1, -⟩ := DataW.trod_string Tryz.underlying9 h1
        obtain ⟨hd, l, e2, hr, s2⟩ := row_sz tyC (TyH m W) tyS Tryz.underlying44 kz45 (by decide) h2 fun q cs' x' hq hl ht => by
          obtain ⟨t, e, ht, hs⟩ := ih q (by omega) hl ht
          exact ⟨t, e, TyH.le (by omega) ht, hs⟩
        have hb := congrArg (fun z => Rows.uptoBulk z.1) hxe
        simp only [List.map_cons, List.map_nil, Rows.uptoBulk, Rows.uptoBulkAll, bulk_str d1] at hb
        have b0 := bulk_one y0.1
        simp at e0 e1 e2
        subst e0 e1 e2 hm
        exact ⟨.mk n s hd l, rfl, ⟨i64_bounds w0, hr⟩, by rw [tyS, tysS_eq]; omega⟩
set_option maxRecDepth 100000 in
theorem st_sz (fuel : Nat) : (∀ {cs : List Value} {x : DataW H × List MemPlace}, cs.length = 21 → Tr enc W fuel 131 cs x → ∃ t, cs = stC t ∧ StH fuel W t ∧ stS t ≤ Rows.uptoBulk x.1) ∧ (∀ {cs : List Value} {x : DataW H × List MemPlace}, cs.length = 3 → Tr enc W fuel 133 cs x → ∃ t, cs = arC t ∧ ArH fuel W t ∧ arS t ≤ Rows.uptoBulk x.1) := by
  induction fuel using Nat.strongRecOn with
  | _ fuel ih =>
    constructor
    · intro cs x hl h
      obtain ⟨xs, m, hm, hxe, _, hlen, hf⟩ := DataW.trod_struct Tryz.underlying131 h
      match cs, hl with
      | [c0, c1, c2, c3, c4, c5, c6, c7, c8, c9, c10, c11, c12, c13, c14, c15, c16, c17, c18, c19, c20], _ =>
        match xs, hlen with
        | [y0, y1, y2, y3, y4, y5, y6, y7, y8, y9], _ =>
          have h0 := hf 0 _ rfl
          have h1 := hf 1 _ rfl
          have h2 := hf 2 _ rfl
          have h3 := hf 3 _ rfl
          have h4 := hf 4 _ rfl
          have h5 := hf 5 _ rfl
          have h6 := hf 6 _ rfl
          have h7 := hf 7 _ rfl
          have h8 := hf 8 _ rfl
          have h9 := hf 9 _ rfl
          clear hf h
          simp [kz36] at h0
          simp [kz3] at h1
          simp [kz9] at h2
          simp [kz45] at h3
          simp [kz39] at h4
          simp [kz49] at h5
          simp [kz41] at h6
          simp [kz32] at h7 h8
          simp [kz50] at h9
          obtain ⟨n0, e0, -, w0⟩ := DataW.trod_int Tryz.underlying120 h0
          obtain ⟨n1, e1, -, -⟩ := DataW.trod_int Tryz.underlying3 h1
          obtain ⟨s2, e2, d2, -⟩ := DataW.trod_string Tryz.underlying9 h2
          obtain ⟨ty, e3, hty, z3⟩ := ty_sz m rfl h3
          obtain ⟨p, e4, hp, z4⟩ := pl_sz rfl h4
          obtain ⟨rv, e5, hrv, z5⟩ := rv_sz rfl h5
          obtain ⟨op, e6, hop, z6⟩ := op_sz rfl h6
          have hst : ∀ q cs' x', q < m → cs'.length = 21 → DataW.trod enc Tryz.prog W 0 (fun _ => true) true q 131 cs' = some x' → ∃ y, cs' = stC y ∧ StH m W y ∧ stS y ≤ Rows.uptoBulk x'.1 := fun q cs' x' hq hl ht => by
            obtain ⟨t, e, ht, hs⟩ := (ih q (by omega)).1 hl ht
            exact ⟨t, e, StH.le (by omega) ht, hs⟩
          obtain ⟨hd7, l7, e7, hr7, z7⟩ := row_sz stC (StH m W) stS Tryz.underlying77 kz52 (by decide) h7 hst
          obtain ⟨hd8, l8, e8, hr8, z8⟩ := row_sz stC (StH m W) stS Tryz.underlying77 kz52 (by decide) h8 hst
          obtain ⟨hd9, l9, e9, hr9, z9⟩ := row_sz arC (ArH m W) arS Tryz.underlying129 kz107 (by decide) h9 fun q cs' x' hq hl ht => by
            obtain ⟨t, e, ht, hs⟩ := (ih q (by omega)).2 hl ht
            exact ⟨t, e, ArH.le (by omega) ht, hs⟩
          have hb := congrArg (fun z => Rows.uptoBulk z.1) hxe
          simp only [List.map_cons, List.map_nil, Rows.uptoBulk, Rows.uptoBulkAll, bulk_str d2] at hb
          have b0 := bulk_one y0.1
          have b1 := bulk_one y1.1
          subst hm
          refine ⟨.mk n0 n1 s2 ty p rv op hd7 l7 hd8 l8 hd9 l9, ?_, ⟨i64_bounds w0, hty, hp, hrv, hop, hr7, hr8, hr9⟩, by rw [stS, stsS_eq, stsS_eq, arsS_eq]; omega⟩
          rw [stC, ← e3, ← e4, ← e5, ← e6]
          simp at e0 e1 e2 e7 e8 e9
          rw [e0, e1, e2, e7, e8, e9]
          rfl
    · intro cs x hl h
      obtain ⟨xs, m, hm, hxe, _, hlen, hf⟩ := DataW.trod_struct Tryz.underlying133 h
      match cs, hl with
      | [c0, c1, c2], _ =>
        match xs, hlen with
        | [y0, y1, y2], _ =>
          have h0 := hf 0 _ rfl
          have h1 := hf 1 _ rfl
          have h2 := hf 2 _ rfl
          simp [kz9] at h0 h1
          simp [kz32] at h2
          obtain ⟨s0, e0, d0, -⟩ := DataW.trod_string Tryz.underlying9 h0
          obtain ⟨s1, e1, d1, -⟩ := DataW.trod_string Tryz.underlying9 h1
          obtain ⟨hd, l, e2, hr, z2⟩ := row_sz stC (StH m W) stS Tryz.underlying77 kz52 (by decide) h2 fun q cs' x' hq hl ht => by
            obtain ⟨t, e, ht, hs⟩ := (ih q (by omega)).1 hl ht
            exact ⟨t, e, StH.le (by omega) ht, hs⟩
          have hb := congrArg (fun z => Rows.uptoBulk z.1) hxe
          simp only [List.map_cons, List.map_nil, Rows.uptoBulk, Rows.uptoBulkAll, bulk_str d0, bulk_str d1] at hb
          simp at e0 e1 e2
          subst e0 e1 e2 hm
          exact ⟨.mk s0 s1 hd l, rfl, hr, by rw [arS, stsS_eq]; omega⟩

set_option maxRecDepth 100000 in
theorem fd_sz {fuel : Nat} {cs : List Value} {x : DataW H × List MemPlace} (hl : cs.length = 4) (h : Tr enc W fuel 92 cs x) : ∃ f, cs = fdC f ∧ FdH fuel W f ∧ fdS f ≤ Rows.uptoBulk x.1 := by
  obtain ⟨xs, m, hm, hxe, _, hlen, hf⟩ := DataW.trod_struct Tryz.underlying92 h
  match cs, hl with
  | [c0, c1, c2, c3], _ =>
    match xs, hlen with
    | [y0, y1], _ =>
      have h0 := hf 0 _ rfl
      have h1 := hf 1 _ rfl
      simp [kz9] at h0
      simp [kz45] at h1
      obtain ⟨s, e0, d0, -⟩ := DataW.trod_string Tryz.underlying9 h0
      obtain ⟨t, e1, ht, z1⟩ := ty_sz m rfl h1
      have hb := congrArg (fun z => Rows.uptoBulk z.1) hxe
      simp only [List.map_cons, List.map_nil, Rows.uptoBulk, Rows.uptoBulkAll, bulk_str d0] at hb
      obtain ⟨tk, tn, th, tl⟩ := t
      simp [tyC] at e0 e1
      obtain ⟨e1, e2, e3⟩ := e1
      subst e0 e1 e2 e3
      exact ⟨⟨s, .mk tk tn th tl⟩, rfl, TyH.le (by omega) ht, by simp only [fdS]; omega⟩

set_option maxRecDepth 100000 in
theorem va_sz {fuel : Nat} {cs : List Value} {x : DataW H × List MemPlace} (hl : cs.length = 4) (h : Tr enc W fuel 76 cs x) : ∃ f, cs = fdC f ∧ FdH fuel W f ∧ fdS f ≤ Rows.uptoBulk x.1 := by
  obtain ⟨xs, m, hm, hxe, _, hlen, hf⟩ := DataW.trod_struct Tryz.underlying76 h
  match cs, hl with
  | [c0, c1, c2, c3], _ =>
    match xs, hlen with
    | [y0, y1], _ =>
      have h0 := hf 0 _ rfl
      have h1 := hf 1 _ rfl
      simp [kz9] at h0
      simp [kz45] at h1
      obtain ⟨s, e0, d0, -⟩ := DataW.trod_string Tryz.underlying9 h0
      obtain ⟨t, e1, ht, z1⟩ := ty_sz m rfl h1
      have hb := congrArg (fun z => Rows.uptoBulk z.1) hxe
      simp only [List.map_cons, List.map_nil, Rows.uptoBulk, Rows.uptoBulkAll, bulk_str d0] at hb
      obtain ⟨tk, tn, th, tl⟩ := t
      simp [tyC] at e0 e1
      obtain ⟨e1, e2, e3⟩ := e1
      subst e0 e1 e2 e3
      exact ⟨⟨s, .mk tk tn th tl⟩, rfl, TyH.le (by omega) ht, by simp only [fdS]; omega⟩

set_option maxRecDepth 100000 in
theorem su_sz {fuel : Nat} {cs : List Value} {x : DataW H × List MemPlace} (hl : cs.length = 4) (h : Tr enc W fuel 71 cs x) : ∃ f, cs = suC f ∧ SuH fuel W f ∧ suS f ≤ Rows.uptoBulk x.1 := by
  obtain ⟨xs, m, hm, hxe, _, hlen, hf⟩ := DataW.trod_struct Tryz.underlying71 h
  match cs, hl with
  | [c0, c1, c2, c3], _ =>
    match xs, hlen with
    | [y0, y1, y2, y3], _ =>
      have h0 := hf 0 _ rfl
      have h1 := hf 1 _ rfl
      have h2 := hf 2 _ rfl
      have h3 := hf 3 _ rfl
      simp [kz9] at h0
      simp [kz4] at h1
      simp [kz33] at h2
      simp [kz3] at h3
      obtain ⟨s, e0, d0, -⟩ := DataW.trod_string Tryz.underlying9 h0
      obtain ⟨b, e1, -⟩ := DataW.trod_bool Tryz.underlying4 h1
      obtain ⟨hd, l, e2, hr, z2⟩ := row_sz fdC (FdH fuel W) fdS Tryz.underlying69 kz102 (by decide) h2 fun q cs' x' hq hl ht => by
        obtain ⟨t, e, ht, hs⟩ := fd_sz hl ht
        exact ⟨t, e, TyH.le (by omega) ht, hs⟩
      obtain ⟨n, e3, -, -⟩ := DataW.trod_int Tryz.underlying3 h3
      have hb := congrArg (fun z => Rows.uptoBulk z.1) hxe
      simp only [List.map_cons, List.map_nil, Rows.uptoBulk, Rows.uptoBulkAll, bulk_str d0] at hb
      have b1 := bulk_one y1.1
      have b3 := bulk_one y3.1
      simp at e0 e1 e2 e3
      subst e0 e1 e2 e3
      exact ⟨⟨s, b, hd, l, n⟩, rfl, hr, by simp only [suS]; omega⟩
set_option maxRecDepth 100000 in
theorem en_sz {fuel : Nat} {cs : List Value} {x : DataW H × List MemPlace} (hl : cs.length = 3) (h : Tr enc W fuel 74 cs x) : ∃ f, cs = enC f ∧ EnH fuel W f ∧ enS f ≤ Rows.uptoBulk x.1 := by
  obtain ⟨xs, m, hm, hxe, _, hlen, hf⟩ := DataW.trod_struct Tryz.underlying74 h
  match cs, hl with
  | [c0, c1, c2], _ =>
    match xs, hlen with
    | [y0, y1, y2], _ =>
      have h0 := hf 0 _ rfl
      have h1 := hf 1 _ rfl
      have h2 := hf 2 _ rfl
      simp [kz9] at h0
      simp [kz66] at h1
      simp [kz3] at h2
      obtain ⟨s, e0, d0, -⟩ := DataW.trod_string Tryz.underlying9 h0
      obtain ⟨hd, l, e1, hr, z1⟩ := row_sz fdC (FdH fuel W) fdS Tryz.underlying72 kz71 (by decide) h1 fun q cs' x' hq hl ht => by
        obtain ⟨t, e, ht, hs⟩ := va_sz hl ht
        exact ⟨t, e, TyH.le (by omega) ht, hs⟩
      obtain ⟨n, e2, -, -⟩ := DataW.trod_int Tryz.underlying3 h2
      have hb := congrArg (fun z => Rows.uptoBulk z.1) hxe
      simp only [List.map_cons, List.map_nil, Rows.uptoBulk, Rows.uptoBulkAll, bulk_str d0] at hb
      have b2 := bulk_one y2.1
      simp at e0 e1 e2
      subst e0 e1 e2
      exact ⟨⟨s, hd, l, n⟩, rfl, hr, by simp only [enS]; omega⟩
set_option maxRecDepth 100000 in
theorem fn_sz {fuel : Nat} {cs : List Value} {x : DataW H × List MemPlace} (hl : cs.length = 4) (h : Tr enc W fuel 79 cs x) : ∃ f, cs = fnC f ∧ FnH fuel W f ∧ fnS f ≤ Rows.uptoBulk x.1 := by
  obtain ⟨xs, m, hm, hxe, _, hlen, hf⟩ := DataW.trod_struct Tryz.underlying79 h
  match cs, hl with
  | [c0, c1, c2, c3], _ =>
    match xs, hlen with
    | [y0, y1, y2, y3], _ =>
      have h0 := hf 0 _ rfl
      have h1 := hf 1 _ rfl
      have h2 := hf 2 _ rfl
      have h3 := hf 3 _ rfl
      simp [kz9] at h0
      simp [kz33] at h1
      simp [kz32] at h2
      simp [kz3] at h3
      obtain ⟨s, e0, d0, -⟩ := DataW.trod_string Tryz.underlying9 h0
      obtain ⟨hd, l, e1, hr, z1⟩ := row_sz fdC (FdH fuel W) fdS Tryz.underlying69 kz102 (by decide) h1 fun q cs' x' hq hl ht => by
        obtain ⟨t, e, ht, hs⟩ := fd_sz hl ht
        exact ⟨t, e, TyH.le (by omega) ht, hs⟩
      obtain ⟨hd2, l2, e2, hr2, z2⟩ := row_sz stC (StH fuel W) stS Tryz.underlying77 kz52 (by decide) h2 fun q cs' x' hq hl ht => by
        obtain ⟨t, e, ht, hs⟩ := (st_sz q).1 hl ht
        exact ⟨t, e, StH.le (by omega) ht, hs⟩
      obtain ⟨n, e3, -, -⟩ := DataW.trod_int Tryz.underlying3 h3
      have hb := congrArg (fun z => Rows.uptoBulk z.1) hxe
      simp only [List.map_cons, List.map_nil, Rows.uptoBulk, Rows.uptoBulkAll, bulk_str d0] at hb
      have b3 := bulk_one y3.1
      simp at e0 e1 e2 e3
      subst e0 e1 e2 e3
      exact ⟨⟨s, hd, l, hd2, l2, n⟩, rfl, ⟨hr, hr2⟩, by simp only [fnS, stsS_eq]; omega⟩
set_option maxRecDepth 100000 in
theorem so_sz {fuel : Nat} {cs : List Value} {x : DataW H × List MemPlace} (hl : cs.length = 3) (h : Tr enc W fuel 26 cs x) : ∃ s, Value.agg cs.toArray = soV s ∧ SoH fuel W s ∧ soS s ≤ Rows.uptoBulk x.1 := by
  obtain ⟨xs, m, hm, hxe, _, hlen, hf⟩ := DataW.trod_struct Tryz.underlying26 h
  match cs, hl with
  | [c0, c1, c2], _ =>
    match xs, hlen with
    | [y0, y1, y2], _ =>
      have h0 := hf 0 _ rfl
      have h1 := hf 1 _ rfl
      have h2 := hf 2 _ rfl
      simp [kz22] at h0
      simp [kz23] at h1
      simp [kz24] at h2
      obtain ⟨a0, l0, e0, r0, z0'⟩ := row_sz suC (SuH fuel W) suS Tryz.underlying22 kz65 (by decide) h0 fun q cs' x' hq hl ht => by
        obtain ⟨t, e, ht, hs⟩ := su_sz hl ht
        exact ⟨t, e, ht.mono fun _ _ hx => TyH.le (by omega) hx, hs⟩
      obtain ⟨a1, l1, e1, r1, z1⟩ := row_sz enC (EnH fuel W) enS Tryz.underlying23 kz68 (by decide) h1 fun q cs' x' hq hl ht => by
        obtain ⟨t, e, ht, hs⟩ := en_sz hl ht
        exact ⟨t, e, ht.mono fun _ _ hx => TyH.le (by omega) hx, hs⟩
      obtain ⟨a2, l2, e2, r2, z2⟩ := row_sz fnC (FnH fuel W) fnS Tryz.underlying24 kz35 (by decide) h2 fun q cs' x' hq hl ht => by
        obtain ⟨t, e, ⟨ht1, ht2⟩, hs⟩ := fn_sz hl ht
        exact ⟨t, e, ⟨ht1.mono fun _ _ hx => TyH.le (by omega) hx, ht2.mono fun _ _ hx => StH.le (by omega) hx⟩, hs⟩
      have hb := congrArg (fun z => Rows.uptoBulk z.1) hxe
      simp only [List.map_cons, List.map_nil, Rows.uptoBulk, Rows.uptoBulkAll] at hb
      simp at e0 e1 e2
      subst e0 e1 e2
      exact ⟨⟨a0, l0, a1, l1, a2, l2⟩, rfl, ⟨r0, r1, r2⟩, by simp only [soS]; omega⟩
set_option maxRecDepth 100000 in
/-- An argument that is a source, with its bulk. -/
theorem open_sz {b0 : Nat} {v : Value} {d : DataW H} {p : List MemPlace} (hv : Value.okWide Tryz.prog W .any b0 26 v) (h : DataW.Trod enc Tryz.prog W 0 (fun _ => true) true 26 v d p) : ∃ (n : Nat) (s : So5), v = soV s ∧ SoH n W s ∧ soS s ≤ Rows.uptoBulk d := by
  obtain ⟨cs, rfl, hsz⟩ := okWide_struct Tryz.underlying26 hv
  obtain ⟨fuel, h⟩ : ∃ fuel, DataW.trod enc Tryz.prog W 0 (fun _ => true) true fuel 26 cs.toList = some (d, p) := h
  obtain ⟨s, e, hs, hz⟩ := so_sz (by rw [Array.length_toList, hsz]; exact kz26) h
  exact ⟨fuel, s, by rw [← e], hs, hz⟩
end
theorem SoH.le2 {n m : Nat} (h : n ≤ m) {w : World} {s : So5} (hs : SoH n w s) : SoH m w s :=
  ⟨hs.1.mono fun _ _ hx => Row.mono hx fun _ _ hy => TyH.le h hy, hs.2.1.mono fun _ _ hx => Row.mono hx fun _ _ hy => TyH.le h hy, hs.2.2.mono fun _ _ hx => ⟨hx.1.mono fun _ _ hy => TyH.le h hy, hx.2.mono fun _ _ hy => StH.le h hy⟩⟩

end Go.Proofs.YtghkbihgdabamaaGreatDoor
