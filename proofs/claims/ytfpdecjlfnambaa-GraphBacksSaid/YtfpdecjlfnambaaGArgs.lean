/-
  Graph's laws: arguments opened to cells; how a walk that answers true and turns nothing that was there closes a row. No conditions: lemmas.
-/
import Derived.Test.YtfpdecjlfnambaaRows
import Derived.Test.YtfpdecjlfnambaaGOver
import Derived.Test.YtfpdecjlfnambaaGFlowP
import Derived.WalkKit
import Derived.ProofKit
import Derived.OpenShut
import Derived.Lib.SmallJoins
import Derived.Deep.Slices
import Derived.Deep.Fields
import Derived.Deep.Strs
namespace Go.Proofs.Ytfpdecjlfnambaa
open Go Go.RowKit Go.ChangeShapes Go.WideShapes Go.ChangeAt
set_option maxRecDepth 100000

theorem own : ownKnob Try.prog.godebug = none := by kernel_rfl
theorem laidOut : laidOutB Try.prog = true := by kernel_rfl

section
variable {H : Type} {enc : TypeId × Value → H}

theorem trodAll_below {P : Program} (hl : laidOutB P = true) {W W' : World} (hb : Below W.heap.size W W') (ts : List TypeId) : ∀ (vs : List Value) (ds : List (DataW H)) (ps : List MemPlace), (ts.all fun t => P.readableRec t && decide (t < P.types.size)) = true →
    DataW.TrodAll enc P W 0 (fun _ => true) true ts vs ds ps → (∀ x ∈ ps, x.block < W.heap.size) → DataW.TrodAll enc P W' 0 (fun b => decide (b < W.heap.size)) true ts vs ds ps := by
  induction ts with
  | nil =>
    intro vs ds ps _ h _
    obtain ⟨rfl, rfl, rfl⟩ := trodAll_nil h
    rfl
  | cons t ts ih =>
    intro vs ds ps hr h hlt
    obtain ⟨v0, vs0, d0, ds0, p0, q0, rfl, rfl, rfl, h0, r0⟩ := trodAll_cons h
    simp only [List.all_cons, Bool.and_eq_true, decide_eq_true_eq] at hr
    obtain ⟨⟨h1, h2⟩, h3⟩ := hr
    exact trodAll_cons_mk (Below.trod hl h1 h2 h0 hb fun x hx => hlt x (List.mem_append_left _ hx)) (ih vs0 ds0 q0 (by simpa using h3) r0 fun x hx => hlt x (List.mem_append_right _ hx))

theorem law_post {f : Func} {s : ChangeSpec} {W W' : World} {args : Array Value} {ds gs : List (DataW H)} {before : List MemPlace} (hv0 : s.vars = []) (hr : f.resultTypes = #[4])
    (hp : (f.params.toList.all fun t => Try.prog.readableRec t && decide (t < Try.prog.types.size)) = true)
    (hfn : s.fn H (ds ++ gs) = { results := [.lit (.bool true)], args := ds })
    (hW : DataW.Whole enc Try.prog f.params.toList s.vars false W args.toList ds gs before) (hb : Below W.heap.size W W') :
    s.post enc Try.prog f false true false false W args (.bool true) W' := by
  have hW' := hW
  have hlt := hW.lt
  obtain ⟨p, q, hA, hV, rfl, hfz, hnd⟩ := hW
  rw [hv0] at hV
  obtain ⟨rfl, rfl⟩ := trodVars_none hV
  have hlt' : ∀ x ∈ p, x.block < W.heap.size := fun x hx => hlt x (by simpa using hx)
  refine ⟨ds, [], _, [], p, [], hW', ?_, ?_, ?_, hb.frame _, fun h => by cases h⟩
  · rw [hfn, hr]
    exact trodAll_mk1 (shut_bool Try.underlying4 _)
  · rw [hfn]
    exact trodAll_below laidOut hb _ _ _ _ hp hA hlt'
  · rw [hv0, hfn]
    rfl
end
theorem i64_bounds {a : Int} (h : (Lit.int .i64 a).wf = true) : -9223372036854775808 ≤ a ∧ a ≤ 9223372036854775807 := by
  simpa [Lit.wf, IntKind.min, IntKind.max, IntKind.signed, IntKind.bits] using h
theorem addr_eq {w : World} {a : Addr} {v : Value} (h : w.cell? a = some v) : a = ⟨a.block, a.off, none⟩ := by
  cases a with
  | mk b o s =>
    cases s with
    | none => rfl
    | some s =>
      simp only [World.cell?] at h
      split at h
      · simp at h
      · cases h
theorem add_plain (b o k : Nat) : (⟨b, o, none⟩ : Addr).add k = ⟨b, o + k, none⟩ := by unfold Addr.add; split <;> simp_all
theorem list_choose {α : Type} (P : Nat → α → Prop) : ∀ n : Nat, (∀ i, i < n → ∃ x, P i x) → ∃ l : List α, l.length = n ∧ ∀ i x, l[i]? = some x → P i x
  | 0, _ => ⟨[], rfl, by simp⟩
  | n + 1, h => by
    obtain ⟨l, hl, hp⟩ := list_choose P n fun i hi => h i (by omega)
    obtain ⟨x, hx⟩ := h n (by omega)
    refine ⟨l ++ [x], by simp [hl], fun i y hy => ?_⟩
    by_cases hi : i < n
    · rw [List.getElem?_append_left (by omega)] at hy
      exact hp i y hy
    · rw [List.getElem?_append_right (by omega), hl] at hy
      by_cases h2 : i = n
      · subst h2
        simp at hy
        subst hy
        exact hx
      · rw [List.getElem?_eq_none (by simp; omega)] at hy
        cases hy

section
variable {H : Type} {enc : TypeId × Value → H} {W : World}
abbrev Tr (enc : TypeId × Value → H) (W : World) (fuel : Nat) (t : TypeId) (cs : List Value) (x : DataW H × List MemPlace) : Prop := DataW.trod enc Try.prog W 0 (fun _ => true) true fuel t cs = some x

theorem sl_of {t e : TypeId} {sz fuel : Nat} {cs : List Value} {x : DataW H × List MemPlace} (ht : Try.prog.underlying t = some (.slice e)) (hC : Try.prog.cellsOf e = sz) (hsz : 0 < sz) (hf : Tr enc W fuel t cs x) :
    ∃ (oa : Option Addr) (len cap b off : Nat), cs = [.slice oa len cap] ∧ len ≤ cap ∧ cap ≤ maxLen ∧ (0 < len → oa = some ⟨b, off, none⟩ ∧ b < W.heap.size) ∧
      ∀ i, i < len → ∃ cs' x' n, cs'.length = sz ∧ (∀ j, j < sz → W.cell? ⟨b, off + i * sz + j, none⟩ = cs'[j]?) ∧ Tr enc W n e cs' x' := by
  rcases Deep.open_slice ht hf with ⟨h0, _⟩ | ⟨a, len, cap, m, n, D, Pl, hcs, hb, hl, hm, hmm, hx, hi⟩
  · exact ⟨none, 0, 0, 0, 0, h0, Nat.le_refl _, Nat.zero_le _, fun h => absurd h (Nat.lt_irrefl _), fun i hi => absurd hi (Nat.not_lt_zero _)⟩
  · simp only [if_true] at hmm
    subst hmm
    have cell : ∀ i, i < len → ∃ cs' x' n, cs'.length = sz ∧ (∀ j, j < sz → W.cell? ((a.add (i * sz)).add j) = cs'[j]?) ∧ Tr enc W n e cs' x' := fun i hil => by
      obtain ⟨cs', hc, htr⟩ := hi i (by omega)
      rw [hC] at hc
      obtain ⟨_, hcl, hat⟩ := World.cells?_some hc
      exact ⟨cs', _, n, hcl, hat, htr⟩
    by_cases h0 : 0 < len
    · obtain ⟨cs0, x0, n', hcl, hat, _⟩ := cell 0 h0
      have h00 := hat 0 hsz
      rw [Nat.zero_mul] at h00
      have ha : (a.add 0).add 0 = a := by unfold Addr.add; simp
      rw [ha, List.getElem?_eq_getElem (by omega)] at h00
      have he := addr_eq h00
      have hlt := World.block_lt_of_cell? W a h00
      refine ⟨some a, len, _, a.block, a.off, hcs, hl, hm, fun _ => ⟨by rw [← he], hlt⟩, fun i hil => ?_⟩
      obtain ⟨cs', x', n', hcl, hat, htr⟩ := cell i hil
      refine ⟨cs', x', n', hcl, fun j hj => ?_, htr⟩
      have := hat j hj
      rw [he, add_plain, add_plain] at this
      exact this
    · exact ⟨some a, len, _, 0, 0, hcs, hl, hm, fun h => absurd h h0, fun i hil => by omega⟩

theorem kint : Try.prog.cellsOf 3 = 1 := by kernel_rfl
theorem kbool : Try.prog.cellsOf 4 = 1 := by kernel_rfl
theorem kints : Try.prog.cellsOf 42 = 1 := by kernel_rfl
theorem kins : Try.prog.cellsOf 45 = 1 := by kernel_rfl
theorem ktm : Try.prog.cellsOf 56 = 16 := by kernel_rfl
theorem kblk : Try.prog.cellsOf 58 = 17 := by kernel_rfl
theorem kchg : Try.prog.cellsOf 66 = 4 := by kernel_rfl
theorem kin : Try.prog.cellsOf 71 = 15 := by kernel_rfl

theorem ints_of {fuel : Nat} {cs : List Value} {x : DataW H × List MemPlace} (h : Tr enc W fuel 42 cs x) : ∃ (v : Value) (l : List Int), cs = [v] ∧ IRow W.heap.size W v l ∧ l.length ≤ maxLen ∧ ∀ z ∈ l, (Lit.int .i64 z).wf = true := by
  obtain ⟨oa, len, cap, b, off, rfl, hl, hm, hoa, hel⟩ := sl_of Try.underlying42 kint (by decide) h
  obtain ⟨l, hll, hp⟩ := list_choose (fun i (z : Int) => W.cell? ⟨b, off + i, none⟩ = some (.int .i64 z) ∧ (Lit.int .i64 z).wf = true) len fun i hi => by
    obtain ⟨cs', x', n, h1, h2, h3⟩ := hel i hi
    obtain ⟨z, e, -, wz⟩ := DataW.trod_int Try.underlying3 h3
    subst e
    have := h2 0 (by decide)
    rw [Nat.mul_one] at this
    exact ⟨z, this, wz⟩
  subst hll
  refine ⟨_, l, rfl, ⟨oa, cap, rfl, fun h0 => ?_⟩, by omega, fun z hz => ?_⟩
  · obtain ⟨e, hlt⟩ := hoa h0
    refine ⟨b, off, e, hlt, fun j hj => ?_⟩
    rw [List.getElem?_eq_getElem hj]
    exact (hp j _ (List.getElem?_eq_getElem hj)).1
  · obtain ⟨i, hi⟩ := List.getElem?_of_mem hz
    exact (hp i z hi).2
theorem bools_of {fuel : Nat} {cs : List Value} {x : DataW H × List MemPlace} (h : Tr enc W fuel 26 cs x) : ∃ (oa : Option Addr) (cap : Nat) (l : List Bool), cs = [.slice oa l.length cap] ∧ BSrc W.heap.size W oa l ∧ l.length ≤ maxLen := by
  obtain ⟨oa, len, cap, b, off, rfl, hl, hm, hoa, hel⟩ := sl_of Try.underlying26 kbool (by decide) h
  obtain ⟨l, hll, hp⟩ := list_choose (fun i (z : Bool) => W.cell? ⟨b, off + i, none⟩ = some (.bool z)) len fun i hi => by
    obtain ⟨cs', x', n, h1, h2, h3⟩ := hel i hi
    obtain ⟨z, e, -⟩ := DataW.trod_bool Try.underlying4 h3
    subst e
    have := h2 0 (by decide)
    rw [Nat.mul_one] at this
    exact ⟨z, this⟩
  subst hll
  refine ⟨oa, cap, l, rfl, fun h0 => ?_, by omega⟩
  obtain ⟨e, hlt⟩ := hoa h0
  refine ⟨b, off, e, hlt, fun j hj => ?_⟩
  rw [List.getElem?_eq_getElem hj]
  exact hp j _ (List.getElem?_eq_getElem hj)
theorem chg_of {fuel : Nat} {cs : List Value} {x : DataW H × List MemPlace} (hl : cs.length = 4) (h : Tr enc W fuel 66 cs x) : ∃ (c : Chg) (v3 v4 : Value), cs = [.int .i64 c.b, .int .i64 c.s, v3, v4] ∧ IRow W.heap.size W v3 c.gen ∧ IRow W.heap.size W v4 c.kill := by
  obtain ⟨xs, m, _, _, _, hlen, hf⟩ := DataW.trod_struct Try.underlying66 h
  match cs, hl with
  | [c0, c1, c2, c3], _ =>
    match xs, hlen with
    | [y0, y1, y2, y3], _ =>
      have h0 := hf 0 _ rfl
      have h1 := hf 1 _ rfl
      have h2 := hf 2 _ rfl
      have h3 := hf 3 _ rfl
      simp [kint] at h0 h1
      simp [kints] at h2 h3
      obtain ⟨a, e0, -, -⟩ := DataW.trod_int Try.underlying3 h0
      obtain ⟨b, e1, -, -⟩ := DataW.trod_int Try.underlying3 h1
      obtain ⟨v3, gen, e2, hg, -⟩ := ints_of h2
      obtain ⟨v4, kill, e3, hk, -⟩ := ints_of h3
      simp at e0 e1 e2 e3
      subst e0 e1 e2 e3
      exact ⟨⟨a, b, gen, kill⟩, _, _, rfl, hg, hk⟩
theorem chgs_of {fuel : Nat} {cs : List Value} {x : DataW H × List MemPlace} (h : Tr enc W fuel 27 cs x) : ∃ (oa : Option Addr) (cap : Nat) (C : List Chg), cs = [.slice oa C.length cap] ∧ CRow W.heap.size W oa C ∧ C.length ≤ maxLen := by
  obtain ⟨oa, len, cap, b, off, rfl, hl, hm, hoa, hel⟩ := sl_of Try.underlying27 kchg (by decide) h
  obtain ⟨C, hll, hp⟩ := list_choose (fun i (c : Chg) => W.cell? ⟨b, off + i * 4, none⟩ = some (.int .i64 c.b) ∧ W.cell? ⟨b, off + i * 4 + 1, none⟩ = some (.int .i64 c.s) ∧ (∃ v, W.cell? ⟨b, off + i * 4 + 2, none⟩ = some v ∧ IRow W.heap.size W v c.gen) ∧ (∃ v, W.cell? ⟨b, off + i * 4 + 3, none⟩ = some v ∧ IRow W.heap.size W v c.kill)) len fun i hi => by
    obtain ⟨cs', x', n, h1, h2, h3⟩ := hel i hi
    obtain ⟨c, v3, v4, rfl, hg, hk⟩ := chg_of h1 h3
    exact ⟨c, h2 0 (by decide), h2 1 (by decide), ⟨v3, h2 2 (by decide), hg⟩, v4, h2 3 (by decide), hk⟩
  subst hll
  refine ⟨oa, cap, C, rfl, fun h0 => ?_, by omega⟩
  obtain ⟨e, hlt⟩ := hoa h0
  refine ⟨b, off, e, hlt, fun j hj => ?_⟩
  rw [List.getElem?_eq_getElem hj]
  exact hp j _ (List.getElem?_eq_getElem hj)
theorem tm_of {fuel : Nat} {cs : List Value} {x : DataW H × List MemPlace} (hl : cs.length = 16) (h : Tr enc W fuel 56 cs x) : ∃ (v : Value) (l : List Int), cs[15]? = some v ∧ IRow W.heap.size W v l ∧ l.length ≤ maxLen ∧ ∀ z ∈ l, (Lit.int .i64 z).wf = true := by
  obtain ⟨xs, m, _, _, _, hlen, hf⟩ := DataW.trod_struct Try.underlying56 h
  have h5 := hf 5 _ rfl
  simp [kints] at h5
  have : ∃ y, xs[5]? = some y := ⟨xs[5]'(by rw [hlen]; decide), List.getElem?_eq_getElem _⟩
  obtain ⟨y5, hy5⟩ := this
  rw [hy5] at h5
  obtain ⟨v, l, e, hr, hm, hw⟩ := ints_of h5
  refine ⟨v, l, ?_, hr, hm, hw⟩
  have e2 := congrArg (fun l => l[0]?) e
  simpa [List.getElem?_take, List.getElem?_drop] using e2
theorem blk_of {fuel : Nat} {cs : List Value} {x : DataW H × List MemPlace} (hl : cs.length = 17) (h : Tr enc W fuel 58 cs x) : ∃ (ia : Option Addr) (n ic : Nat) (v : Value) (l : List Int), cs[0]? = some (.slice ia n ic) ∧ n ≤ maxLen ∧ cs[16]? = some v ∧ IRow W.heap.size W v l ∧ l.length ≤ maxLen ∧ ∀ z ∈ l, (Lit.int .i64 z).wf = true := by
  obtain ⟨xs, m, _, _, _, hlen, hf⟩ := DataW.trod_struct Try.underlying58 h
  match xs, hlen with
  | [y0, y1], _ =>
    have h0 := hf 0 _ rfl
    have h1 := hf 1 _ rfl
    simp [kins] at h0
    simp [ktm] at h1
    obtain ⟨ia, n, ic, -, -, e0, hl0, hm0, -, -⟩ := sl_of Try.underlying45 kin (by decide) h0
    obtain ⟨v, l, e1, hr, hm, hw⟩ := tm_of (by simp [hl]) h1
    have e2 := congrArg (fun l => l[0]?) e0
    refine ⟨ia, n, ic, v, l, ?_, by omega, ?_, hr, hm, hw⟩
    · simpa [List.getElem?_take] using e2
    · simpa [List.getElem?_take, List.getElem?_drop] using e1
theorem blks_of {fuel : Nat} {cs : List Value} {x : DataW H × List MemPlace} (h : Tr enc W fuel 23 cs x) : ∃ (oa : Option Addr) (cap : Nat) (g : Gb), cs = [.slice oa g.length cap] ∧ Blks W.heap.size W oa g ∧ g.length ≤ maxLen := by
  obtain ⟨oa, len, cap, b, off, rfl, hl, hm, hoa, hel⟩ := sl_of Try.underlying23 kblk (by decide) h
  obtain ⟨g, hll, hp⟩ := list_choose (fun i (c : Nat × List Int) => (∃ ia ic, W.cell? ⟨b, off + i * 17, none⟩ = some (.slice ia c.1 ic)) ∧ ∃ vt, W.cell? ⟨b, off + i * 17 + 16, none⟩ = some vt ∧ IRow W.heap.size W vt c.2) len fun i hi => by
    obtain ⟨cs', x', n, h1, h2, h3⟩ := hel i hi
    obtain ⟨ia, k, ic, v, l, e0, -, e1, hr, -, -⟩ := blk_of h1 h3
    exact ⟨⟨k, l⟩, ⟨ia, ic, by rw [← e0]; exact h2 0 (by decide)⟩, v, by rw [← e1]; exact h2 16 (by decide), hr⟩
  subst hll
  refine ⟨oa, cap, g, rfl, fun h0 => ?_, by omega⟩
  obtain ⟨e, hlt⟩ := hoa h0
  refine ⟨b, off, e, hlt, fun j hj => ?_⟩
  have := hp j _ (List.getElem?_eq_getElem hj)
  have eg : g.getD j (0, []) = g[j] := by simp [List.getD, List.getElem?_eq_getElem hj]
  simpa only [insR, toR, eg] using this
theorem open_body {b0 : Nat} {v : Value} {d : DataW H} {p : List MemPlace} (hv : Value.okWide Try.prog W .any b0 25 v) (h : DataW.Trod enc Try.prog W 0 (fun _ => true) true 25 v d p) :
    ∃ B : Bv, v = B.v ∧ B.At W.heap.size W ∧ B.g.length ≤ maxLen := by
  obtain ⟨c0, c1, c2, c3, y0, y1, y2, y3, n, rfl, -, -, -, -, -, h3⟩ := Joins.open_agg4 Try.underlying25 (by kernel_rfl) (by kernel_rfl) hv h
  obtain ⟨oa, cap, g, e, hb, hm⟩ := blks_of h3
  simp at e
  subst e
  exact ⟨⟨c0, c1, c2, oa, cap, g⟩, rfl, hb, hm⟩
theorem open_bools {b0 : Nat} {v : Value} {d : DataW H} {p : List MemPlace} (hv : Value.okWide Try.prog W .any b0 26 v) (h : DataW.Trod enc Try.prog W 0 (fun _ => true) true 26 v d p) :
    ∃ (oa : Option Addr) (cap : Nat) (l : List Bool), v = .slice oa l.length cap ∧ BSrc W.heap.size W oa l ∧ l.length ≤ maxLen := by
  obtain ⟨oa, len, cap, rfl⟩ := okWide_slice Try.underlying26 hv
  obtain ⟨fuel, hf⟩ := h
  obtain ⟨oa', cap', l, e, h1, h2⟩ := bools_of hf
  simp [Value.cells] at e
  obtain ⟨rfl, rfl, rfl⟩ := e
  exact ⟨oa, cap, l, rfl, h1, h2⟩
theorem open_chgs {b0 : Nat} {v : Value} {d : DataW H} {p : List MemPlace} (hv : Value.okWide Try.prog W .any b0 27 v) (h : DataW.Trod enc Try.prog W 0 (fun _ => true) true 27 v d p) :
    ∃ (oa : Option Addr) (cap : Nat) (C : List Chg), v = .slice oa C.length cap ∧ CRow W.heap.size W oa C ∧ C.length ≤ maxLen := by
  obtain ⟨oa, len, cap, rfl⟩ := okWide_slice Try.underlying27 hv
  obtain ⟨fuel, hf⟩ := h
  obtain ⟨oa', cap', C, e, h1, h2⟩ := chgs_of hf
  simp [Value.cells] at e
  obtain ⟨rfl, rfl, rfl⟩ := e
  exact ⟨oa, cap, C, rfl, h1, h2⟩
theorem open_ints {b0 : Nat} {v : Value} {d : DataW H} {p : List MemPlace} (hv : Value.okWide Try.prog W .any b0 42 v) (h : DataW.Trod enc Try.prog W 0 (fun _ => true) true 42 v d p) :
    ∃ l : List Int, IRow W.heap.size W v l ∧ l.length ≤ maxLen ∧ ∀ z ∈ l, (Lit.int .i64 z).wf = true := by
  obtain ⟨oa, len, cap, rfl⟩ := okWide_slice Try.underlying42 hv
  obtain ⟨fuel, hf⟩ := h
  obtain ⟨v', l, e, h1, h2, h3⟩ := ints_of hf
  simp [Value.cells] at e
  subst e
  exact ⟨l, h1, h2, h3⟩
end
/-- What is small where over says no. -/
theorem small_of {B : Bv} {ni : Int} {C : List Chg} (h : B.g.length ≤ 30 ∧ ni ≤ 30 ∧ C.length ≤ 90 ∧ (∀ i, i < B.g.length → insR B.g i ≤ 30 ∧ (toR B.g i).length ≤ 30) ∧ ∀ i, i < C.length → (C[i]?.getD default).gen.length ≤ 30 ∧ (C[i]?.getD default).kill.length ≤ 30) : B.Small ∧ CSmall C ∧ ni.toNat ≤ 1000 := by
  obtain ⟨h1, h2, h3, h4, h5⟩ := h
  refine ⟨⟨by omega, fun i => ?_⟩, ⟨by omega, fun c hc => ?_⟩, by omega⟩
  · by_cases hi : i < B.g.length
    · have := h4 i hi
      omega
    · have e : B.g.getD i (0, []) = (0, []) := by simp [List.getD, List.getElem?_eq_none (Nat.le_of_not_lt hi)]
      unfold insR toR
      rw [e]
      exact ⟨Nat.zero_le _, Nat.zero_le _⟩
  · obtain ⟨i, hi⟩ := List.getElem?_of_mem hc
    have := h5 i (List.getElem?_eq_some_iff.1 hi).1
    rw [hi] at this
    simp only [Option.getD_some] at this
    omega
end Go.Proofs.Ytfpdecjlfnambaa
