/-
  An argument that is a program, opened to cells. No conditions: lemmas.
-/
import Derived.Test.YtobhfmliaecbjaaDoorClose
import Derived.Test.YtobhfmliaecbjaaDoorText
import Derived.Deep.Slices
import Derived.Deep.Fields
import Derived.Deep.Strs
namespace Go.Proofs.YtobhfmliaecbjaaDoor
open Go.RowKit Go.ChangeShapes Go.WideShapes Go.ChangeAt

theorem addr_eq {w : World} {a : Addr} {v : Value} (h : w.cell? a = some v) : a = ⟨a.block, a.off, none⟩ := by
  cases a with
  | mk b o s =>
    cases s with
    | none => rfl
    | some s =>
      simp only [World.cell?] at h
      split at h
      · simp at h
      · cases h
theorem add_plain (b o k : Nat) : (⟨b, o, none⟩ : Addr).add k = ⟨b, o + k, none⟩ := by unfold Addr.add; split <;> simp_all
theorem list_choose {α : Type} (P : Nat → α → Prop) : ∀ n : Nat, (∀ i, i < n → ∃ x, P i x) → ∃ l : List α, l.length = n ∧ ∀ i x, l[i]? = some x → P i x
  | 0, _ => ⟨[], rfl, by simp⟩
  | n + 1, h => by
    obtain ⟨l, hl, hp⟩ := list_choose P n fun i hi => h i (by omega)
    obtain ⟨x, hx⟩ := h n (by omega)
    refine ⟨l ++ [x], by simp [hl], fun i y hy => ?_⟩
    by_cases hi : i < n
    · rw [List.getElem?_append_left (by omega)] at hy
      exact hp i y hy
    · rw [List.getElem?_append_right (by omega), hl] at hy
      by_cases h2 : i = n
      · subst h2
        simp at hy
        subst hy
        exact hx
      · rw [List.getElem?_eq_none (by simp; omega)] at hy
        cases hy

theorem slice_cells (oa : Option Addr) (n c : Nat) : (Value.slice oa n c).cells.toList = [.slice oa n c] := rfl

theorem rows_of {H : Type} {enc : TypeId × Value → H} {W : World} {t e : TypeId} {sz fuel : Nat} {cs : List Value} {x : DataW H × List MemPlace} (ht : Tryd.prog.underlying t = some (.slice e)) (hC : Tryd.prog.cellsOf e = sz) (hsz : 0 < sz)
    (hf : DataW.trod enc Tryd.prog W 0 (fun _ => true) true fuel t cs = some x) :
    ∃ (oa : Option Addr) (len cap b off : Nat), cs = [.slice oa len cap] ∧ len ≤ cap ∧ cap ≤ maxLen ∧ (0 < len → oa = some ⟨b, off, none⟩ ∧ b < W.heap.size) ∧
      ∀ i, i < len → ∃ cs' x n, cs'.length = sz ∧ (∀ j, j < sz → W.cell? ⟨b, off + i * sz + j, none⟩ = cs'[j]?) ∧ DataW.trod enc Tryd.prog W 0 (fun _ => true) true n e cs' = some x := by
  rcases Deep.open_slice ht hf with ⟨h0, _⟩ | ⟨a, len, cap, m, n, D, Pl, hcs, hb, hl, hm, hmm, hx, hi⟩
  · exact ⟨none, 0, 0, 0, 0, h0, Nat.le_refl _, Nat.zero_le _, fun h => absurd h (Nat.lt_irrefl _), fun i hi => absurd hi (Nat.not_lt_zero _)⟩
  · simp only [if_true] at hmm
    subst hmm
    have cell : ∀ i, i < len → ∃ cs x n, cs.length = sz ∧ (∀ j, j < sz → W.cell? ((a.add (i * sz)).add j) = cs[j]?) ∧ DataW.trod enc Tryd.prog W 0 (fun _ => true) true n e cs = some x := fun i hil => by
      obtain ⟨cs', hc, htr⟩ := hi i (by omega)
      rw [hC] at hc
      obtain ⟨_, hcl, hat⟩ := World.cells?_some hc
      exact ⟨cs', _, n, hcl, hat, htr⟩
    by_cases h0 : 0 < len
    · obtain ⟨cs0, x0, n', hcl, hat, _⟩ := cell 0 h0
      have h00 := hat 0 hsz
      rw [Nat.zero_mul] at h00
      have ha : (a.add 0).add 0 = a := by unfold Addr.add; simp
      rw [ha, List.getElem?_eq_getElem (by omega)] at h00
      have he := addr_eq h00
      have hlt := World.block_lt_of_cell? W a h00
      refine ⟨some a, len, _, a.block, a.off, hcs, hl, hm, fun _ => ⟨by rw [← he], hlt⟩, fun i hil => ?_⟩
      obtain ⟨cs', x', n', hcl, hat, htr⟩ := cell i hil
      refine ⟨cs', x', n', hcl, fun j hj => ?_, htr⟩
      have := hat j hj
      rw [he, add_plain, add_plain] at this
      exact this
    · exact ⟨some a, len, _, 0, 0, hcs, hl, hm, fun h => absurd h h0, fun i hil => by omega⟩

section
variable {H : Type} {enc : TypeId × Value → H} {W : World} {fuel : Nat} {cs : List Value} {x : DataW H × List MemPlace}

theorem k1 : Tryd.prog.cellsOf 3 = 1 := by kernel_rfl
theorem k22 : Tryd.prog.cellsOf 22 = 1 := by kernel_rfl
theorem k23 : Tryd.prog.cellsOf 23 = 1 := by kernel_rfl
theorem k25 : Tryd.prog.cellsOf 25 = 5 := by kernel_rfl
theorem k39 : Tryd.prog.cellsOf 39 = 1 := by kernel_rfl
theorem k55 : Tryd.prog.cellsOf 55 = 5 := by kernel_rfl
theorem k9 : Tryd.prog.cellsOf 9 = 1 := by kernel_rfl
theorem k32 : Tryd.prog.cellsOf 32 = 1 := by kernel_rfl
theorem k33 : Tryd.prog.cellsOf 33 = 1 := by kernel_rfl

theorem ints_of (h : DataW.trod enc Tryd.prog W 0 (fun _ => true) true fuel 23 cs = some x) : ∃ v l, cs = [v] ∧ IntsV W v l ∧ I64 l := by
  obtain ⟨oa, len, cap, b, off, rfl, h1, h2, h3, h4⟩ := rows_of Tryd.underlying23 k1 (by decide) h
  obtain ⟨l, hl, hp⟩ := list_choose (fun i (z : Int) => W.cell? ⟨b, off + i, none⟩ = some (.int .i64 z) ∧ (-9223372036854775808 ≤ z ∧ z ≤ 9223372036854775807)) len fun i hi => by
    obtain ⟨cs', x', n, hl, hat, htr⟩ := h4 i hi
    obtain ⟨z, e, _, wz⟩ := DataW.trod_int Tryd.underlying3 htr
    have := hat 0 (by decide)
    rw [e] at this
    simp only [Nat.mul_one, Nat.add_zero] at this
    exact ⟨z, this, i64_bounds wz⟩
  subst hl
  refine ⟨_, l, rfl, ⟨oa, cap, b, off, rfl, h1, h2, h3, fun i z hz => (hp i z hz).1⟩, fun n hn => ?_⟩
  obtain ⟨i, hi⟩ := List.getElem?_of_mem hn
  exact (hp i n hi).2

set_option maxRecDepth 100000 in
theorem ins_of (hl : cs.length = 5) (h : DataW.trod enc Tryd.prog W 0 (fun _ => true) true fuel 25 cs = some x) :
    ∃ (y : In) (lv : Value), cs = [.int .i64 y.op, .int .i64 y.a, .int .i64 y.b, .int .i64 y.c, lv] ∧ IntsV W lv y.l ∧ I64 (y.op :: ([y.a, y.b, y.c] ++ y.l)) := by
  obtain ⟨xs, m, _, _, _, hlen, hf⟩ := DataW.trod_struct Tryd.underlying25 h
  match cs, hl with
  | [c0, c1, c2, c3, c4], _ =>
    match xs, hlen with
    | [y0, y1, y2, y3, y4], _ =>
      have h0 := hf 0 _ rfl
      have h1 := hf 1 _ rfl
      have h2 := hf 2 _ rfl
      have h3 := hf 3 _ rfl
      have h4 := hf 4 _ rfl
      simp [k22] at h0
      simp [k1] at h1 h2 h3
      simp [k23] at h4
      obtain ⟨a0, e0, _, w0⟩ := DataW.trod_int Tryd.underlying22 h0
      obtain ⟨a1, e1, _, w1⟩ := DataW.trod_int Tryd.underlying3 h1
      obtain ⟨a2, e2, _, w2⟩ := DataW.trod_int Tryd.underlying3 h2
      obtain ⟨a3, e3, _, w3⟩ := DataW.trod_int Tryd.underlying3 h3
      obtain ⟨lv, l, e4, hI, hB⟩ := ints_of h4
      simp at e0 e1 e2 e3 e4
      subst e0 e1 e2 e3 e4
      refine ⟨⟨a0, a1, a2, a3, l⟩, _, rfl, hI, fun n hn => ?_⟩
      simp only [List.mem_cons, List.mem_append, List.not_mem_nil, or_false] at hn
      rcases hn with rfl | (rfl | rfl | rfl) | h
      · exact i64_bounds w0
      · exact i64_bounds w1
      · exact i64_bounds w2
      · exact i64_bounds w3
      · exact hB n h

theorem fun_of (h : DataW.trod enc Tryd.prog W 0 (fun _ => true) true fuel 39 cs = some x) : ∃ v f, cs = [v] ∧ FunV W v f ∧ ∀ y ∈ f, I64 (y.op :: ([y.a, y.b, y.c] ++ y.l)) := by
  obtain ⟨oa, len, cap, b, off, rfl, h1, h2, h3, h4⟩ := rows_of Tryd.underlying39 k25 (by decide) h
  obtain ⟨l, hl, hp⟩ := list_choose (fun i (y : In) => InC W b (off + i * 5) y ∧ I64 (y.op :: ([y.a, y.b, y.c] ++ y.l))) len fun i hi => by
    obtain ⟨cs', x', n, hl, hat, htr⟩ := h4 i hi
    obtain ⟨y, lv, rfl, hI, hB⟩ := ins_of hl htr
    exact ⟨y, ⟨lv, hat 0 (by decide), hat 1 (by decide), hat 2 (by decide), hat 3 (by decide), hat 4 (by decide), hI⟩, hB⟩
  subst hl
  refine ⟨_, l, rfl, ⟨oa, cap, b, off, rfl, h1, h2, h3, fun i z hz => (hp i z hz).1⟩, fun n hn => ?_⟩
  obtain ⟨i, hi⟩ := List.getElem?_of_mem hn
  exact (hp i n hi).2

theorem funs_of (h : DataW.trod enc Tryd.prog W 0 (fun _ => true) true fuel 32 cs = some x) : ∃ v fs, cs = [v] ∧ FunsV W v fs ∧ ∀ f ∈ fs, ∀ y ∈ f, I64 (y.op :: ([y.a, y.b, y.c] ++ y.l)) := by
  obtain ⟨oa, len, cap, b, off, rfl, h1, h2, h3, h4⟩ := rows_of Tryd.underlying32 k39 (by decide) h
  obtain ⟨l, hl, hp⟩ := list_choose (fun i (f : List In) => (∃ fv, W.cell? ⟨b, off + i, none⟩ = some fv ∧ FunV W fv f) ∧ ∀ y ∈ f, I64 (y.op :: ([y.a, y.b, y.c] ++ y.l))) len fun i hi => by
    obtain ⟨cs', x', n, hl, hat, htr⟩ := h4 i hi
    obtain ⟨fv, f, rfl, hF, hB⟩ := fun_of htr
    have := hat 0 (by decide)
    simp only [Nat.mul_one, Nat.add_zero] at this
    exact ⟨f, ⟨fv, this, hF⟩, hB⟩
  subst hl
  refine ⟨_, l, rfl, ⟨oa, cap, b, off, rfl, h1, h2, h3, fun i z hz => (hp i z hz).1⟩, fun n hn => ?_⟩
  obtain ⟨i, hi⟩ := List.getElem?_of_mem hn
  exact (hp i n hi).2

set_option maxRecDepth 100000 in
theorem co_of (hl : cs.length = 5) (h : DataW.trod enc Tryd.prog W 0 (fun _ => true) true fuel 55 cs = some x) :
    ∃ (c : Cr) (s : ByteArray), cs = [.string s, .int .i64 c.re, .int .i64 c.ca, .int .i64 c.wo, .int .i64 c.ar] ∧ I64 [c.re, c.ca, c.wo, c.ar] := by
  obtain ⟨xs, m, _, _, _, hlen, hf⟩ := DataW.trod_struct Tryd.underlying55 h
  match cs, hl with
  | [c0, c1, c2, c3, c4], _ =>
    match xs, hlen with
    | [y0, y1, y2, y3, y4], _ =>
      have h0 := hf 0 _ rfl
      have h1 := hf 1 _ rfl
      have h2 := hf 2 _ rfl
      have h3 := hf 3 _ rfl
      have h4 := hf 4 _ rfl
      simp [k9] at h0
      simp [k1] at h1 h2 h3 h4
      obtain ⟨s0, e0, -⟩ := DataW.trod_string Tryd.underlying9 h0
      obtain ⟨a1, e1, _, w1⟩ := DataW.trod_int Tryd.underlying3 h1
      obtain ⟨a2, e2, _, w2⟩ := DataW.trod_int Tryd.underlying3 h2
      obtain ⟨a3, e3, _, w3⟩ := DataW.trod_int Tryd.underlying3 h3
      obtain ⟨a4, e4, _, w4⟩ := DataW.trod_int Tryd.underlying3 h4
      simp at e0 e1 e2 e3 e4
      subst e0 e1 e2 e3 e4
      refine ⟨⟨a1, a2, a3, a4⟩, _, rfl, fun n hn => ?_⟩
      simp only [List.mem_cons, List.not_mem_nil, or_false] at hn
      rcases hn with rfl | rfl | rfl | rfl
      · exact i64_bounds w1
      · exact i64_bounds w2
      · exact i64_bounds w3
      · exact i64_bounds w4

theorem cos_of (h : DataW.trod enc Tryd.prog W 0 (fun _ => true) true fuel 33 cs = some x) : ∃ v l, cs = [v] ∧ CosV W v l ∧ ∀ c ∈ l, I64 [c.re, c.ca, c.wo, c.ar] := by
  obtain ⟨oa, len, cap, b, off, rfl, h1, h2, h3, h4⟩ := rows_of Tryd.underlying33 k55 (by decide) h
  obtain ⟨l, hl, hp⟩ := list_choose (fun i (c : Cr) => CoC W b (off + i * 5) c ∧ I64 [c.re, c.ca, c.wo, c.ar]) len fun i hi => by
    obtain ⟨cs', x', n, hl, hat, htr⟩ := h4 i hi
    obtain ⟨c, s, rfl, hB⟩ := co_of hl htr
    exact ⟨c, ⟨s, hat 0 (by decide), hat 1 (by decide), hat 2 (by decide), hat 3 (by decide), hat 4 (by decide)⟩, hB⟩
  subst hl
  refine ⟨_, l, rfl, ⟨oa, cap, b, off, rfl, h1, h2, h3, fun i z hz => (hp i z hz).1⟩, fun n hn => ?_⟩
  obtain ⟨i, hi⟩ := List.getElem?_of_mem hn
  exact (hp i n hi).2
end

set_option maxRecDepth 100000 in
theorem open_pg {H : Type} {enc : TypeId × Value → H} {W : World} {b0 : Nat} {v : Value} {d : DataW H} {p : List MemPlace} (hv : Value.okWide Tryd.prog W .any b0 35 v) (h : DataW.Trod enc Tryd.prog W 0 (fun _ => true) true 35 v d p) :
    ∃ fv cv q, v = .agg #[fv, cv] ∧ PgV W fv cv q ∧ NumP q := by
  obtain ⟨c0, c1, y0, y1, m, rfl, rfl, rfl, hy0, hy1⟩ := Joins.open_agg2 Tryd.underlying35 (by kernel_rfl) (by kernel_rfl) hv h
  obtain ⟨fv, fs, e0, hF, hB⟩ := funs_of hy0
  obtain ⟨cv, cs, e1, hC, hB2⟩ := cos_of hy1
  simp at e0 e1
  subst e0 e1
  exact ⟨_, _, ⟨fs, cs⟩, rfl, ⟨hF, hC⟩, ⟨hB2, hB⟩⟩
end Go.Proofs.YtobhfmliaecbjaaDoor
