/-
  Arguments that are programs, or rows of acts, opened to cells, with their bulk; how a row is closed. No conditions: lemmas.
-/
import Derived.Test.YtgpkhdccchpljaaDoorKSame
import Derived.Test.YtgpkhdccchpljaaDoorRows
import Derived.WalkKit
import Derived.ProofKit
import Derived.OpenShut
import Derived.Lib.SmallJoins
import Derived.Deep.Slices
import Derived.Deep.Fields
import Derived.Deep.Strs
import Derived.LaidMore
import Derived.Stop.Joined
import Derived.Lib.LaidTab
import Derived.WideShapes
namespace Go.Proofs.YtgpkhdccchpljaaDoor
open Go.RowKit Go.ChangeShapes Go.WideShapes Go.ChangeAt

theorem own : ownKnob Tryd.prog.godebug = none := by kernel_rfl
theorem laidOut : laidOutB Tryd.prog = true := by kernel_rfl

section
variable {H : Type} {enc : TypeId × Value → H}

theorem trodAll_below {P : Program} (hl : laidOutB P = true) {W W' : World} (hb : Below W.heap.size W W') (ts : List TypeId) : ∀ (vs : List Value) (ds : List (DataW H)) (ps : List MemPlace), (ts.all fun t => P.readableRec t && decide (t < P.types.size)) = true →
    DataW.TrodAll enc P W 0 (fun _ => true) true ts vs ds ps → (∀ x ∈ ps, x.block < W.heap.size) → DataW.TrodAll enc P W' 0 (fun b => decide (b < W.heap.size)) true ts vs ds ps := by
  induction ts with
  | nil =>
    intro vs ds ps _ h _
    obtain ⟨rfl, rfl, rfl⟩ := trodAll_nil h
    rfl
  | cons t ts ih =>
    intro vs ds ps hr h hlt
    obtain ⟨v0, vs0, d0, ds0, p0, q0, rfl, rfl, rfl, h0, r0⟩ := trodAll_cons h
    simp only [List.all_cons, Bool.and_eq_true, decide_eq_true_eq] at hr
    obtain ⟨⟨h1, h2⟩, h3⟩ := hr
    exact trodAll_cons_mk (Below.trod hl h1 h2 h0 hb fun x hx => hlt x (List.mem_append_left _ hx)) (ih vs0 ds0 q0 (by simpa using h3) r0 fun x hx => hlt x (List.mem_append_right _ hx))

theorem law_post {f : Func} {s : ChangeSpec} {W W' : World} {args : Array Value} {ds gs : List (DataW H)} {before : List MemPlace} (hv0 : s.vars = []) (hr : f.resultTypes = #[4])
    (hp : (f.params.toList.all fun t => Tryd.prog.readableRec t && decide (t < Tryd.prog.types.size)) = true)
    (hfn : s.fn H (ds ++ gs) = { results := [.lit (.bool true)], args := ds })
    (hW : DataW.Whole enc Tryd.prog f.params.toList s.vars false W args.toList ds gs before) (hb : Below W.heap.size W W') :
    s.post enc Tryd.prog f false true false false W args (.bool true) W' := by
  have hW' := hW
  have hlt := hW.lt
  obtain ⟨p, q, hA, hV, rfl, hfz, hnd⟩ := hW
  rw [hv0] at hV
  obtain ⟨rfl, rfl⟩ := trodVars_none hV
  have hlt' : ∀ x ∈ p, x.block < W.heap.size := fun x hx => hlt x (by simpa using hx)
  refine ⟨ds, [], _, [], p, [], hW', ?_, ?_, ?_, hb.frame _, fun h => by cases h⟩
  · rw [hfn, hr]
    exact trodAll_mk1 (shut_bool Tryd.underlying4 _)
  · rw [hfn]
    exact trodAll_below laidOut hb _ _ _ _ hp hA hlt'
  · rw [hv0, hfn]
    rfl
end

theorem i64_bounds {a : Int} (h : (Lit.int .i64 a).wf = true) : -9223372036854775808 ≤ a ∧ a ≤ 9223372036854775807 := by
  simpa [Lit.wf, IntKind.min, IntKind.max, IntKind.signed, IntKind.bits] using h

theorem addr_eq {w : World} {a : Addr} {v : Value} (h : w.cell? a = some v) : a = ⟨a.block, a.off, none⟩ := by
  cases a with
  | mk b o s =>
    cases s with
    | none => rfl
    | some s =>
      simp only [World.cell?] at h
      split at h
      · simp at h
      · cases h
theorem add_plain (b o k : Nat) : (⟨b, o, none⟩ : Addr).add k = ⟨b, o + k, none⟩ := by unfold Addr.add; split <;> simp_all
theorem list_choose {α : Type} (P : Nat → α → Prop) : ∀ n : Nat, (∀ i, i < n → ∃ x, P i x) → ∃ l : List α, l.length = n ∧ ∀ i x, l[i]? = some x → P i x
  | 0, _ => ⟨[], rfl, by simp⟩
  | n + 1, h => by
    obtain ⟨l, hl, hp⟩ := list_choose P n fun i hi => h i (by omega)
    obtain ⟨x, hx⟩ := h n (by omega)
    refine ⟨l ++ [x], by simp [hl], fun i y hy => ?_⟩
    by_cases hi : i < n
    · rw [List.getElem?_append_left (by omega)] at hy
      exact hp i y hy
    · rw [List.getElem?_append_right (by omega), hl] at hy
      by_cases h2 : i = n
      · subst h2
        simp at hy
        subst hy
        exact hx
      · rw [List.getElem?_eq_none (by simp; omega)] at hy
        cases hy


theorem bulk_one {H : Type} (d : DataW H) : 1 ≤ Rows.uptoBulk d := by
  cases d with
  | lit l => cases l <;> simp [Rows.uptoBulk]
  | nil => simp [Rows.uptoBulk]
  | ptr d => simp [Rows.uptoBulk]
  | slice elems spare => simp [Rows.uptoBulk]
  | agg parts => simp [Rows.uptoBulk]
  | iface t d => simp [Rows.uptoBulk]
  | map entries => simp [Rows.uptoBulk]
  | held h => simp [Rows.uptoBulk]

theorem bulk_len {H : Type} : ∀ (l : List (DataW H)), l.length ≤ Rows.uptoBulkAll l
  | [] => Nat.le_refl _
  | x :: r => by
    have h1 := bulk_one x
    have h2 := bulk_len r
    simp only [List.length_cons, Rows.uptoBulkAll]
    omega
theorem bulk_mem {H : Type} : ∀ (l : List (DataW H)) (x : DataW H), x ∈ l → Rows.uptoBulk x ≤ Rows.uptoBulkAll l
  | [], _, h => by cases h
  | y :: r, x, h => by
    simp only [Rows.uptoBulkAll]
    rcases List.mem_cons.1 h with rfl | h
    · omega
    · have := bulk_mem r x h
      omega

section
variable {H : Type} {enc : TypeId × Value → H} {W : World} {fuel : Nat} {cs : List Value} {x : DataW H × List MemPlace} {N : Nat}

theorem rows_sz {t e : TypeId} {sz : Nat} (ht : Tryd.prog.underlying t = some (.slice e)) (hC : Tryd.prog.cellsOf e = sz) (hsz : 0 < sz) (hN : Rows.uptoBulk x.1 ≤ N)
    (hf : DataW.trod enc Tryd.prog W 0 (fun _ => true) true fuel t cs = some x) :
    ∃ (oa : Option Addr) (len cap b off : Nat), cs = [.slice oa len cap] ∧ len ≤ cap ∧ cap ≤ maxLen ∧ (0 < len → oa = some ⟨b, off, none⟩ ∧ b < W.heap.size) ∧ len ≤ N ∧
      ∀ i, i < len → ∃ cs' x' n, cs'.length = sz ∧ (∀ j, j < sz → W.cell? ⟨b, off + i * sz + j, none⟩ = cs'[j]?) ∧ DataW.trod enc Tryd.prog W 0 (fun _ => true) true n e cs' = some x' ∧ Rows.uptoBulk x'.1 ≤ N := by
  rcases DataW.trod_slice ht hf with ⟨h0, hx0⟩ | ⟨a, len, cap, elems, rest, n, hn, hcs, hx1, hb, hl, hm, hlen, hx, _, _⟩
  · exact ⟨none, 0, 0, 0, 0, h0, Nat.le_refl _, Nat.zero_le _, fun h => absurd h (Nat.lt_irrefl _), Nat.zero_le _, fun i hi => absurd hi (Nat.not_lt_zero _)⟩
  · rw [hC] at hx
    have hbk : Rows.uptoBulkAll (elems.map (·.1)) ≤ N := by
      rw [hx1] at hN
      simp only [Rows.uptoBulk] at hN
      omega
    have hln : len ≤ N := by
      have := bulk_len (elems.map (·.1))
      rw [List.length_map] at this
      omega
    have cell : ∀ i, i < len → ∃ cs' x', cs'.length = sz ∧ (∀ j, j < sz → W.cell? ((a.add (i * sz)).add j) = cs'[j]?) ∧ DataW.trod enc Tryd.prog W 0 (fun _ => true) true n e cs' = some x' ∧ Rows.uptoBulk x'.1 ≤ N := fun i hil => by
      have h1 := hx i hil
      rw [List.getElem?_eq_getElem (by omega)] at h1
      obtain ⟨cs', hc, htr⟩ := Option.bind_eq_some_iff.1 h1
      obtain ⟨_, hcl, hat⟩ := World.cells?_some hc
      refine ⟨cs', _, hcl, hat, htr, Nat.le_trans (bulk_mem _ _ (List.mem_map.2 ⟨_, List.getElem_mem _, rfl⟩)) hbk⟩
    by_cases h0 : 0 < len
    · obtain ⟨cs0, x0, hcl, hat, _⟩ := cell 0 h0
      have h00 := hat 0 hsz
      rw [Nat.zero_mul] at h00
      have ha : (a.add 0).add 0 = a := by unfold Addr.add; simp
      rw [ha, List.getElem?_eq_getElem (by omega)] at h00
      have he := addr_eq h00
      have hlt := World.block_lt_of_cell? W a h00
      refine ⟨some a, len, cap, a.block, a.off, hcs, hl, hm, fun _ => ⟨by rw [← he], hlt⟩, hln, fun i hil => ?_⟩
      obtain ⟨cs', x', hcl, hat, htr, hbb⟩ := cell i hil
      refine ⟨cs', x', n, hcl, fun j hj => ?_, htr, hbb⟩
      have := hat j hj
      rw [he, add_plain, add_plain] at this
      exact this
    · exact ⟨some a, len, cap, 0, 0, hcs, hl, hm, fun h => absurd h h0, hln, fun i hil => by omega⟩

theorem k3 : Tryd.prog.cellsOf 3 = 1 := by kernel_rfl
theorem k82 : Tryd.prog.cellsOf 82 = 1 := by kernel_rfl
theorem k34 : Tryd.prog.cellsOf 34 = 1 := by kernel_rfl
theorem k84 : Tryd.prog.cellsOf 84 = 5 := by kernel_rfl
theorem k56 : Tryd.prog.cellsOf 56 = 1 := by kernel_rfl
theorem k66 : Tryd.prog.cellsOf 66 = 5 := by kernel_rfl
theorem k9 : Tryd.prog.cellsOf 9 = 1 := by kernel_rfl
theorem k22 : Tryd.prog.cellsOf 22 = 1 := by kernel_rfl
theorem k23 : Tryd.prog.cellsOf 23 = 1 := by kernel_rfl
theorem k36 : Tryd.prog.cellsOf 36 = 4 := by kernel_rfl

theorem ints_sz (hN : Rows.uptoBulk x.1 ≤ N) (h : DataW.trod enc Tryd.prog W 0 (fun _ => true) true fuel 34 cs = some x) : ∃ v l, cs = [v] ∧ C.IntsV W v l ∧ (∀ n ∈ l, inR n) ∧ l.length ≤ N := by
  obtain ⟨oa, len, cap, b, off, rfl, h1, h2, h3, h5, h4⟩ := rows_sz Tryd.underlying34 k3 (by decide) hN h
  obtain ⟨l, hl, hp⟩ := list_choose (fun i (z : Int) => W.cell? ⟨b, off + i, none⟩ = some (.int .i64 z) ∧ inR z) len fun i hi => by
    obtain ⟨cs', x', n, hl, hat, htr, -⟩ := h4 i hi
    obtain ⟨z, e, _, wz⟩ := DataW.trod_int Tryd.underlying3 htr
    have := hat 0 (by decide)
    rw [e] at this
    simp only [Nat.mul_one, Nat.add_zero] at this
    exact ⟨z, this, i64_bounds wz⟩
  subst hl
  refine ⟨_, l, rfl, ⟨oa, cap, b, off, rfl, h1, h2, h3, fun i z hz => (hp i z hz).1⟩, fun n hn => ?_, h5⟩
  obtain ⟨i, hi⟩ := List.getElem?_of_mem hn
  exact (hp i n hi).2

def InN (N : Nat) (y : C.In) : Prop := inR y.b ∧ y.l.length ≤ N
set_option maxRecDepth 100000 in
theorem ins_sz (hN : Rows.uptoBulk x.1 ≤ N) (hl : cs.length = 5) (h : DataW.trod enc Tryd.prog W 0 (fun _ => true) true fuel 84 cs = some x) :
    ∃ (y : C.In) (lv : Value), cs = [.int .i64 y.op, .int .i64 y.a, .int .i64 y.b, .int .i64 y.c, lv] ∧ C.IntsV W lv y.l ∧ InN N y := by
  obtain ⟨xs, m, _, hxe, _, hlen, hf⟩ := DataW.trod_struct Tryd.underlying84 h
  match cs, hl with
  | [c0, c1, c2, c3, c4], _ =>
    match xs, hlen with
    | [y0, y1, y2, y3, y4], _ =>
      have h0 := hf 0 _ rfl
      have h1 := hf 1 _ rfl
      have h2 := hf 2 _ rfl
      have h3 := hf 3 _ rfl
      have h4 := hf 4 _ rfl
      simp [k82] at h0
      simp [k3] at h1 h2 h3
      simp [k34] at h4
      obtain ⟨a0, e0, _, w0⟩ := DataW.trod_int Tryd.underlying82 h0
      obtain ⟨a1, e1, _, w1⟩ := DataW.trod_int Tryd.underlying3 h1
      obtain ⟨a2, e2, _, w2⟩ := DataW.trod_int Tryd.underlying3 h2
      obtain ⟨a3, e3, _, w3⟩ := DataW.trod_int Tryd.underlying3 h3
      have hb := congrArg (fun z => Rows.uptoBulk z.1) hxe
      simp only [List.map_cons, List.map_nil, Rows.uptoBulk, Rows.uptoBulkAll] at hb
      obtain ⟨lv, l, e4, hI, hB, hn⟩ := ints_sz (N := N) (by omega) h4
      simp at e0 e1 e2 e3 e4
      subst e0 e1 e2 e3 e4
      exact ⟨⟨a0, a1, a2, a3, l⟩, _, rfl, hI, i64_bounds w2, hn⟩

theorem fun_sz (hN : Rows.uptoBulk x.1 ≤ N) (h : DataW.trod enc Tryd.prog W 0 (fun _ => true) true fuel 56 cs = some x) : ∃ v f, cs = [v] ∧ C.FunV W v f ∧ ∀ y ∈ f, InN N y := by
  obtain ⟨oa, len, cap, b, off, rfl, h1, h2, h3, -, h4⟩ := rows_sz Tryd.underlying56 k84 (by decide) hN h
  obtain ⟨l, hl, hp⟩ := list_choose (fun i (y : C.In) => C.InC W b (off + i * 5) y ∧ InN N y) len fun i hi => by
    obtain ⟨cs', x', n, hl, hat, htr, hx'⟩ := h4 i hi
    obtain ⟨y, lv, rfl, hI, hB⟩ := ins_sz hx' hl htr
    exact ⟨y, ⟨lv, hat 0 (by decide), hat 1 (by decide), hat 2 (by decide), hat 3 (by decide), hat 4 (by decide), hI⟩, hB⟩
  subst hl
  refine ⟨_, l, rfl, ⟨oa, cap, b, off, rfl, h1, h2, h3, fun i z hz => (hp i z hz).1⟩, fun n hn => ?_⟩
  obtain ⟨i, hi⟩ := List.getElem?_of_mem hn
  exact (hp i n hi).2

theorem funs_sz (hN : Rows.uptoBulk x.1 ≤ N) (h : DataW.trod enc Tryd.prog W 0 (fun _ => true) true fuel 22 cs = some x) : ∃ v fs, cs = [v] ∧ C.FunsV W v fs ∧ ∀ f ∈ fs, ∀ y ∈ f, InN N y := by
  obtain ⟨oa, len, cap, b, off, rfl, h1, h2, h3, -, h4⟩ := rows_sz Tryd.underlying22 k56 (by decide) hN h
  obtain ⟨l, hl, hp⟩ := list_choose (fun i (f : List C.In) => (∃ fv, W.cell? ⟨b, off + i, none⟩ = some fv ∧ C.FunV W fv f) ∧ ∀ y ∈ f, InN N y) len fun i hi => by
    obtain ⟨cs', x', n, hl, hat, htr, hx'⟩ := h4 i hi
    obtain ⟨fv, f, rfl, hF, hB⟩ := fun_sz hx' htr
    have := hat 0 (by decide)
    simp only [Nat.mul_one, Nat.add_zero] at this
    exact ⟨f, ⟨fv, this, hF⟩, hB⟩
  subst hl
  refine ⟨_, l, rfl, ⟨oa, cap, b, off, rfl, h1, h2, h3, fun i z hz => (hp i z hz).1⟩, fun n hn => ?_⟩
  obtain ⟨i, hi⟩ := List.getElem?_of_mem hn
  exact (hp i n hi).2

set_option maxRecDepth 100000 in
theorem co_sz (hl : cs.length = 5) (h : DataW.trod enc Tryd.prog W 0 (fun _ => true) true fuel 66 cs = some x) :
    ∃ (c : C.Cr) (s : ByteArray), cs = [.string s, .int .i64 c.re, .int .i64 c.ca, .int .i64 c.wo, .int .i64 c.ar] := by
  obtain ⟨xs, m, _, _, _, hlen, hf⟩ := DataW.trod_struct Tryd.underlying66 h
  match cs, hl with
  | [c0, c1, c2, c3, c4], _ =>
    match xs, hlen with
    | [y0, y1, y2, y3, y4], _ =>
      have h0 := hf 0 _ rfl
      have h1 := hf 1 _ rfl
      have h2 := hf 2 _ rfl
      have h3 := hf 3 _ rfl
      have h4 := hf 4 _ rfl
      simp [k9] at h0
      simp [k3] at h1 h2 h3 h4
      obtain ⟨s0, e0, -⟩ := DataW.trod_string Tryd.underlying9 h0
      obtain ⟨a1, e1, _, w1⟩ := DataW.trod_int Tryd.underlying3 h1
      obtain ⟨a2, e2, _, w2⟩ := DataW.trod_int Tryd.underlying3 h2
      obtain ⟨a3, e3, _, w3⟩ := DataW.trod_int Tryd.underlying3 h3
      obtain ⟨a4, e4, _, w4⟩ := DataW.trod_int Tryd.underlying3 h4
      simp at e0 e1 e2 e3 e4
      subst e0 e1 e2 e3 e4
      exact ⟨⟨a1, a2, a3, a4⟩, _, rfl⟩

theorem cos_sz (hN : Rows.uptoBulk x.1 ≤ N) (h : DataW.trod enc Tryd.prog W 0 (fun _ => true) true fuel 23 cs = some x) : ∃ v l, cs = [v] ∧ C.CosV W v l := by
  obtain ⟨oa, len, cap, b, off, rfl, h1, h2, h3, -, h4⟩ := rows_sz Tryd.underlying23 k66 (by decide) hN h
  obtain ⟨l, hl, hp⟩ := list_choose (fun i (c : C.Cr) => C.CoC W b (off + i * 5) c) len fun i hi => by
    obtain ⟨cs', x', n, hl, hat, htr, -⟩ := h4 i hi
    obtain ⟨c, s, rfl⟩ := co_sz hl htr
    exact ⟨c, s, hat 0 (by decide), hat 1 (by decide), hat 2 (by decide), hat 3 (by decide), hat 4 (by decide)⟩
  subst hl
  exact ⟨_, l, rfl, oa, cap, b, off, rfl, h1, h2, h3, fun i z hz => hp i z hz⟩

set_option maxRecDepth 100000 in
theorem act_sz (hN : Rows.uptoBulk x.1 ≤ N) (hl : cs.length = 4) (h : DataW.trod enc Tryd.prog W 0 (fun _ => true) true fuel 36 cs = some x) :
    ∃ (y : Ac) (lv : Value), cs = [.int .i64 y.k, .int .i64 y.a, .int .i64 y.n, lv] ∧ C.IntsV W lv y.l ∧ inR y.a ∧ inR y.n ∧ ∀ n ∈ y.l, inR n := by
  obtain ⟨xs, m, _, hxe, _, hlen, hf⟩ := DataW.trod_struct Tryd.underlying36 h
  match cs, hl with
  | [c0, c1, c2, c3], _ =>
    match xs, hlen with
    | [y0, y1, y2, y3], _ =>
      have h0 := hf 0 _ rfl
      have h1 := hf 1 _ rfl
      have h2 := hf 2 _ rfl
      have h3 := hf 3 _ rfl
      simp [k3] at h0 h1 h2
      simp [k34] at h3
      obtain ⟨a0, e0, _, w0⟩ := DataW.trod_int Tryd.underlying3 h0
      obtain ⟨a1, e1, _, w1⟩ := DataW.trod_int Tryd.underlying3 h1
      obtain ⟨a2, e2, _, w2⟩ := DataW.trod_int Tryd.underlying3 h2
      have hb := congrArg (fun z => Rows.uptoBulk z.1) hxe
      simp only [List.map_cons, List.map_nil, Rows.uptoBulk, Rows.uptoBulkAll] at hb
      obtain ⟨lv, l, e3, hI, hB, hn⟩ := ints_sz (N := N) (by omega) h3
      simp at e0 e1 e2 e3
      subst e0 e1 e2 e3
      exact ⟨⟨a0, a1, a2, l⟩, _, rfl, hI, i64_bounds w1, i64_bounds w2, hB⟩
set_option maxRecDepth 100000 in
theorem acts_sz (hN : Rows.uptoBulk x.1 ≤ N) (h : DataW.trod enc Tryd.prog W 0 (fun _ => true) true fuel 26 cs = some x) : ∃ v l, cs = [v] ∧ ActsV W v l := by
  obtain ⟨oa, len, cap, b, off, rfl, h1, h2, h3, -, h4⟩ := rows_sz Tryd.underlying26 k36 (by decide) hN h
  obtain ⟨l, hl, hp⟩ := list_choose (fun i (a : Ac) => (∃ lv, AcC W b (off + i * 4) a lv ∧ C.IntsV W lv a.l) ∧ inR a.a ∧ inR a.n ∧ ∀ n ∈ a.l, inR n) len fun i hi => by
    obtain ⟨cs', x', n, hl, hat, htr, hx'⟩ := h4 i hi
    obtain ⟨y, lv, rfl, hI, hB⟩ := act_sz hx' hl htr
    exact ⟨y, ⟨lv, ⟨hat 0 (by decide), hat 1 (by decide), hat 2 (by decide), hat 3 (by decide)⟩, hI⟩, hB⟩
  subst hl
  exact ⟨_, l, rfl, oa, cap, b, off, rfl, h3, fun i z hz => hp i z hz⟩
end

set_option maxRecDepth 100000 in
theorem open_pg {H : Type} {enc : TypeId × Value → H} {W : World} {b0 N : Nat} {v : Value} {d : DataW H} {p : List MemPlace} (hv : Value.okWide Tryd.prog W .any b0 25 v) (h : DataW.Trod enc Tryd.prog W 0 (fun _ => true) true 25 v d p) (hN : Rows.uptoBulk d ≤ N) :
    ∃ fv cv q, v = .agg #[fv, cv] ∧ C.PgV W fv cv q ∧ ∀ f ∈ q.fs, ∀ y ∈ f, InN N y := by
  obtain ⟨c0, c1, y0, y1, m, rfl, hd, rfl, hy0, hy1⟩ := Joins.open_agg2 Tryd.underlying25 (by kernel_rfl) (by kernel_rfl) hv h
  have hb := congrArg Rows.uptoBulk hd
  simp only [Rows.uptoBulk, Rows.uptoBulkAll] at hb
  obtain ⟨fv, fs, e0, hF, hB⟩ := funs_sz (N := N) (by omega) hy0
  obtain ⟨cv, cs, e1, hC⟩ := cos_sz (N := N) (by omega) hy1
  simp at e0 e1
  subst e0 e1
  exact ⟨_, _, ⟨fs, cs⟩, rfl, ⟨hF, hC⟩, hB⟩
set_option maxRecDepth 100000 in
theorem open_acts {H : Type} {enc : TypeId × Value → H} {W : World} {b0 N : Nat} {v : Value} {d : DataW H} {p : List MemPlace} (hv : Value.okWide Tryd.prog W .any b0 26 v) (h : DataW.Trod enc Tryd.prog W 0 (fun _ => true) true 26 v d p) (hN : Rows.uptoBulk d ≤ N) : ∃ l, ActsV W v l := by
  obtain ⟨oa, len, cap, rfl⟩ := okWide_slice Tryd.underlying26 hv
  obtain ⟨fuel, h0⟩ : ∃ fuel, DataW.trod enc Tryd.prog W 0 (fun _ => true) true fuel 26 [.slice oa len cap] = some (d, p) := h
  obtain ⟨v, l, e, hA⟩ := acts_sz (N := N) hN h0
  simp at e
  subst e
  exact ⟨l, hA⟩

def laid3 : List (String × DataW Unit) := [("cocoon/code.shapes", Rows.laid_cocoon_code_shapes)]
def li (z : Int) : DataW Unit := .lit (.int .i64 z)
def shD (s : C.Sh) : DataW Unit := .agg [.agg [li s.f0, li s.f1, li s.f2], li s.lb]
set_option maxRecDepth 100000 in
theorem shapes_tab : (Rows.laid_cocoon_code_shapes : DataW Unit) = .agg (C.tab.map shD) := rfl
theorem gShapes : Tryd.prog.globalNamed "cocoon/code.shapes" = some 0 := by kernel_rfl
theorem tShapes : (Tryd.prog.globals[0]?).map (·.type) = some 149 := by kernel_rfl
theorem k133 : Tryd.prog.cellsOf 133 = 4 := by kernel_rfl
theorem k131 : Tryd.prog.cellsOf 131 = 3 := by kernel_rfl
theorem k130 : Tryd.prog.cellsOf 130 = 1 := by kernel_rfl
set_option maxRecDepth 100000 in
theorem sh_cells {W : World} {fuel : Nat} {cs : List Value} {s : C.Sh} {p : List MemPlace} (hl : cs.length = 4) (h : DataW.trod (fun _ => ()) Tryd.prog W 0 (fun _ => true) false fuel 133 cs = some (shD s, p)) :
    cs = [.int .i64 s.f0, .int .i64 s.f1, .int .i64 s.f2, .int .i64 s.lb] := by
  obtain ⟨xs, m, _, hx, _, hlen, hf⟩ := DataW.trod_struct Tryd.underlying133 h
  match cs, hl with
  | [c0, c1, c2, c3], _ =>
    match xs, hlen with
    | [y0, y1], _ =>
      have h0 := hf 0 _ rfl
      have h1 := hf 1 _ rfl
      simp [k131] at h0
      simp [k3] at h1
      simp [shD] at hx
      obtain ⟨hx0, hx1⟩ := hx.1
      obtain ⟨z0, z1, z2, n, he, t0, t1, t2⟩ := trod_array3 Tryd.underlying131 k130 h0
      obtain ⟨a0, e0, d0, _⟩ := DataW.trod_int Tryd.underlying130 t0
      obtain ⟨a1, e1, d1, _⟩ := DataW.trod_int Tryd.underlying130 t1
      obtain ⟨a2, e2, d2, _⟩ := DataW.trod_int Tryd.underlying130 t2
      obtain ⟨a3, e3, d3, _⟩ := DataW.trod_int Tryd.underlying3 h1
      simp at e0 e1 e2 e3
      subst e0 e1 e2 e3
      rw [he] at hx0
      rw [d0, d1, d2] at hx0
      rw [d3] at hx1
      simp [li] at hx0 hx1
      rw [← hx0.1, ← hx0.2.1, ← hx0.2.2, ← hx1]


set_option maxRecDepth 100000 in
theorem of_laid {W : World} (h : laidMetH Tryd.prog laid3 W) : C.TabAt W := by
  rw [MakeChecks.laidMetH_plain _ _ _ (by kernel_rfl)] at h
  obtain ⟨ps, ⟨g3, t3, cs3, f3, p3, q3, hg3, ht3, hv3, hd3, _, _⟩, _⟩ := h
  obtain rfl := Option.some.inj (gShapes.symm.trans hg3)
  obtain rfl := Option.some.inj (tShapes.symm.trans ht3)
  rw [shapes_tab] at hd3
  obtain ⟨xs, m, _, hx, hlen, hn, hel⟩ := DataW.trod_array Tryd.underlying149 hd3
  have hxs : xs.map (·.1) = C.tab.map shD := by
    have := congrArg Prod.fst hx
    simpa using this.symm
  intro k s hs
  have hk : k < 30 := (List.getElem?_eq_some_iff.1 hs).1
  have h0 := hel k hk
  have hxk : ∃ q, xs[k]? = some (shD s, q) := by
    have h1 : (xs.map (·.1))[k]? = some (shD s) := by rw [hxs]; simp [hs]
    rw [List.getElem?_map] at h1
    obtain ⟨y, hy, e⟩ := Option.map_eq_some_iff.1 h1
    exact ⟨y.2, by rw [hy, ← e]⟩
  obtain ⟨q, hxk⟩ := hxk
  rw [hxk, k133] at h0
  have hsz : cs3.toList.length = 120 := by rw [hlen]; kernel_rfl
  have hc := sh_cells (by simp only [List.length_take, List.length_drop]; omega) h0
  have at_ : ∀ j, j < 4 → W.cell? ⟨0, k * 4 + j, none⟩ = [Value.int .i64 s.f0, .int .i64 s.f1, .int .i64 s.f2, .int .i64 s.lb][j]? := fun j hj => by
    rw [World.var?_cell gShapes hv3, ← hc, List.getElem?_take_of_lt hj, List.getElem?_drop]
    simp
  exact ⟨at_ 0 (by decide), at_ 1 (by decide), at_ 2 (by decide), at_ 3 (by decide)⟩

/-- The door's own heap meets the condition. -/
theorem door_met (os : Os) (args : Array Value) : laidMetH Tryd.prog laid3 ((World.doorLaid Tryd.prog 400 os).forCall (fun _ _ => 0) ⟨#[], args, []⟩).memory :=
  laidMetH_of_parts3 (fuel := 8) (laidMet_of_run' 8 (by kernel_rfl) (by kernel_rfl)) (by kernel_rfl) (by kernel_rfl)
end Go.Proofs.YtgpkhdccchpljaaDoor
