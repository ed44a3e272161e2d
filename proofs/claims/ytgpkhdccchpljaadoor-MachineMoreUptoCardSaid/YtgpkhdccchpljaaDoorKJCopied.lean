/-
  Several texts of the proof in one: KCopyL, KCopyC, KCopied. No conditions of their own: each lemma states its own.
-/
import Derived.Test.YtgpkhdccchpljaaDoorKJClone
import Derived.Test.YtgpkhdccchpljaaDoorKJMac
import Derived.Deep.RegionHeld3
import Derived.Deep.DeepCutAuto
import Derived.Deep.CutBlock
import Derived.Deep.LoopGhost
namespace Go.Proofs.YtgpkhdccchpljaaDoor
open Go.RowKit
open C (In Cr Pg)

theorem row_put {w : World} {base e size g cap n : Nat} {xs : List Value} (h : w.ownsRow base e size (.slice (some ⟨g, 0, none⟩) n cap) n xs) (i : Nat) (v : Value) : (w.setCell ⟨g, i, none⟩ v).ownsRow base e size (.slice (some ⟨g, 0, none⟩) n cap) n (xs.set i v) := by
  refine ⟨by rw [List.length_set]; exact h.1, ?_⟩
  rcases h.2 with ⟨hv, _⟩ | ⟨g', cap', cur, hv, hbb, hgg, h1, h2, h3, h4⟩
  · cases hv
  · cases hv
    refine .inr ⟨g, cap, cur.setIfInBounds i v, rfl, hbb, heap_setCell_same w g i _ e v hgg, h1, h2, by simpa using h3, ?_⟩
    rw [← h4]
    simp [List.take_set]
theorem own_cells {w : World} {base e size g cap n : Nat} {xs : List Value} (h : w.ownsRow base e size (.slice (some ⟨g, 0, none⟩) n cap) n xs) : g < w.heap.size ∧ base ≤ g ∧ (∀ i u, xs[i]? = some u → w.cell? ⟨g, i, none⟩ = some u) ∧ (∀ i, w.frozen? ⟨g, i, none⟩ = false) ∧ n ≤ cap ∧ cap ≤ maxLen := by
  rcases h.2 with ⟨hv, _⟩ | ⟨g', cap', cur, hv, hbb, hgg, h1, h2, h3, h4⟩
  · cases hv
  · cases hv
    refine ⟨(Array.getElem?_eq_some_iff.1 hgg).1, hbb, fun i u hu => ?_, fun i => by simp [World.frozen?, hgg], h1, h2⟩
    have hi : i < n * size := by have := (List.getElem?_eq_some_iff.1 hu).1; rw [h.1] at this; exact this
    rw [← h4, List.getElem?_take_of_lt hi] at hu
    simp only [World.cell?, hgg]
    simpa using hu

/-- the cells of instructions, with their labels' headers -/
def insC (x : In) (lv : Value) : List Value := [.int .i64 x.op, .int .i64 x.a, .int .i64 x.b, .int .i64 x.c, lv]
def flatI : List In → List Value → List Value
  | x :: f, lv :: l => insC x lv ++ flatI f l
  | _, _ => []
theorem flatI_len : ∀ (f : List In) (l : List Value), l.length = f.length → (flatI f l).length = f.length * 5
  | [], [], _ => rfl
  | x :: f, lv :: l, h => by
    have := flatI_len f l (by simpa using h)
    simp only [flatI, List.length_append, this, List.length_cons]
    simp [insC]; omega
  | [], _ :: _, h => by simp at h
  | _ :: _, [], h => by simp at h
theorem flatI_get : ∀ (f : List In) (l : List Value) (k j : Nat) (x : In) (lv : Value), f[k]? = some x → l[k]? = some lv → j < 5 → (flatI f l)[k * 5 + j]? = (insC x lv)[j]?
  | [], _, k, j, x, lv, h, _, _ => by simp at h
  | _ :: _, [], k, j, x, lv, _, h, _ => by simp at h
  | x0 :: f, l0 :: l, 0, j, x, lv, h, h', hj => by
    simp at h h'
    subst h; subst h'
    simp only [flatI]
    rw [List.getElem?_append_left (by simp [insC]; omega), Nat.zero_mul, Nat.zero_add]
  | x0 :: f, l0 :: l, k + 1, j, x, lv, h, h', hj => by
    simp only [flatI]
    rw [List.getElem?_append_right (by simp [insC]; omega), show (k + 1) * 5 + j - (insC x0 l0).length = k * 5 + j by simp [insC]; omega]
    exact flatI_get f l k j x lv (by simpa using h) (by simpa using h') hj
theorem flatI_set : ∀ (f : List In) (l : List Value) (k : Nat) (v : Value), l.length = f.length → k < f.length → (flatI f l).set (k * 5 + 4) v = flatI f (l.set k v)
  | [], l, k, v, _, h => by simp at h
  | _ :: _, [], k, v, h, _ => by simp at h
  | x0 :: f, l0 :: l, 0, v, _, _ => by simp [flatI, insC]
  | x0 :: f, l0 :: l, k + 1, v, h, hk => by
    simp only [flatI, List.set_cons_succ]
    rw [List.set_append_right _ _ (by simp [insC]; omega), show (k + 1) * 5 + 4 - (insC x0 l0).length = k * 5 + 4 by simp [insC]; omega, flatI_set f l k v (by simpa using h) (by simpa using hk)]
theorem flatI_one : ∀ (f : List In) (l : List Value), (∀ v ∈ l, v.oneCell' = true) → ∀ v ∈ flatI f l, v.oneCell' = true
  | [], _, _, v, h => by simp [flatI] at h
  | _ :: _, [], _, v, h => by simp [flatI] at h
  | x :: f, lv :: l, hl, v, h => by
    simp only [flatI, List.mem_append] at h
    rcases h with h | h
    · simp [insC] at h
      rcases h with rfl | rfl | rfl | rfl | rfl
      · rfl
      · rfl
      · rfl
      · rfl
      · exact hl _ (by simp)
    · exact flatI_one f l (fun v hv => hl v (by simp [hv])) v h
theorem flatI_of : ∀ (f : List In) (l : List Value) (j : Nat) (u : Value), l.length = f.length → (flatI f l)[j]? = some u → ∃ k i x lv, j = k * 5 + i ∧ i < 5 ∧ f[k]? = some x ∧ l[k]? = some lv ∧ (insC x lv)[i]? = some u
  | [], _, j, u, _, h => by simp [flatI] at h
  | _ :: _, [], j, u, h, _ => by simp at h
  | x0 :: f, l0 :: l, j, u, hl, h => by
    simp only [flatI] at h
    by_cases hj : j < 5
    · rw [List.getElem?_append_left (by simp [insC]; omega)] at h
      exact ⟨0, j, x0, l0, by omega, hj, rfl, rfl, h⟩
    · rw [List.getElem?_append_right (by simp [insC]; omega)] at h
      obtain ⟨k, i, x, lv, e, hi, h1, h2, h3⟩ := flatI_of f l (j - 5) u (by simpa using hl) (by simpa [insC] using h)
      exact ⟨k + 1, i, x, lv, by omega, hi, by simpa using h1, by simpa using h2, h3⟩
theorem exists_list {P : Nat → Value → Prop} : ∀ n : Nat, (∀ k, k < n → ∃ v, P k v) → ∃ l : List Value, l.length = n ∧ ∀ (k : Nat) v, l[k]? = some v → P k v
  | 0, _ => ⟨[], rfl, fun k v h => by simp at h⟩
  | n + 1, h => by
    obtain ⟨l, hl, hP⟩ := exists_list n fun k hk => h k (by omega)
    obtain ⟨v, hv⟩ := h n (by omega)
    refine ⟨l ++ [v], by simp [hl], fun k u hu => ?_⟩
    by_cases hk : k < n
    · rw [List.getElem?_append_left (by omega)] at hu
      exact hP k u hu
    · rw [List.getElem?_append_right (by omega)] at hu
      have : k = n := by
        have := (List.getElem?_eq_some_iff.1 hu).1
        simp at this; omega
      subst this
      simp [hl] at hu
      subst hu
      exact hv

/-- a function that was copied, in blocks from S on -/
def RowF (w : World) (S : Nat) (v : Value) (f : List In) : Prop :=
  ∃ lvs : List Value, lvs.length = f.length ∧ w.ownsRow S 84 5 v f.length (flatI f lvs) ∧ ∀ (k : Nat) x lv, f[k]? = some x → lvs[k]? = some lv → w.ownsRow S 3 1 lv x.l.length (x.l.map (.int .i64))
theorem RowF.keep {w w' : World} {S : Nat} {v : Value} {f : List In} (h : RowF w S v f) (hk : ∀ b, S ≤ b → b < w.heap.size → w'.heap[b]? = w.heap[b]?) : RowF w' S v f := by
  have hb : ∀ {base e size n : Nat} {v : Value} {xs : List Value}, base = S → w.ownsRow base e size v n xs → w'.ownsRow base e size v n xs := by
    intro base e size n v xs he hr
    subst he
    refine own_keep hr fun b hb => ?_
    rcases hr.2 with ⟨rfl, _⟩ | ⟨g, cap, cur, rfl, hbb, hgg, _⟩
    · cases hb
    · cases hb
      exact hk _ hbb (Array.getElem?_eq_some_iff.1 hgg).1
  obtain ⟨lvs, h1, h2, h3⟩ := h
  exact ⟨lvs, h1, hb rfl h2, fun k x lv hx hl => hb rfl (h3 k x lv hx hl)⟩
theorem RowF.below {w w' : World} {S : Nat} {v : Value} {f : List In} (h : RowF w S v f) (hb : Below w.heap.size w w') : RowF w' S v f := h.keep fun b _ hl => hb.block b hl
theorem row_base {w : World} {base base' e size n : Nat} {v : Value} {xs : List Value} (h : w.ownsRow base e size v n xs) (hb : base' ≤ base) : w.ownsRow base' e size v n xs := by
  refine ⟨h.1, ?_⟩
  rcases h.2 with h1 | ⟨g, cap, cur, h1, hbb, rest⟩
  · exact .inl h1
  · exact .inr ⟨g, cap, cur, h1, Nat.le_trans hb hbb, rest⟩

/-- the world without the blocks below a number -/
def eb (w : World) (B : Nat) : World := { w with heap := Array.replicate B (.cells #[] 0) ++ w.heap.extract B w.heap.size }
theorem eb_heap {w : World} {B b : Nat} (hB : B ≤ w.heap.size) : (eb w B).heap[b]? = if b < B then some (.cells #[] 0) else w.heap[b]? := by
  unfold eb
  simp only
  rw [Array.getElem?_append]
  by_cases h : b < B
  · simp [h]
  · simp only [Array.size_replicate, if_neg h]
    rw [Array.getElem?_extract]
    by_cases hl : b < w.heap.size
    · rw [if_pos (by omega), show B + (b - B) = b by omega]
    · rw [if_neg (by omega), Array.getElem?_eq_none (by omega)]
theorem eb_size {w : World} {B : Nat} (hB : B ≤ w.heap.size) : (eb w B).heap.size = w.heap.size := by
  unfold eb
  simp; omega
theorem eb_cell {w : World} {B : Nat} (hB : B ≤ w.heap.size) {p : Addr} (hp : B ≤ p.block) : (eb w B).cell? p = w.cell? p :=
  World.cell?_of_block (by rw [eb_heap hB, if_neg (by omega)])
theorem eb_free {w : World} {B b : Nat} (hB : B ≤ w.heap.size) (hb : b < B) : Free (eb w B) b := fun p hp => by
  have h := eb_heap (b := b) hB
  rw [if_pos hb] at h
  subst hp
  unfold World.cell?
  rw [h]
  cases p with
  | mk blk off bytes => cases bytes <;> simp
/-- what lies from a number on is kept -/
theorem eb_under {w w' : World} {B : Nat} (hB : B ≤ w.heap.size) (hs : w.heap.size ≤ w'.heap.size) (hk : ∀ b, B ≤ b → b < w.heap.size → w'.heap[b]? = w.heap[b]?) : Under (eb w B) w' := by
  refine ⟨by rw [eb_size hB]; exact hs, fun p v hv => ?_⟩
  by_cases hp : p.block < B
  · rw [eb_free hB hp p rfl] at hv; cases hv
  · rw [eb_cell hB (by omega)] at hv
    exact (World.cell?_of_block (w := w) (hk p.block (by omega) (World.block_lt_of_cell? w p hv))).trans hv

theorem rowF_fun {w : World} {B S : Nat} {v : Value} {f : List In} (hB : B ≤ w.heap.size) (hS : B ≤ S) (h : RowF w S v f) : C.FunV (eb w B) v f := by
  obtain ⟨lvs, h1, h2, h3⟩ := h
  rcases h2.2 with ⟨rfl, h0⟩ | ⟨g, cap, cur, rfl, -⟩
  · have : f = [] := List.eq_nil_of_length_eq_zero h0
    subst this
    exact ⟨none, 0, 0, 0, rfl, Nat.le_refl _, Nat.zero_le _, fun h => absurd h (Nat.lt_irrefl _), fun i x hx => by simp at hx⟩
  · obtain ⟨g1, g2, g3, g4, g5, g6⟩ := own_cells h2
    refine ⟨_, cap, g, 0, rfl, g5, g6, fun _ => ⟨rfl, by rw [eb_size hB]; exact g1⟩, fun k x hx => ?_⟩
    have hkl := (List.getElem?_eq_some_iff.1 hx).1
    obtain ⟨lv, hlv⟩ : ∃ lv, lvs[k]? = some lv := ⟨_, List.getElem?_eq_getElem (by omega)⟩
    have hc : ∀ j, j < 5 → ∀ u, (insC x lv)[j]? = some u → (eb w B).cell? ⟨g, 0 + k * 5 + j, none⟩ = some u := fun j hj u hu => by
      rw [eb_cell hB (show B ≤ g by omega), Nat.zero_add]
      exact g3 _ _ ((flatI_get f lvs k j x lv hx hlv hj).trans hu)
    refine ⟨lv, hc 0 (by omega) _ rfl, hc 1 (by omega) _ rfl, hc 2 (by omega) _ rfl, hc 3 (by omega) _ rfl, hc 4 (by omega) _ rfl, ?_⟩
    have h5 := h3 k x lv hx hlv
    rcases h5.2 with ⟨rfl, h0⟩ | ⟨q, cap', cur', rfl, -⟩
    · exact ⟨none, 0, 0, 0, by rw [h0], by omega, Nat.zero_le _, fun h => by omega, fun i z hz => by have := (List.getElem?_eq_some_iff.1 hz).1; omega⟩
    · obtain ⟨q1, q2, q3, -, q5, q6⟩ := own_cells h5
      refine ⟨_, cap', q, 0, rfl, q5, q6, fun _ => ⟨rfl, by rw [eb_size hB]; exact q1⟩, fun i z hz => ?_⟩
      rw [eb_cell hB (show B ≤ q by omega), Nat.zero_add]
      exact q3 i _ (by rw [List.getElem?_map, hz]; rfl)
end Go.Proofs.YtgpkhdccchpljaaDoor

namespace Go.Proofs.YtgpkhdccchpljaaDoor
open Go.RowKit
open M (Wd MS RepAt Owned Kept Turned loadR storeR copyR clearR freeR allocR)
open C (In Cr Pg)

/-- the functions of a copy, as far as they are copied -/
structure OutAt (w : World) (S : Nat) (v1 : Value) (b3 : Nat) (v2 : Value) (fs : List (List In)) (i : Nat) (hs cur : List Value) : Prop where
  row : w.ownsRow S 56 1 v1 fs.length cur
  loc : w.heap[b3]? = some (.cells #[v1, v2] 25)
  done : ∀ (k : Nat) v f, k < i → cur[k]? = some v → fs[k]? = some f → ∃ S', (∀ g, v1.ownBlock = some g → g < S') ∧ S ≤ S' ∧ b3 < S' ∧ RowF w S' v f
  todo : ∀ k : Nat, i ≤ k → cur[k]? = hs[k]?
theorem OutAt.below {w w' : World} {S : Nat} {v1 : Value} {b3 : Nat} {v2 : Value} {fs : List (List In)} {i : Nat} {hs cur : List Value} (h : OutAt w S v1 b3 v2 fs i hs cur) (hb : Below w.heap.size w w') : OutAt w' S v1 b3 v2 fs i hs cur :=
  ⟨own_keep h.row fun b hb' => by
    obtain ⟨_, h1⟩ := own_blk h.row hb'
    exact hb.block b (Array.getElem?_eq_some_iff.1 h1).1, keepB7 h.loc hb, fun k v f h1 h2 h3 => by
    obtain ⟨S', a, b, c, d⟩ := h.done k v f h1 h2 h3
    exact ⟨S', a, b, c, d.below hb⟩, h.todo⟩
/-- one function more -/
theorem OutAt.next {w : World} {S : Nat} {g cap b3 : Nat} {v2 : Value} {fs : List (List In)} {i : Nat} {hs cur : List Value} (h : OutAt w S (.slice (some ⟨g, 0, none⟩) fs.length cap) b3 v2 fs i hs cur) {S' : Nat} (h1 : g < S') (h2 : S ≤ S') (h3 : b3 < S') {v : Value} {f : List In} (hf : fs[i]? = some f) (hr : RowF w S' v f) (hne : b3 ≠ g) :
    OutAt (w.setCell ⟨g, i, none⟩ v) S (.slice (some ⟨g, 0, none⟩) fs.length cap) b3 v2 fs (i + 1) hs (cur.set i v) := by
  have hK : ∀ {S1 : Nat} {u : Value} {f1 : List In}, g < S1 → RowF w S1 u f1 → RowF (w.setCell ⟨g, i, none⟩ v) S1 u f1 := fun hg hR => hR.keep fun b hb _ => Below.heap_setCell _ _ _ _ (show b ≠ g by omega)
  refine ⟨row_put h.row i v, (Below.heap_setCell _ _ _ _ hne).trans h.loc, fun k u f' hk hu hf' => ?_, fun k hk => ?_⟩
  · by_cases hki : k = i
    · subst hki
      have hil : k < cur.length := by
        have := (List.getElem?_eq_some_iff.1 hu).1
        simpa using this
      rw [List.getElem?_set_self hil] at hu
      cases hu
      rw [hf] at hf'
      cases hf'
      exact ⟨S', fun g' hg' => by cases hg'; exact h1, h2, h3, hK h1 hr⟩
    · rw [List.getElem?_set_ne (Ne.symm hki)] at hu
      obtain ⟨S1, a, b, c, d⟩ := h.done k u f' (by omega) hu hf'
      exact ⟨S1, a, b, c, hK (a g rfl) d⟩
  · rw [List.getElem?_set_ne (by omega)]
    exact h.todo k (by omega)
/-- the labels of a function, as far as they are copied -/
structure InAt (w : World) (S5 S6 : Nat) (v5 : Value) (f : List In) (j : Nat) (lvs lv2 : List Value) : Prop where
  len : lv2.length = f.length
  row : w.ownsRow S5 84 5 v5 f.length (flatI f lv2)
  done : ∀ (k : Nat) x lv, k < j → f[k]? = some x → lv2[k]? = some lv → w.ownsRow S6 3 1 lv x.l.length (x.l.map (.int .i64))
  todo : ∀ k : Nat, j ≤ k → lv2[k]? = lvs[k]?
theorem InAt.below {w w' : World} {S5 S6 : Nat} {v5 : Value} {f : List In} {j : Nat} {lvs lv2 : List Value} (h : InAt w S5 S6 v5 f j lvs lv2) (hb : Below w.heap.size w w') : InAt w' S5 S6 v5 f j lvs lv2 := by
  have hK : ∀ {base e size n : Nat} {v : Value} {xs : List Value}, w.ownsRow base e size v n xs → w'.ownsRow base e size v n xs := fun hr => own_keep hr fun b hb' => by
    obtain ⟨_, h1⟩ := own_blk hr hb'
    exact hb.block b (Array.getElem?_eq_some_iff.1 h1).1
  exact ⟨h.len, hK h.row, fun k x lv a b c => hK (h.done k x lv a b c), h.todo⟩
theorem InAt.next {w : World} {S5 S6 g cap : Nat} {f : List In} {j : Nat} {lvs lv2 : List Value} (h : InAt w S5 S6 (.slice (some ⟨g, 0, none⟩) f.length cap) f j lvs lv2) (hg : g < S6) {x : In} (hx : f[j]? = some x) {v : Value} (hv : w.ownsRow S6 3 1 v x.l.length (x.l.map (.int .i64))) :
    InAt (w.setCell ⟨g, j * 5 + 4, none⟩ v) S5 S6 (.slice (some ⟨g, 0, none⟩) f.length cap) f (j + 1) lvs (lv2.set j v) := by
  have hjl := (List.getElem?_eq_some_iff.1 hx).1
  have hK : ∀ {u : Value} {n : Nat} {xs : List Value}, w.ownsRow S6 3 1 u n xs → (w.setCell ⟨g, j * 5 + 4, none⟩ v).ownsRow S6 3 1 u n xs := fun {u n xs} hr => own_keep hr fun b hb => by
    rcases hr.2 with ⟨rfl, _⟩ | ⟨q, c, cu, rfl, hbb, _⟩
    · cases hb
    · cases hb
      exact Below.heap_setCell _ _ _ _ (show q ≠ g by omega)
  refine ⟨by simp [h.len], ?_, fun k y lv hk hy hlv => ?_, fun k hk => ?_⟩
  · rw [← flatI_set f lv2 j v h.len hjl]
    exact row_put h.row _ v
  · by_cases hkj : k = j
    · subst hkj
      rw [List.getElem?_set_self (by rw [h.len]; exact hjl)] at hlv
      cases hlv
      rw [hx] at hy
      cases hy
      exact hK hv
    · rw [List.getElem?_set_ne (Ne.symm hkj)] at hlv
      exact hK (h.done k y lv (by omega) hy hlv)
  · rw [List.getElem?_set_ne (by omega)]
    exact h.todo k (by omega)

def coL : List Cr → List ByteArray → List Value
  | c :: l, s :: r => [.string s, .int .i64 c.re, .int .i64 c.ca, .int .i64 c.wo, .int .i64 c.ar] ++ coL l r
  | _, _ => []
theorem coL_len : ∀ (l : List Cr) (r : List ByteArray), r.length = l.length → (coL l r).length = l.length * 5
  | [], [], _ => rfl
  | x :: f, lv :: l, h => by
    have := coL_len f l (by simpa using h)
    simp only [coL, List.length_append, this, List.length_cons]
    simp; omega
  | [], _ :: _, h => by simp at h
  | _ :: _, [], h => by simp at h
theorem coL_one : ∀ (l : List Cr) (r : List ByteArray), ∀ v ∈ coL l r, v.oneCell' = true
  | [], _, v, h => by simp [coL] at h
  | _ :: _, [], v, h => by simp [coL] at h
  | x :: f, lv :: l, v, h => by
    simp only [coL, List.mem_append] at h
    rcases h with h | h
    · simp at h
      rcases h with rfl | rfl | rfl | rfl | rfl <;> rfl
    · exact coL_one f l v h
theorem coL_get : ∀ (f : List Cr) (l : List ByteArray) (k j : Nat) (x : Cr) (s : ByteArray), f[k]? = some x → l[k]? = some s → j < 5 → (coL f l)[k * 5 + j]? = [Value.string s, .int .i64 x.re, .int .i64 x.ca, .int .i64 x.wo, .int .i64 x.ar][j]?
  | [], _, k, j, x, lv, h, _, _ => by simp at h
  | _ :: _, [], k, j, x, lv, _, h, _ => by simp at h
  | x0 :: f, l0 :: l, 0, j, x, lv, h, h', hj => by
    simp at h h'
    subst h; subst h'
    simp only [coL]
    rw [List.getElem?_append_left (by simp; omega), Nat.zero_mul, Nat.zero_add]
  | x0 :: f, l0 :: l, k + 1, j, x, lv, h, h', hj => by
    simp only [coL]
    rw [List.getElem?_append_right (by simp; omega)]
    have := coL_get f l k j x lv (by simpa using h) (by simpa using h') hj
    rw [← this]
    congr 1
    simp; omega
theorem coL_of : ∀ (f : List Cr) (l : List ByteArray) (j : Nat) (u : Value), l.length = f.length → (coL f l)[j]? = some u → ∃ k i x s, j = k * 5 + i ∧ i < 5 ∧ f[k]? = some x ∧ l[k]? = some s ∧ [Value.string s, .int .i64 x.re, .int .i64 x.ca, .int .i64 x.wo, .int .i64 x.ar][i]? = some u
  | [], _, j, u, _, h => by simp [coL] at h
  | _ :: _, [], j, u, h, _ => by simp at h
  | x0 :: f, l0 :: l, j, u, hl, h => by
    simp only [coL] at h
    by_cases hj : j < 5
    · rw [List.getElem?_append_left (by simp; omega)] at h
      exact ⟨0, j, x0, l0, by omega, hj, rfl, rfl, h⟩
    · rw [List.getElem?_append_right (by simp; omega)] at h
      obtain ⟨k, i, x, lv, e, hi, h1, h2, h3⟩ := coL_of f l (j - 5) u (by simpa using hl) (by simpa using h)
      exact ⟨k + 1, i, x, lv, by omega, hi, by simpa using h1, by simpa using h2, h3⟩
theorem exists_strs {P : Nat → ByteArray → Prop} : ∀ n : Nat, (∀ k, k < n → ∃ v, P k v) → ∃ l : List ByteArray, l.length = n ∧ ∀ (k : Nat) v, l[k]? = some v → P k v
  | 0, _ => ⟨[], rfl, fun k v h => by simp at h⟩
  | n + 1, h => by
    obtain ⟨l, hl, hP⟩ := exists_strs n fun k hk => h k (by omega)
    obtain ⟨v, hv⟩ := h n (by omega)
    refine ⟨l ++ [v], by simp [hl], fun k u hu => ?_⟩
    by_cases hk : k < n
    · rw [List.getElem?_append_left (by omega)] at hu
      exact hP k u hu
    · rw [List.getElem?_append_right (by omega)] at hu
      have : k = n := by
        have := (List.getElem?_eq_some_iff.1 hu).1
        simp at this; omega
      subst this
      simp [hl] at hu
      subst hu
      exact hv
theorem addr_add (b o j : Nat) : (⟨b, o, none⟩ : Addr).add j = ⟨b, o + j, none⟩ := by unfold Addr.add; split <;> simp_all
/-- the rows of headers, of coroutines, of instructions, as cells -/
theorem cos_cells {w : World} {v : Value} {cs : List Cr} (h : C.CosV w v cs) : ∃ oa cap xs, v = .slice oa cs.length cap ∧ xs.length = cs.length * 5 ∧ (oa = none → cs.length = 0) ∧ (∀ ad, oa = some ad → ∀ j u, xs[j]? = some u → w.cell? (ad.add j) = some u) ∧ (∀ u ∈ xs, u.oneCell' = true) ∧ ∃ ss : List ByteArray, ss.length = cs.length ∧ xs = coL cs ss := by
  obtain ⟨oa, cap, b, off, rfl, -, -, h3, h4⟩ := h
  obtain ⟨ss, hs1, hs2⟩ := exists_strs (P := fun k s => ∀ c, cs[k]? = some c → w.cell? ⟨b, off + k * 5, none⟩ = some (.string s) ∧ w.cell? ⟨b, off + k * 5 + 1, none⟩ = some (.int .i64 c.re) ∧ w.cell? ⟨b, off + k * 5 + 2, none⟩ = some (.int .i64 c.ca) ∧ w.cell? ⟨b, off + k * 5 + 3, none⟩ = some (.int .i64 c.wo) ∧ w.cell? ⟨b, off + k * 5 + 4, none⟩ = some (.int .i64 c.ar)) cs.length (fun k hk => by
    obtain ⟨c, hc⟩ : ∃ c, cs[k]? = some c := ⟨_, List.getElem?_eq_getElem hk⟩
    obtain ⟨s, g⟩ := h4 k c hc
    exact ⟨s, fun c' hc' => by rw [hc] at hc'; cases hc'; exact g⟩)
  refine ⟨oa, cap, coL cs ss, rfl, coL_len _ _ hs1, fun ho => ?_, fun ad ho j u hu => ?_, coL_one _ _, ss, hs1, rfl⟩
  · by_cases hz : 0 < cs.length
    · have := (h3 hz).1
      rw [ho] at this; cases this
    · omega
  · obtain ⟨k, i, x, s, rfl, hi, h1, h2, h5⟩ := coL_of cs ss j u hs1 hu
    have hk := (List.getElem?_eq_some_iff.1 h1).1
    have := (h3 (by omega)).1
    rw [ho] at this; cases this
    rw [addr_add]
    obtain ⟨g0, g1, g2, g3, g4⟩ := hs2 k s h2 x h1
    match i, hi, h5 with
    | 0, _, h5 => simp at h5; subst h5; exact g0
    | 1, _, h5 => simp at h5; subst h5; exact g1
    | 2, _, h5 => simp at h5; subst h5; exact g2
    | 3, _, h5 => simp at h5; subst h5; exact g3
    | 4, _, h5 => simp at h5; subst h5; exact g4
theorem fun_cells {w : World} {v : Value} {f : List In} (h : C.FunV w v f) : ∃ oa cap lvs, v = .slice oa f.length cap ∧ (oa = none → f.length = 0) ∧ lvs.length = f.length ∧ (∀ ad, oa = some ad → ∀ j u, (flatI f lvs)[j]? = some u → w.cell? (ad.add j) = some u) ∧ (∀ v ∈ lvs, v.oneCell' = true) ∧ ∀ (k : Nat) x lv, f[k]? = some x → lvs[k]? = some lv → C.IntsV w lv x.l := by
  obtain ⟨oa, cap, b, off, rfl, -, -, h3, h4⟩ := h
  obtain ⟨lvs, hs1, hs2⟩ := exists_list (P := fun k lv => ∀ x, f[k]? = some x → w.cell? ⟨b, off + k * 5, none⟩ = some (.int .i64 x.op) ∧ w.cell? ⟨b, off + k * 5 + 1, none⟩ = some (.int .i64 x.a) ∧ w.cell? ⟨b, off + k * 5 + 2, none⟩ = some (.int .i64 x.b) ∧ w.cell? ⟨b, off + k * 5 + 3, none⟩ = some (.int .i64 x.c) ∧ w.cell? ⟨b, off + k * 5 + 4, none⟩ = some lv ∧ C.IntsV w lv x.l) f.length (fun k hk => by
    obtain ⟨x, hx⟩ : ∃ x, f[k]? = some x := ⟨_, List.getElem?_eq_getElem hk⟩
    obtain ⟨lv, g⟩ := h4 k x hx
    exact ⟨lv, fun x' hx' => by rw [hx] at hx'; cases hx'; exact g⟩)
  refine ⟨oa, cap, lvs, rfl, fun ho => ?_, hs1, fun ad ho j u hu => ?_, fun v hv => ?_, fun k x lv hx hl => (hs2 k lv hl x hx).2.2.2.2.2⟩
  · by_cases hz : 0 < f.length
    · have := (h3 hz).1
      rw [ho] at this; cases this
    · omega
  · obtain ⟨k, i, x, s, rfl, hi, h1, h2, h5⟩ := flatI_of f lvs j u hs1 hu
    have hk := (List.getElem?_eq_some_iff.1 h1).1
    have := (h3 (by omega)).1
    rw [ho] at this; cases this
    rw [addr_add]
    obtain ⟨g0, g1, g2, g3, g4, -⟩ := hs2 k s h2 x h1
    match i, hi, h5 with
    | 0, _, h5 => simp [insC] at h5; subst h5; exact g0
    | 1, _, h5 => simp [insC] at h5; subst h5; exact g1
    | 2, _, h5 => simp [insC] at h5; subst h5; exact g2
    | 3, _, h5 => simp [insC] at h5; subst h5; exact g3
    | 4, _, h5 => simp [insC] at h5; subst h5; exact g4
  · obtain ⟨k, hk⟩ := List.getElem?_of_mem hv
    have hl := (List.getElem?_eq_some_iff.1 hk).1
    obtain ⟨x, hx⟩ : ∃ x, f[k]? = some x := ⟨_, List.getElem?_eq_getElem (by omega)⟩
    obtain ⟨oa, cap, b', off', rfl, -⟩ := (hs2 k v hk x hx).2.2.2.2.2
    rfl
theorem funs_cells {w : World} {v : Value} {fs : List (List In)} (h : C.FunsV w v fs) : ∃ oa cap, ∃ hs : List Value, v = .slice oa fs.length cap ∧ (oa = none → fs.length = 0) ∧ hs.length = fs.length ∧ (∀ ad, oa = some ad → ∀ j u, hs[j]? = some u → w.cell? (ad.add j) = some u) ∧ (∀ v : Value, v ∈ hs → v.oneCell' = true) ∧ ∀ (k : Nat) f hv, fs[k]? = some f → hs[k]? = some hv → C.FunV w hv f := by
  obtain ⟨oa, cap, b, off, rfl, -, -, h3, h4⟩ := h
  obtain ⟨hs, hs1, hs2⟩ := exists_list (P := fun k hv => ∀ f, fs[k]? = some f → w.cell? ⟨b, off + k, none⟩ = some hv ∧ C.FunV w hv f) fs.length (fun k hk => by
    obtain ⟨f, hf⟩ : ∃ f, fs[k]? = some f := ⟨_, List.getElem?_eq_getElem hk⟩
    obtain ⟨hv, g⟩ := h4 k f hf
    exact ⟨hv, fun f' hf' => by rw [hf] at hf'; cases hf'; exact g⟩)
  refine ⟨oa, cap, hs, rfl, fun ho => ?_, hs1, fun ad ho j u hu => ?_, fun v hv => ?_, fun k f hv hf hl => (hs2 k hv hl f hf).2⟩
  · by_cases hz : 0 < fs.length
    · have := (h3 hz).1
      rw [ho] at this; cases this
    · omega
  · have hj := (List.getElem?_eq_some_iff.1 hu).1
    have := (h3 (by omega)).1
    rw [ho] at this; cases this
    rw [addr_add]
    obtain ⟨f, hf⟩ : ∃ f, fs[j]? = some f := ⟨_, List.getElem?_eq_getElem (by omega)⟩
    exact (hs2 j u hu f hf).1
  · obtain ⟨k, hk⟩ := List.getElem?_of_mem hv
    have hl := (List.getElem?_eq_some_iff.1 hk).1
    obtain ⟨f, hf⟩ : ∃ f, fs[k]? = some f := ⟨_, List.getElem?_eq_getElem (by omega)⟩
    obtain ⟨oa, cap, b', off', rfl, -⟩ := (hs2 k v hk f hf).2
    rfl
end Go.Proofs.YtgpkhdccchpljaaDoor

namespace Go.Proofs.YtgpkhdccchpljaaDoor
open Go.RowKit
open M (Wd MS RepAt Owned Kept Turned loadR storeR copyR clearR freeR allocR)
open C (In Cr Pg)

theorem wrapn (k : Nat) (h : k < 70000) : wrap64 (k : Int) = k ∧ IntKind.i64.wrap (k : Int) = k ∧ wrap64 ((k : Int) + 1) = (k : Int) + 1 :=
  ⟨by unfold wrap64; omega, IntWalk.i64_in _ (by omega), by unfold wrap64; omega⟩
theorem lt_dec (i n : Nat) (h : i < n) : decide ((i : Int) < n) = true := by simp; omega
theorem ge_dec (i n : Nat) (h : ¬ i < n) : decide ((i : Int) < n) = false := by simp; omega

theorem row_keepS {w w' : World} {S : Nat} (hk : ∀ b, S ≤ b → b < w.heap.size → w'.heap[b]? = w.heap[b]?) {e size n : Nat} {v : Value} {xs : List Value} (h : w.ownsRow S e size v n xs) : w'.ownsRow S e size v n xs := by
  refine own_keep h fun b hb => ?_
  rcases h.2 with ⟨rfl, _⟩ | ⟨g, cap, cur, rfl, hbb, hgg, _⟩
  · cases hb
  · cases hb
    exact hk _ hbb (Array.getElem?_eq_some_iff.1 hgg).1
theorem OutAt.keepS {w w' : World} {S : Nat} {v1 : Value} {b3 : Nat} {v2 : Value} {fs : List (List In)} {i : Nat} {hs cur : List Value} (h : OutAt w S v1 b3 v2 fs i hs cur) (hb3 : S ≤ b3) (hk : ∀ b, S ≤ b → b < w.heap.size → w'.heap[b]? = w.heap[b]?) : OutAt w' S v1 b3 v2 fs i hs cur :=
  ⟨row_keepS hk h.row, (hk b3 hb3 (Array.getElem?_eq_some_iff.1 h.loc).1).trans h.loc, fun k v f h1 h2 h3 => by
    obtain ⟨S', a, b, c, d⟩ := h.done k v f h1 h2 h3
    exact ⟨S', a, b, c, d.keep fun q hq hl => hk q (Nat.le_trans b hq) hl⟩, h.todo⟩
theorem copy_pg {w : World} {B S b3 : Nat} {p : Pg} {oa1 oa2 : Option Addr} {cap1 cap2 : Nat} {hs cur : List Value} {ss : List ByteArray} (hB : B ≤ w.heap.size) (hS : B ≤ S) (h : OutAt w S (.slice oa1 p.fs.length cap1) b3 (.slice oa2 p.cs.length cap2) p.fs p.fs.length hs cur)
    (hc : w.ownsRow S 66 5 (.slice oa2 p.cs.length cap2) p.cs.length (coL p.cs ss)) (hss : ss.length = p.cs.length) : C.PgV (eb w B) (.slice oa1 p.fs.length cap1) (.slice oa2 p.cs.length cap2) p := by
  constructor
  · rcases h.row.2 with ⟨hv, h0⟩ | ⟨g, cap, cu, hv, hgb, -⟩
    · simp only [Value.slice.injEq] at hv
      obtain ⟨rfl, -, rfl⟩ := hv
      exact ⟨none, 0, 0, 0, rfl, by omega, Nat.zero_le _, fun h => by omega, fun i f hf => by have := (List.getElem?_eq_some_iff.1 hf).1; omega⟩
    · cases hv
      obtain ⟨g1, g2, g3, -, g5, g6⟩ := own_cells h.row
      have hlen : cur.length = p.fs.length := by have := h.row.1; omega
      refine ⟨_, _, g, 0, rfl, g5, g6, fun _ => ⟨rfl, by rw [eb_size hB]; exact g1⟩, fun i f hf => ?_⟩
      have hi := (List.getElem?_eq_some_iff.1 hf).1
      obtain ⟨v, hv⟩ : ∃ v, cur[i]? = some v := ⟨_, List.getElem?_eq_getElem (by omega)⟩
      obtain ⟨S', -, a2, -, a4⟩ := h.done i v f hi hv hf
      exact ⟨v, by rw [eb_cell hB (show B ≤ g by omega), Nat.zero_add]; exact g3 i v hv, rowF_fun hB (Nat.le_trans hS a2) a4⟩
  · rcases hc.2 with ⟨hv, h0⟩ | ⟨g, cap, cu, hv, hgb, -⟩
    · simp only [Value.slice.injEq] at hv
      obtain ⟨rfl, -, rfl⟩ := hv
      exact ⟨none, 0, 0, 0, rfl, by omega, Nat.zero_le _, fun h => by omega, fun i f hf => by have := (List.getElem?_eq_some_iff.1 hf).1; omega⟩
    · cases hv
      obtain ⟨g1, g2, g3, -, g5, g6⟩ := own_cells hc
      refine ⟨_, _, g, 0, rfl, g5, g6, fun _ => ⟨rfl, by rw [eb_size hB]; exact g1⟩, fun i c hci => ?_⟩
      have hi := (List.getElem?_eq_some_iff.1 hci).1
      obtain ⟨s, hs⟩ : ∃ s, ss[i]? = some s := ⟨_, List.getElem?_eq_getElem (by omega)⟩
      have hcell : ∀ j, j < 5 → ∀ u, [Value.string s, .int .i64 c.re, .int .i64 c.ca, .int .i64 c.wo, .int .i64 c.ar][j]? = some u → (eb w B).cell? ⟨g, 0 + i * 5 + j, none⟩ = some u := fun j hj u hu => by
        rw [eb_cell hB (show B ≤ g by omega), Nat.zero_add]
        exact g3 _ _ ((coL_get p.cs ss i j c s hci hs hj).trans hu)
      exact ⟨s, hcell 0 (by omega) _ rfl, hcell 1 (by omega) _ rfl, hcell 2 (by omega) _ rfl, hcell 3 (by omega) _ rfl, hcell 4 (by omega) _ rfl⟩
set_option maxRecDepth 100000 in
set_option maxHeartbeats 8000000 in
theorem copied_any {w : World} {fv cv : Value} {p : Pg} (hP : C.PgV w fv cv p) (hn0 : p.fs.length ≤ 65536) (hm0 : p.cs.length ≤ 65536) (hf0 : ∀ f ∈ p.fs, f.length ≤ 65536) (hl0 : ∀ f ∈ p.fs, ∀ x ∈ f, x.l.length * 8 ≤ 140737488355328) :
    Calls Tryd.prog 19 #[.agg #[fv, cv]] w fun e w' => ∃ v1 v2, e = .returned (.agg #[v1, v2]) ∧ C.PgV (eb w' w.heap.size) v1 v2 p ∧ Below w.heap.size w w' := by
  obtain ⟨oaf, capf, hs, rfl, hoaf, hhs, hcf, hof, hFV⟩ := funs_cells hP.1
  obtain ⟨oac, capc, xs, rfl, hxs, hoac, hcc, hoc, ss, hss, hxe⟩ := cos_cells hP.2
  obtain ⟨n, hn⟩ : ∃ n, p.fs.length = n := ⟨_, rfl⟩
  obtain ⟨m, hm⟩ : ∃ m, p.cs.length = m := ⟨_, rfl⟩
  rw [hn] at hoaf hhs hn0 ⊢
  rw [hm] at hoac hxs hss hm0 ⊢
  obtain ⟨W, hW⟩ : ∃ W, W = (w.alloc (.cells #[.slice oaf n capf, .slice oac m capc] 25)).alloc (.cells #[.slice none 0 0, .slice none 0 0] 25) := ⟨_, rfl⟩
  obtain ⟨hbW, hx0, hx1⟩ := al2 w (.cells #[.slice oaf n capf, .slice oac m capc] 25) (.cells #[.slice none 0 0, .slice none 0 0] 25)
  rw [← hW] at hbW hx0 hx1
  have h34 := Lib.hid (fun (w1 : World) (hb : Below W.heap.size W w1) => clone34_gen oaf n capf hs w1 (by rw [hhs, Nat.mul_one]) (by omega) hoaf (fun ad ha j u hu => ((hbW.trans (hb.mono hbW.size)).cell (p := ad.add j) (World.block_lt_of_cell? w _ (hcf ad ha j u hu))).trans (hcf ad ha j u hu)) hof)
  have h35 := Lib.hid (fun (w1 : World) (hb : Below W.heap.size W w1) => clone35_gen oac m capc xs w1 hxs (by omega) hoac (fun ad ha j u hu => ((hbW.trans (hb.mono hbW.size)).cell (p := ad.add j) (World.block_lt_of_cell? w _ (hcc ad ha j u hu))).trans (hcc ad ha j u hu)) hoc)
  have HFV := Lib.hid (fun (w' : World) (hb : Below w.heap.size w w') (k : Nat) f hv (h1 : p.fs[k]? = some f) (h2 : hs[k]? = some hv) => (hFV k f hv h1 h2).below hb)
  have HXE := Lib.hid (And.intro hxe hss)
  have HN := Lib.hid (And.intro hn (And.intro hm hhs))
  have HF0 := Lib.hid (And.intro hf0 hl0)
  clear hcf hof hcc hoc hFV hxe hoaf hoac hP hf0 hl0 hss
  obtain ⟨B, hB⟩ : ∃ B, B = w.heap.size := ⟨_, rfl⟩
  have hBw : w.heap.size ≤ B := Nat.le_of_eq hB.symm
  rw [← hB] at hx0 hx1 ⊢
  have hBl : B < W.heap.size := (Array.getElem?_eq_some_iff.1 hx0).1
  have HW := Lib.hid hbW
  have HX0 := Lib.hid hx0
  have HX1 := Lib.hid hx1
  obtain ⟨a0, a1, af, al⟩ := cells2 hx0
  go_enter Tryd.func19, Tryd.ntmps19
  go_upto_region 1 with fail
  rw [← hW]
  simp only [← hB]
  clear hW hx0 hx1 hbW
  replace hB := Lib.hid hB
  go_cut [3] (fun s3 wc => ∃ b3 oa1 cap1 oa2 cap2, s3 = .pointer (some ⟨b3, 0, none⟩) ∧ W.heap.size ≤ b3 ∧ wc.heap[b3]? = some (.cells #[.slice oa1 n cap1, .slice oa2 m cap2] 25) ∧ wc.ownsRow W.heap.size 56 1 (.slice oa1 n cap1) n hs ∧ wc.ownsRow W.heap.size 66 5 (.slice oa2 m cap2) m xs ∧ Below W.heap.size W wc)
  case first =>
    go_region_held3 (fun w' => w'.cell? ⟨B, 0, none⟩ = some (.slice oaf n capf) ∧ w'.cell? ⟨B, 1, none⟩ = some (.slice oac m capc)) (first | (refine ⟨?_, ?_⟩ <;> assumption) | go_keep)
      (first
        | (go_at_call 34; refine (h34.out _ ((Below.refl _ _).drew)).mono ?_; rintro e wa ⟨oa1, cap1, rfl, ho1, hb1⟩; have HB1 := Lib.hid (show Below W.heap.size W wa from ⟨hb1.os, hb1.tape, hb1.output, hb1.size, hb1.block⟩); have HO1 := Lib.hid ho1; have hnb1 : B ≠ wa.heap.size := Nat.ne_of_lt (Nat.lt_of_lt_of_le hBl HB1.out.size); have hnb2 : wa.heap.size ≠ B := Ne.symm hnb1; obtain ⟨b0, b1, bf, bl⟩ := cells2 (keepB7 HX0.out HB1.out); clear ho1 hb1)
        | (go_at_call 34; refine (h34.out _ ((C.alloc_below W (.cells #[.slice none 0 0, .slice none 0 0] 25)).drew)).mono ?_; rintro e wa ⟨oa1, cap1, rfl, ho1, hb1⟩; have HB1 := Lib.hid (show Below W.heap.size W wa from (C.alloc_below W (.cells #[.slice none 0 0, .slice none 0 0] 25)).trans ((show Below (W.alloc (.cells #[.slice none 0 0, .slice none 0 0] 25)).heap.size (W.alloc (.cells #[.slice none 0 0, .slice none 0 0] 25)) wa from ⟨hb1.os, hb1.tape, hb1.output, hb1.size, hb1.block⟩).mono (C.alloc_below W (.cells #[.slice none 0 0, .slice none 0 0] 25)).size)); have hzW := Lib.hid (keepB7 (show (W.alloc (.cells #[.slice none 0 0, .slice none 0 0] 25)).drew.heap[W.heap.size]? = _ from heap_alloc_new W (.cells #[.slice none 0 0, .slice none 0 0] 25)) hb1); have HO1 := Lib.hid (row_base ho1 (C.alloc_below W (.cells #[.slice none 0 0, .slice none 0 0] 25)).size); have hnb1 : B ≠ W.heap.size := Nat.ne_of_lt hBl; have hnb2 : W.heap.size ≠ B := Ne.symm hnb1; obtain ⟨b0, b1, bf, bl⟩ := cells2 (keepB7 HX0.out HB1.out); obtain ⟨d0, d1, df, dl⟩ := cells2 hzW.out; clear ho1 hb1)
        | (go_at_call 35; refine (h35.out _ HB1.out).mono ?_; rintro e wb ⟨oa2, cap2, rfl, ho2, hb2⟩; have hz3 := Lib.hid (keepB7 hzW.out hb2); have HB2 := Lib.hid hb2; have HO2 := Lib.hid (row_base ho2 HB1.out.size); obtain ⟨c0, c1, cf, cl⟩ := cells2 (keepB7 (keepB7 HX0.out HB1.out) HB2.out); clear d0 d1 df dl; obtain ⟨d0, d1, df, dl⟩ := cells2 hz3.out; clear ho2 hb2)
        | (go_at_call 35; refine (h35.out _ (HB1.out.alloc HB1.out.size (.cells #[.slice none 0 0, .slice none 0 0] 25))).mono ?_; rintro e wb ⟨oa2, cap2, rfl, ho2, hb2⟩; have hz3 := Lib.hid (keepB7 (heap_alloc_new wa (.cells #[.slice none 0 0, .slice none 0 0] 25)) hb2); have HB2 := Lib.hid ((C.alloc_below wa (.cells #[.slice none 0 0, .slice none 0 0] 25)).trans (hb2.mono (C.alloc_below wa (.cells #[.slice none 0 0, .slice none 0 0] 25)).size)); have HO2 := Lib.hid (row_base ho2 (Nat.le_trans HB1.out.size (C.alloc_below wa (.cells #[.slice none 0 0, .slice none 0 0] 25)).size)); obtain ⟨c0, c1, cf, cl⟩ := cells2 (keepB7 (keepB7 HX0.out HB1.out) HB2.out); obtain ⟨d0, d1, df, dl⟩ := cells2 hz3.out; clear ho2 hb2)
        | (go_at_call 35; refine (h35.out _ HB1.out).mono ?_; rintro e wb ⟨oa2, cap2, rfl, ho2, hb2⟩; have hz3 : Hid True := Lib.hid trivial; have HB2 := Lib.hid hb2; have HO2 := Lib.hid (row_base ho2 HB1.out.size); obtain ⟨c0, c1, cf, cl⟩ := cells2 (keepB7 (keepB7 HX0.out HB1.out) HB2.out); clear ho2 hb2))
    all_goals
      have hR1 : wb.ownsRow W.heap.size 56 1 (.slice oa1 n cap1) n hs := own_keep HO1.out fun b hb => by
        obtain ⟨_, h1⟩ := own_blk HO1.out hb
        exact HB2.out.block b (Array.getElem?_eq_some_iff.1 h1).1
      have HR1 := Lib.hid hR1
      have HB3 := Lib.hid (HB1.out.trans (HB2.out.mono HB1.out.size))
      clear hR1
    all_goals (go_wp2_with fail; go_meet)
    all_goals first
      | (refine ⟨_, _, _, _, _, rfl, HB3.out.size, heap_alloc_new _ _, own_keep HR1.out fun b hb => ?_, own_keep HO2.out fun b hb => ?_, HB3.out.alloc HB3.out.size _⟩
         · obtain ⟨_, h1⟩ := own_blk HR1.out hb
           exact Below.heap_alloc _ _ _ (Array.getElem?_eq_some_iff.1 h1).1
         · obtain ⟨_, h1⟩ := own_blk HO2.out hb
           exact Below.heap_alloc _ _ _ (Array.getElem?_eq_some_iff.1 h1).1)
      | (refine ⟨_, _, _, _, _, rfl, HB1.out.size, set2 hz3.out, own_keep HR1.out fun b hb => ?_, own_keep HO2.out fun b hb => ?_, (HB3.out.setCell HB1.out.size _).setCell HB1.out.size _⟩
         · obtain ⟨_, h1⟩ := own_blk HR1.out hb
           have hne : b ≠ wa.heap.size := fun e => by rw [e, hz3.out] at h1; simp at h1
           rw [Below.heap_setCell _ _ _ _ hne, Below.heap_setCell _ _ _ _ hne]
         · obtain ⟨_, h1⟩ := own_blk HO2.out hb
           have hne : b ≠ wa.heap.size := fun e => by rw [e, hz3.out] at h1; simp at h1
           rw [Below.heap_setCell _ _ _ _ hne, Below.heap_setCell _ _ _ _ hne])
      | (refine ⟨_, _, _, _, _, rfl, Nat.le_refl _, set2 hz3.out, own_keep HR1.out fun b hb => ?_, own_keep HO2.out fun b hb => ?_, (HB3.out.setCell (Nat.le_refl _) _).setCell (Nat.le_refl _) _⟩
         · obtain ⟨_, h1⟩ := own_blk HR1.out hb
           have hne : b ≠ W.heap.size := fun e => by rw [e, hz3.out] at h1; simp at h1
           rw [Below.heap_setCell _ _ _ _ hne, Below.heap_setCell _ _ _ _ hne]
         · obtain ⟨_, h1⟩ := own_blk HO2.out hb
           have hne : b ≠ W.heap.size := fun e => by rw [e, hz3.out] at h1; simp at h1
           rw [Below.heap_setCell _ _ _ _ hne, Below.heap_setCell _ _ _ _ hne])
      | trace_state
  case rest =>
    obtain ⟨b3, oa1, cap1, oa2, cap2, rfl, hb3l, hloc, hr1, hr2, hbw⟩ := hcut
    obtain ⟨e0, e1, ef, el⟩ := cells2 hloc
    have hO0 := Lib.hid (show OutAt wc W.heap.size (.slice oa1 n cap1) b3 (.slice oa2 m cap2) p.fs 0 hs hs from ⟨by rw [HN.out.1]; exact hr1, hloc, fun k v f h => absurd h (Nat.not_lt_zero k), fun k _ => rfl⟩)
    have hR2 := Lib.hid hr2
    have hBW := Lib.hid hbw
    clear a0 a1 af al hr1 hr2 hloc hbw h34 h35
    go_wp2_with fail
    go_loopg [17] n (fun gg u17 wr => ∃ (i : Nat) (cur : List Value), u17 = .int .i64 i ∧ n ≤ i + gg ∧ i ≤ n ∧ OutAt wr W.heap.size (.slice oa1 n cap1) b3 (.slice oa2 m cap2) p.fs i hs cur ∧ wr.ownsRow W.heap.size 66 5 (.slice oa2 m cap2) m xs ∧ Below W.heap.size W wr)
    case atStart => exact ⟨0, hs, rfl, by omega, Nat.zero_le _, hO0.out, hR2.out, hBW.out⟩
    case round =>
      clear e0 e1 ef el hO0 hR2 hBW
      obtain ⟨wo, rfl⟩ : ∃ wo, wo = wr := ⟨_, rfl⟩
      obtain ⟨go, rfl⟩ : ∃ go, go = gk := ⟨_, rfl⟩
      obtain ⟨i, cur, rfl, hgi, hin, hO, hr2, hbr⟩ := hrel
      have HO := Lib.hid hO
      have HR2 := Lib.hid hr2
      have HBR := Lib.hid hbr
      by_cases hi : i < n
      · have t1 := lt_dec i n hi
        have HWI := Lib.hid (wrapn i (Nat.lt_of_lt_of_le hi (Nat.le_trans hn0 (by decide))))
        have hif : i < p.fs.length := by have := HN.out.1; omega
        obtain ⟨f, hf⟩ : ∃ f, p.fs[i]? = some f := ⟨_, List.getElem?_eq_getElem hif⟩
        obtain ⟨hv, hhv⟩ : ∃ hv, hs[i]? = some hv := ⟨_, List.getElem?_eq_getElem (by have := HN.out.2.2; omega)⟩
        have hcv : cur[i]? = some hv := (hO.todo i (Nat.le_refl _)).trans hhv
        have hFw := HFV.out wo (HW.out.trans (hbr.mono HW.out.size)) i f hv hf hhv
        obtain ⟨oa5, cap5, lvs, rfl, hoa5, hlv, hc5, hof5, hL5⟩ := fun_cells hFw
        obtain ⟨g, hg1⟩ : ∃ g, oa1 = some ⟨g, 0, none⟩ := by
          rcases hO.row.2 with ⟨_, h0⟩ | ⟨g, c, cu, hv', _⟩
          · omega
          · cases hv'; exact ⟨g, rfl⟩
        subst hg1
        have hrow := hO.row
        rw [HN.out.1] at hrow
        obtain ⟨g1, g2, g3, g4, -, -⟩ := own_cells hrow
        have hci := g3 i _ hcv
        obtain ⟨e0, e1, ef, el⟩ := cells2 hO.loc
        have hin' : (i : Int) < n := by omega
        have hfl := HF0.out.1 f (List.mem_of_getElem? hf)
        obtain ⟨fl, hfl'⟩ : ∃ fl, f.length = fl := ⟨_, rfl⟩
        have h36 := clone36_gen oa5 f.length cap5 (flatI f lvs) wo (flatI_len f lvs hlv) (by omega) hoa5 hc5 (flatI_one f lvs hof5)
        rw [hfl'] at h36 hci
        replace h36 := Lib.hid h36
        have HFL := Lib.hid hfl'
        have HL5 := Lib.hid (And.intro hL5 (And.intro hf (And.intro hlv hfl)))
        clear hO hr2 hbr hif hhv hcv hFw hc5 hof5 hoa5 hL5 hrow g3 hfl hfl' hlv hf
        obtain ⟨hw1, hw2, hw3⟩ := HWI.out
        go_upto_region 6 with (go_at_call 36; refine h36.out.mono ?_; rintro e w5 ⟨oa6, cap6, rfl, ho6, hb6⟩; have HO6 := Lib.hid ho6; have HB6 := Lib.hid hb6; clear ho6 hb6)
        clear hw1 hw2 hw3 e0 e1 ef el g1 g4 hci
        have hI0 : Hid (InAt w5 wo.heap.size w5.heap.size (.slice oa6 fl cap6) f 0 lvs lvs) := Lib.hid ⟨HL5.out.2.2.1, by rw [HFL.out]; exact HO6.out, fun k x lv h => absurd h (Nat.not_lt_zero k), fun k _ => rfl⟩
        go_wp2_with fail
        go_loopg [26] fl (fun g26 u26 wr => ∃ (j : Nat) (lv2 : List Value), u26 = .int .i64 j ∧ fl ≤ j + g26 ∧ j ≤ fl ∧ InAt wr wo.heap.size w5.heap.size (.slice oa6 fl cap6) f j lvs lv2 ∧ Below wo.heap.size wo wr ∧ w5.heap.size ≤ wr.heap.size)
        case atStart => exact ⟨0, lvs, rfl, by omega, Nat.zero_le _, hI0.out, HB6.out, Nat.le_refl _⟩
        case round =>
          clear hI0
          obtain ⟨j, lv2, rfl, hgj, hjl, hI, hbi, hsz⟩ := hrel
          have HI := Lib.hid hI
          have HBI := Lib.hid (And.intro hbi hsz)
          by_cases hj : j < fl
          · have HT1 := Lib.hid (lt_dec j fl hj)
            have hjf : j < f.length := by have := HFL.out; omega
            obtain ⟨x, hx⟩ : ∃ x, f[j]? = some x := ⟨_, List.getElem?_eq_getElem hjf⟩
            obtain ⟨lv, hlv⟩ : ∃ lv, lvs[j]? = some lv := ⟨_, List.getElem?_eq_getElem (by have := HL5.out.2.2.1; omega)⟩
            have hlv2 : lv2[j]? = some lv := (hI.todo j (Nat.le_refl _)).trans hlv
            have hIV := (HL5.out.1 j x lv hx hlv).below hbi
            obtain ⟨oal, capl, bl, ol, rfl, -, -, l3, l4⟩ := hIV
            obtain ⟨q, hq1⟩ : ∃ q, oa6 = some ⟨q, 0, none⟩ := by
              rcases hI.row.2 with ⟨_, h0⟩ | ⟨q, c, cu, hv', _⟩
              · omega
              · cases hv'; exact ⟨q, rfl⟩
            subst hq1
            have hrow := hI.row
            rw [HFL.out] at hrow
            obtain ⟨q1, q2, q3, q4, -, -⟩ := own_cells hrow
            have hcl := q3 (j * 5 + 4) _ ((flatI_get f lv2 j 4 x _ hx hlv2 (by omega)).trans rfl)
            have hji : (j : Int) < fl := by omega
            have hlb := HF0.out.2 f (List.mem_of_getElem? HL5.out.2.1) x (List.mem_of_getElem? hx)
            have HWJ := Lib.hid (wrapn j (Nat.lt_of_lt_of_le hj (Nat.le_trans (by rw [← HFL.out]; exact HL5.out.2.2.2) (by decide))))
            have h37 := Lib.hid (clone37_gen oal x.l.length capl (x.l.map (.int .i64)) wr (by simp) hlb (fun ho => by
              by_cases hz : 0 < x.l.length
              · have := (l3 hz).1
                rw [ho] at this; cases this
              · omega) (fun ad ha k u hu => by
              rw [List.getElem?_map] at hu
              cases hz : x.l[k]? with
              | none => rw [hz] at hu; cases hu
              | some z =>
                rw [hz] at hu
                cases hu
                have hk := (List.getElem?_eq_some_iff.1 hz).1
                have := (l3 (by omega)).1
                rw [ha] at this
                cases this
                rw [addr_add]
                exact l4 k z hz) (fun u hu => by obtain ⟨z, _, rfl⟩ := List.mem_map.1 hu; rfl))
            have HXJ := Lib.hid hx
            have hq6 : q < w5.heap.size := by
              have := HO6.out.2
              rcases this with ⟨h0, _⟩ | ⟨q', c, cu, hv', _, hgg, _⟩
              · cases h0
              · cases hv'; exact (Array.getElem?_eq_some_iff.1 hgg).1
            obtain ⟨xl, hxl⟩ : ∃ xl, x.l.length = xl := ⟨_, rfl⟩
            rw [hxl] at hcl h37
            have HXL := Lib.hid hxl
            have hsplit := Lib.hid (And.intro hq6 (And.intro q2 hjl))
            clear hI hbi hsz hjf hx hlv hlv2 l3 l4 hrow q3 hlb hxl hq6 q2
            have t1 := HT1.out
            obtain ⟨hw1, hw2, hw3⟩ := HWJ.out
            go_wp2_with (go_at_call 37; refine h37.out.mono ?_; rintro e w7 ⟨oa8, cap8, rfl, ho8, hb8⟩; have HO8 := Lib.hid ho8; have HB8 := Lib.hid hb8; have q5 : w7.cell? ⟨q, j * 5 + 4, none⟩ = some _ := (hb8.cell (p := ⟨q, j * 5 + 4, none⟩) q1).trans hcl; have q6 : ∀ y, w7.frozen? ⟨q, y, none⟩ = false := fun y => (hb8.frozen (p := ⟨q, y, none⟩) q1).trans (q4 y); have q7 : q < w7.heap.size := Nat.lt_of_lt_of_le q1 hb8.size; clear ho8 hb8)
            clear hw1 hw2 hw3 t1
            go_roundg (gk - 1)
            case measure => omega
            case rel =>
              obtain rfl := HFL.out
              obtain rfl := HXL.out
              have hI7 := HI.out.below HB8.out
              have hb7 : Below wo.heap.size wo w7 := HBI.out.1.trans (HB8.out.mono HBI.out.1.size)
              have hs7 := HB8.out.size
              have hs8 := HBI.out.2
              refine ⟨j + 1, lv2.set j (.slice oa8 x.l.length cap8), by rw [HWJ.out.2.2]; rfl, by omega, by omega, hI7.next hsplit.out.1 HXJ.out (row_base HO8.out hs8), hb7.setCell hsplit.out.2.1 _, ?_⟩
              simp [World.setCell]
              omega
          · have t1 := ge_dec j fl hj
            obtain rfl : j = fl := by omega
            have hO2 := HO.out.below (show Below wo.heap.size wo wr from hbi)
            have HO2 := Lib.hid hO2
            have hrow := hO2.row
            rw [HN.out.1] at hrow
            obtain ⟨g1, g2, g3, g4, -, -⟩ := own_cells hrow
            have hil : i < cur.length := by have := hrow.1; omega
            obtain ⟨u0, hu0⟩ : ∃ u0, cur[i]? = some u0 := ⟨_, List.getElem?_eq_getElem hil⟩
            have hci := g3 i _ hu0
            obtain ⟨e0, e1, ef, el⟩ := cells2 hO2.loc
            have hne : b3 ≠ g := fun e => by
              obtain ⟨cu, h1⟩ := own_blk HO.out.row (b := g) rfl
              rw [← e, HO.out.loc] at h1
              simp at h1
            have hrf : Hid (RowF wr wo.heap.size (.slice oa6 j cap6) f) := Lib.hid (by
              obtain rfl := HFL.out
              exact ⟨lv2, hI.len, hI.row, fun k x lv hx hl => row_base (hI.done k x lv (List.getElem?_eq_some_iff.1 hx).1 hx hl) HB6.out.size⟩)
            have hgw : g < wo.heap.size := by
              obtain ⟨cu, h1⟩ := own_blk HO.out.row (b := g) rfl
              exact (Array.getElem?_eq_some_iff.1 h1).1
            have hbw3 : b3 < wo.heap.size := (Array.getElem?_eq_some_iff.1 HO.out.loc).1
            have HX := Lib.hid (And.intro hne (And.intro hgw (And.intro hbw3 (And.intro g2 hbi))))
            have hr2w : Hid (wr.ownsRow W.heap.size 66 5 (.slice oa2 m cap2) m xs) := Lib.hid (own_keep HR2.out fun b hb => by
              obtain ⟨_, h1⟩ := own_blk HR2.out hb
              exact hbi.block b (Array.getElem?_eq_some_iff.1 h1).1)
            clear hI hbi hsz hO2 hrow g3 g2 hil hu0 hne hgw hbw3 hj
            obtain ⟨hw1, hw2, hw3⟩ := HWI.out
            go_wp2_with fail
            clear hw1 hw2 hw3
            go_roundg (go - 1)
            case measure => omega
            case rel =>
              have hcos : (wr.setCell ⟨g, i, none⟩ (.slice oa6 j cap6)).ownsRow W.heap.size 66 5 (.slice oa2 m cap2) m xs := own_keep hr2w.out fun b hb => by
                obtain ⟨_, h1⟩ := own_blk hr2w.out hb
                obtain ⟨_, h2⟩ := own_blk HO2.out.row (b := g) rfl
                refine Below.heap_setCell _ _ _ _ (show b ≠ g from fun e => ?_)
                rw [e, h2] at h1
                simp at h1
              refine ⟨i + 1, cur.set i (.slice oa6 j cap6), by rw [HWI.out.2.2]; rfl, by omega, by omega, ?_, hcos, (HBR.out.trans (HX.out.2.2.2.2.mono HBR.out.size)).setCell HX.out.2.2.2.1 _⟩
              have e := HN.out.1
              have h9 := HO2.out
              rw [← e] at h9 ⊢
              exact h9.next HX.out.2.1 HBR.out.size HX.out.2.2.1 HL5.out.2.1 hrf.out HX.out.1
      · have t1 := ge_dec i n hi
        obtain rfl : i = n := by omega
        obtain ⟨e0, e1, ef, el⟩ := cells2 hO.loc
        have hX1 := keepB7 HX1.out (⟨hbr.os, hbr.tape, hbr.output, hbr.size, hbr.block⟩ : Below W.heap.size W wo)
        obtain ⟨r0, r1, rf, rl⟩ := cells2 hX1
        have hfz := Lib.hid (set2 (u0 := .slice oa1 i cap1) (u1 := .slice oa2 m cap2) hX1)
        have hBl1 : B + 1 < W.heap.size := (Array.getElem?_eq_some_iff.1 HX1.out).1
        have hfin : Hid (C.PgV (eb ((wo.setCell ⟨B + 1, 0, none⟩ (.slice oa1 i cap1)).setCell ⟨B + 1, 1, none⟩ (.slice oa2 m cap2)) B) (.slice oa1 i cap1) (.slice oa2 m cap2) p ∧ Below w.heap.size w ((wo.setCell ⟨B + 1, 0, none⟩ (.slice oa1 i cap1)).setCell ⟨B + 1, 1, none⟩ (.slice oa2 m cap2))) := Lib.hid (by
          have hk : ∀ b, W.heap.size ≤ b → b < wo.heap.size → ((wo.setCell ⟨B + 1, 0, none⟩ (.slice oa1 i cap1)).setCell ⟨B + 1, 1, none⟩ (.slice oa2 m cap2)).heap[b]? = wo.heap[b]? := fun b h1 _ => by
            rw [Below.heap_setCell _ _ _ _ (show b ≠ B + 1 by omega), Below.heap_setCell _ _ _ _ (show b ≠ B + 1 by omega)]
          have h1 := hO.keepS hb3l hk
          have h2 := row_keepS hk hr2
          obtain ⟨en, em, -⟩ := HN.out
          rw [HXE.out.1] at h2
          subst en
          subst em
          refine ⟨copy_pg (by have := hbr.size; simp [World.setCell]; omega) (by omega) h1 h2 HXE.out.2, ?_⟩
          exact ((HW.out.trans (hbr.mono HW.out.size)).setCell (show w.heap.size ≤ B + 1 by omega) _).setCell (show w.heap.size ≤ B + 1 by omega) _)
        clear hO hr2 hbr hX1 hi
        go_wp2
        have hf := hfz.out
        clear hfz
        generalize (World.setCell (World.setCell wo _ _) _ _) = WF at hf hfin ⊢
        obtain ⟨q0, q1, qf, ql⟩ := cells2 hf
        exact bodyPost_ret (v := .agg #[.slice oa1 i cap1, .slice oa2 m cap2]) (by simp [results, Tryd.results19, go_sem, q0, q1]) rfl ⟨_, _, rfl, hfin.out.1, by rw [hB.out]; exact hfin.out.2⟩
end Go.Proofs.YtgpkhdccchpljaaDoor
