/-
  Graph: changes as plain things, and the map that holds them. No conditions: laws alone.
-/
import Derived.Test.YtfpdecjlfnambaaGFlags
import Derived.Deep.QuietTactic
namespace Go.Proofs.Ytfpdecjlfnambaa
open Go Go.RowKit

/-- A change as a plain thing. -/
structure Chg where
  b : Int
  s : Int
  gen : List Int
  kill : List Int
instance : Inhabited Chg := ⟨⟨0, 0, [], []⟩⟩
/-- The slice holds the changes C (each of four cells), below n0. -/
def CRow (n0 : Nat) (w : World) (oa : Option Addr) (C : List Chg) : Prop :=
  0 < C.length → ∃ bl off, oa = some ⟨bl, off, none⟩ ∧ bl < n0 ∧ ∀ i, i < C.length → w.cell? ⟨bl, off + i * 4, none⟩ = some (.int .i64 (C[i]?.getD default).b) ∧ w.cell? ⟨bl, off + i * 4 + 1, none⟩ = some (.int .i64 (C[i]?.getD default).s) ∧
    (∃ v, w.cell? ⟨bl, off + i * 4 + 2, none⟩ = some v ∧ IRow n0 w v (C[i]?.getD default).gen) ∧ (∃ v, w.cell? ⟨bl, off + i * 4 + 3, none⟩ = some v ∧ IRow n0 w v (C[i]?.getD default).kill)
theorem CRow.below {n0 n : Nat} {w w' : World} {oa : Option Addr} {C : List Chg} (h : CRow n0 w oa C) (hB : Below n w w') (hn : n0 ≤ n) : CRow n0 w' oa C := fun hl => by
  obtain ⟨bl, off, h3, h4, h5⟩ := h hl
  have e : ∀ j, w'.cell? ⟨bl, j, none⟩ = w.cell? ⟨bl, j, none⟩ := fun j => hB.cell (p := ⟨bl, j, none⟩) (by show bl < n; omega)
  refine ⟨bl, off, h3, h4, fun i hi => ?_⟩
  obtain ⟨a1, a2, ⟨v3, a3, a4⟩, v5, a5, a6⟩ := h5 i hi
  exact ⟨(e _).trans a1, (e _).trans a2, ⟨v3, (e _).trans a3, a4.below hB hn⟩, v5, (e _).trans a5, a6.below hB hn⟩
def CSmall (C : List Chg) : Prop := C.length ≤ 100 ∧ ∀ c ∈ C, c.gen.length ≤ 1000 ∧ c.kill.length ≤ 1000

/-- Is a step one of the body's? -/
def okS (g : Gb) (b s : Int) : Bool := isPl b g.length && isPl s (insR g b.toNat + 1)
abbrev Key3 := Int × Int × Bool
/-- What is made (true), and ended (false), at a step. -/
def rlF (g : Gb) (n : Nat) (C : List Chg) (x : Key3) : List Int := C.flatMap fun c => if okS g c.b c.s && decide (c.b = x.1 ∧ c.s = x.2.1) then okF n (if x.2.2 then c.gen else c.kill) else []
theorem rlF_take (g : Gb) (n : Nat) {C : List Chg} {k : Nat} (h : k < C.length) (x : Key3) : rlF g n (C.take (k + 1)) x = rlF g n (C.take k) x ++ (if okS g (C[k]?.getD default).b (C[k]?.getD default).s && decide ((C[k]?.getD default).b = x.1 ∧ (C[k]?.getD default).s = x.2.1) then okF n (if x.2.2 then (C[k]?.getD default).gen else (C[k]?.getD default).kill) else []) := by
  rw [List.take_add_one, List.getElem?_eq_getElem h, rlF, List.flatMap_append]
  simp [rlF]
theorem rlF_len (g : Gb) (n : Nat) : ∀ (C : List Chg) (x : Key3), (∀ c ∈ C, c.gen.length ≤ 1000 ∧ c.kill.length ≤ 1000) → (rlF g n C x).length ≤ C.length * 1000
  | [], _, _ => by simp [rlF]
  | c :: C, x, h => by
    have ih := rlF_len g n C x (fun d hd => h d (by simp [hd]))
    have e : rlF g n (c :: C) x = (if okS g c.b c.s && decide (c.b = x.1 ∧ c.s = x.2.1) then okF n (if x.2.2 then c.gen else c.kill) else []) ++ rlF g n C x := rfl
    rw [e, List.length_append, List.length_cons]
    have h1 := h c (by simp)
    have key : (okF n (if x.2.2 then c.gen else c.kill)).length ≤ 1000 := by
      refine Nat.le_trans (okF_len _ _) ?_
      split
      · exact h1.1
      · exact h1.2
    rw [Nat.succ_mul]
    split
    · omega
    · rw [List.length_nil]
      omega

theorem own_ne {w : World} {base e sz n : Nat} {v : Value} {xs : List Value} (h : w.ownsRow base e sz v n xs) {b : Nat} {o : Obj} (hb : w.heap[b]? = some o) (ho : ∀ cs fr, o ≠ .cells cs e fr) : v.ownBlock ≠ some b := fun hv => by
  rcases h.2 with ⟨rfl, _⟩ | ⟨g', cap, cur, rfl, _, hg', _⟩
  · cases hv
  · simp [Value.ownBlock] at hv
    subst hv
    rw [hb] at hg'
    cases hg'
    exact ho _ _ rfl

/-- The map of changes, with its rows. -/
structure ChAt (w : World) (base m : Nat) (rl : Key3 → List Int) (l : KL) (rv : Key3 → Value) : Prop where
  map : MapAt w m l
  look : ∀ b s, lkV l b s = .agg #[rv (b, s, true), rv (b, s, false)]
  row : ∀ x, ORow w base (rv x) (rl x)
  apart : ∀ x y g, (rv x).ownBlock = some g → (rv y).ownBlock = some g → x = y


theorem own_slice {w : World} {base e sz n : Nat} {v : Value} {xs : List Value} (h : w.ownsRow base e sz v n xs) : ∃ o n c, v = .slice o n c := by
  rcases h.2 with ⟨h, -⟩ | ⟨g', c', _, h, -⟩
  · exact ⟨_, _, _, h⟩
  · exact ⟨_, _, _, h⟩
theorem below_drewN {B : Nat} {a w : World} (h : Below B a w) (n : Nat) : Below B a (w.drewN n) := ⟨h.os, h.tape, h.output, h.size, h.block⟩
theorem ChAt.below {w w' : World} {base m : Nat} {rl : Key3 → List Int} {l : KL} {rv : Key3 → Value} (h : ChAt w base m rl l rv) (hB : Below w.heap.size w w') : ChAt w' base m rl l rv :=
  ⟨h.map.of (hB.block _ h.map.lt), h.look, fun x => own_kep (h.row x) (Kep.of_below (M := fun _ => False) hB) (fun _ _ h => h), h.apart⟩
theorem own_put {w : World} {base e sz n : Nat} {v : Value} {xs : List Value} (h : w.ownsRow base e sz v n xs) {r : Nat} {o : Obj} (o' : Obj) (hr : w.heap[r]? = some o) (ho : o.isCells = false) : (w.putObj r o').ownsRow base e sz v n xs := by
  refine ⟨h.1, ?_⟩
  rcases h.2 with h1 | ⟨g, cap, cur, rfl, hb, hg, h1, h2, h3, h4⟩
  · exact .inl h1
  · refine .inr ⟨g, cap, cur, rfl, hb, (World.putObj_heap_other (fun e => ?_)).trans hg, h1, h2, h3, h4⟩
    subst e
    rw [hr] at hg
    cases hg
    cases ho
theorem ChAt.mid {W w5 w6 : World} {base m : Nat} {rl : Key3 → List Int} {l : KL} {rv : Key3 → Value} (h : ChAt W base m rl l rv) (b s : Int) {T tT : Nat} {cs : List Value} (hT : Bx W T tT cs) (hTi : tT ≠ 3)
    (k5 : Kep (fun k => (rv (b, s, true)).ownBlock = some k) W w5) (k6 : Kep (fun k => k = T) w5 w6) : ∀ x, x ≠ (b, s, true) → ORow w6 base (rv x) (rl x) := fun x hx => by
  refine own_kep (own_kep (h.row x) k5 (fun g hg h2 => hx (h.apart _ _ g hg h2))) k6 (fun g hg e => ?_)
  subst e
  exact own_ne (h.row x) hT (fun cs fr e => by cases e; exact hTi rfl) hg
theorem ChAt.step {W w5 w6 w7 w8 : World} {base m : Nat} {rl : Key3 → List Int} {l : KL} {rv : Key3 → Value} (h : ChAt W base m rl l rv) (b s : Int) {T tT : Nat} {cs : List Value} (hT : Bx W T tT cs) (hTi : tT ≠ 3) (v1 v2 : Value) (L1 L2 : List Int)
    (h5 : ORow w5 base v1 L1) (k5 : Kep (fun k => (rv (b, s, true)).ownBlock = some k) W w5) (o5 : v1.ownBlock = (rv (b, s, true)).ownBlock ∨ ∃ g, v1.ownBlock = some g ∧ W.heap.size ≤ g) (k6 : Kep (fun k => k = T) w5 w6)
    (h7 : ORow w7 base v2 L2) (k7 : Kep (fun k => (rv (b, s, false)).ownBlock = some k) w6 w7) (o7 : v2.ownBlock = (rv (b, s, false)).ownBlock ∨ ∃ g, v2.ownBlock = some g ∧ w6.heap.size ≤ g) (k8 : Kep (fun k => k = T) w7 w8) :
    MapAt w8 m l ∧ ∀ o, MapAt (w8.putObj m o) m (putL l b s (.agg #[v1, v2])) → ChAt (w8.putObj m o) base m (fun x => if x = (b, s, true) then L1 else if x = (b, s, false) then L2 else rl x) (putL l b s (.agg #[v1, v2])) (fun x => if x = (b, s, true) then v1 else if x = (b, s, false) then v2 else rv x) := by
  have hTl := hT.lt
  obtain ⟨es, ck, hm1, hm2⟩ := h.map
  have mne : ∀ x g, (rv x).ownBlock = some g → m ≠ g := fun x g hg e => by
    subst e
    exact own_ne (h.row x) hm1 (fun cs fr e => by cases e) hg
  have mT : m ≠ T := fun e => by
    subst e
    rw [Bx, hm1] at hT
    cases hT
  have hml := h.map.lt
  have e5 : w5.heap[m]? = W.heap[m]? := k5.same m hml (fun hg => mne _ _ hg rfl)
  have e6 : w6.heap[m]? = W.heap[m]? := (k6.same m (Nat.lt_of_lt_of_le hml k5.size) mT).trans e5
  have s6 : W.heap.size ≤ w6.heap.size := Nat.le_trans k5.size k6.size
  have e7 : w7.heap[m]? = W.heap[m]? := (k7.same m (Nat.lt_of_lt_of_le hml s6) (fun hg => mne _ _ hg rfl)).trans e6
  have e8 : w8.heap[m]? = W.heap[m]? := (k8.same m (Nat.lt_of_lt_of_le hml (Nat.le_trans s6 k7.size)) mT).trans e7
  have hm8 : w8.heap[m]? = some (.map es ck) := e8.trans hm1
  refine ⟨⟨es, ck, hm8, hm2⟩, fun o hmo => ?_⟩
  have r6 := h.mid b s hT hTi k5 k6
  -- own blocks of the two new rows
  have tne : ∀ x g, (rv x).ownBlock = some g → g ≠ T := fun x g hg e => by
    subst e
    exact own_ne (h.row x) hT (fun cs fr e => by cases e; exact hTi rfl) hg
  have t1 : ∀ g, v1.ownBlock = some g → g ≠ T := fun g hg e => by
    rcases o5 with o | ⟨g', o, ho⟩
    · exact tne _ g (o ▸ hg) e
    · rw [o] at hg
      cases hg
      omega
  have t2 : ∀ g, v2.ownBlock = some g → g ≠ T := fun g hg e => by
    rcases o7 with o | ⟨g', o, ho⟩
    · exact tne _ g (o ▸ hg) e
    · rw [o] at hg
      cases hg
      omega
  have tf : (b, s, true) ≠ (b, s, false) := fun e => by cases e
  have n1 : ∀ x g, x ≠ (b, s, true) → (rv x).ownBlock = some g → v1.ownBlock ≠ some g := fun x g hx hg hg1 => by
    rcases o5 with o | ⟨g', o, ho⟩
    · exact hx (h.apart _ _ g hg (o ▸ hg1))
    · rw [o] at hg1
      cases hg1
      have := (own_lt (h.row x) hg).1
      omega
  have n2 : ∀ x g, x ≠ (b, s, false) → (rv x).ownBlock = some g → v2.ownBlock ≠ some g := fun x g hx hg hg1 => by
    rcases o7 with o | ⟨g', o, ho⟩
    · exact hx (h.apart _ _ g hg (o ▸ hg1))
    · rw [o] at hg1
      cases hg1
      have := (own_lt (h.row x) hg).1
      omega
  have n12 : ∀ g, v1.ownBlock = some g → v2.ownBlock ≠ some g := fun g hg hg2 => by
    rcases o7 with o | ⟨g', o, ho⟩
    · exact n1 (b, s, false) g tf.symm (o ▸ hg2) hg
    · rw [o] at hg2
      cases hg2
      have := (own_lt h5 hg).1
      have := k6.size
      omega
  refine ⟨hmo, fun c t => ?_, fun x => ?_, fun x y g hx hy => ?_⟩
  · rw [lkV_put]
    by_cases hk : c = b ∧ t = s
    · obtain ⟨rfl, rfl⟩ := hk
      simp
    · rw [if_neg hk, h.look]
      have q1 : ∀ z, (c, t, z) ≠ (b, s, true) := fun z e => hk (by cases e; exact ⟨rfl, rfl⟩)
      have q2 : ∀ z, (c, t, z) ≠ (b, s, false) := fun z e => hk (by cases e; exact ⟨rfl, rfl⟩)
      simp only [if_neg (q1 _), if_neg (q2 _)]
  · by_cases hx1 : x = (b, s, true)
    · simp only [if_pos hx1]
      refine own_put (own_kep (own_kep (own_kep h5 k6 t1) k7 (fun g hg hg2 => ?_)) k8 t1) o hm8 rfl
      exact n1 (b, s, false) g tf.symm hg2 hg
    · by_cases hx2 : x = (b, s, false)
      · simp only [if_neg hx1, if_pos hx2]
        exact own_put (own_kep h7 k8 t2) o hm8 rfl
      · simp only [if_neg hx1, if_neg hx2]
        exact own_put (own_kep (own_kep (r6 x hx1) k7 (fun g hg hg2 => hx2 (h.apart _ _ g hg hg2))) k8 (fun g hg => tne x g hg)) o hm8 rfl
  · by_cases hx1 : x = (b, s, true)
    · rw [if_pos hx1] at hx
      by_cases hy1 : y = (b, s, true)
      · rw [hx1, hy1]
      · rw [if_neg hy1] at hy
        by_cases hy2 : y = (b, s, false)
        · rw [if_pos hy2] at hy
          exact absurd hy (n12 g hx)
        · rw [if_neg hy2] at hy
          exact absurd hx (n1 y g hy1 hy)
    · rw [if_neg hx1] at hx
      by_cases hx2 : x = (b, s, false)
      · rw [if_pos hx2] at hx
        by_cases hy1 : y = (b, s, true)
        · rw [if_pos hy1] at hy
          exact absurd hx (n12 g hy)
        · rw [if_neg hy1] at hy
          by_cases hy2 : y = (b, s, false)
          · rw [hx2, hy2]
          · rw [if_neg hy2] at hy
            exact absurd hx (n2 y g hy2 hy)
      · rw [if_neg hx2] at hx
        by_cases hy1 : y = (b, s, true)
        · rw [if_pos hy1] at hy
          exact absurd hy (n1 x g hx1 hx)
        · rw [if_neg hy1] at hy
          by_cases hy2 : y = (b, s, false)
          · rw [if_pos hy2] at hy
            exact absurd hy (n2 x g hx2 hx)
          · rw [if_neg hy2] at hy
            exact h.apart x y g hx hy

theorem rlF_skip (g : Gb) (n : Nat) {C : List Chg} {k : Nat} (h : k < C.length) (hno : okS g (C[k]?.getD default).b (C[k]?.getD default).s = false) : rlF g n (C.take (k + 1)) = rlF g n (C.take k) := by
  funext x
  rw [rlF_take g n h, hno]
  simp
theorem rlF_step (g : Gb) (n : Nat) {C : List Chg} {k : Nat} (h : k < C.length) {b s : Int} {gen kill : List Int} (hc : C[k]?.getD default = ⟨b, s, gen, kill⟩) (hok : okS g b s = true) :
    rlF g n (C.take (k + 1)) = fun x => if x = (b, s, true) then rlF g n (C.take k) (b, s, true) ++ okF n gen else if x = (b, s, false) then rlF g n (C.take k) (b, s, false) ++ okF n kill else rlF g n (C.take k) x := by
  funext x
  rw [rlF_take g n h, hc]
  simp only [hok, Bool.true_and]
  obtain ⟨x1, x2, x3⟩ := x
  by_cases h1 : b = x1
  · subst h1
    by_cases h2 : s = x2
    · subst h2
      cases x3 <;> simp
    · have h2' : ¬ x2 = s := fun e => h2 e.symm
      simp [h2, h2']
  · have h1' : ¬ x1 = b := fun e => h1 e.symm
    simp [h1, h1']
theorem below_put {B : Nat} {a w : World} (h : Below B a w) {r : Nat} (hr : B ≤ r) (o : Obj) : Below B a (w.putObj r o) :=
  h.trans ⟨rfl, rfl, rfl, by simp, fun k hk => World.putObj_heap_other (fun e => by omega)⟩

end Go.Proofs.Ytfpdecjlfnambaa
