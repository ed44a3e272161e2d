/-
  A program that a law builds: its rows, and what leaves them alone. No conditions: lemmas.
-/
import Derived.Test.YtobhfmliaecbjaaDoorText
namespace Go.Proofs.YtobhfmliaecbjaaDoor
open Go.RowKit

def cellsI (p : In × Value) : List Value := [.int .i64 p.1.op, .int .i64 p.1.a, .int .i64 p.1.b, .int .i64 p.1.c, p.2]
def cellsF (fl : List (In × Value)) : List Value := fl.flatMap cellsI
theorem cellsF_len (fl : List (In × Value)) : (cellsF fl).length = fl.length * 5 := by
  induction fl with
  | nil => rfl
  | cons p fl ih => simp only [cellsF, List.flatMap_cons, List.length_append, List.length_cons] at ih ⊢; simp only [cellsI, List.length_cons, List.length_nil]; omega
theorem cellsF_get (fl : List (In × Value)) : ∀ (i j : Nat) (p : In × Value), fl[i]? = some p → j < 5 → (cellsF fl)[i * 5 + j]? = (cellsI p)[j]? := by
  induction fl with
  | nil => intro i j p h; simp at h
  | cons x fl ih =>
    intro i j p h hj
    have e : cellsF (x :: fl) = cellsI x ++ cellsF fl := rfl
    have hl : (cellsI x).length = 5 := rfl
    cases i with
    | zero =>
      simp at h
      subst h
      rw [e, List.getElem?_append_left (by omega)]
      simp
    | succ i =>
      simp at h
      rw [e, List.getElem?_append_right (by omega), hl, show (i + 1) * 5 + j - 5 = i * 5 + j from by omega]
      exact ih i j p h hj
theorem cellsF_at (fl : List (In × Value)) (k : Nat) : (cellsF fl)[k]? = (fl[k / 5]?).bind fun p => (cellsI p)[k % 5]? := by
  by_cases h : k / 5 < fl.length
  · have := cellsF_get fl (k / 5) (k % 5) fl[k / 5] (List.getElem?_eq_getElem h) (Nat.mod_lt _ (by omega))
    rw [show k / 5 * 5 + k % 5 = k from by omega] at this
    rw [this, List.getElem?_eq_getElem h]
    rfl
  · rw [List.getElem?_eq_none (by rw [cellsF_len]; omega), List.getElem?_eq_none (by omega)]
    rfl
theorem cellsF_set (fl : List (In × Value)) (n : Nat) (hn : n < fl.length) (p : In × Value) :
    (((((cellsF fl).set (n * 5) (.int .i64 p.1.op)).set (n * 5 + 1) (.int .i64 p.1.a)).set (n * 5 + 2) (.int .i64 p.1.b)).set (n * 5 + 3) (.int .i64 p.1.c)).set (n * 5 + 4) p.2 = cellsF (fl.set n p) := by
  apply List.ext_getElem?
  intro i
  have hlen := cellsF_len fl
  simp only [List.getElem?_set, List.length_set, cellsF_at (fl.set n p)]
  by_cases h : n = i / 5
  · have hi : i = n * 5 + i % 5 := by omega
    have h5 : i % 5 < 5 := Nat.mod_lt _ (by omega)
    have hin : i < (cellsF fl).length := by omega
    rw [if_pos h, if_pos hn]
    simp only [Option.bind_some, cellsI]
    generalize i % 5 = r at hi h5
    subst hi
    match r, h5 with
    | 0, _ => simp; omega
    | 1, _ => simp; omega
    | 2, _ => simp; omega
    | 3, _ => simp; omega
    | 4, _ => simp; omega
  · rw [if_neg h, if_neg (by omega), if_neg (by omega), if_neg (by omega), if_neg (by omega), if_neg (by omega), cellsF_at fl]

/-- blocks below B stand, and rows of numbers and of instructions -/
structure KQ (B : Nat) (w w' : World) : Prop where
  os : w'.os = w.os
  tape : w'.tape = w.tape
  output : w'.output = w.output
  size : w.heap.size ≤ w'.heap.size
  block : ∀ b, b < w.heap.size → (b < B ∨ ∃ c t f, w.heap[b]? = some (.cells c t f) ∧ (t = 3 ∨ t = 25)) → w'.heap[b]? = w.heap[b]?
theorem KQ.of_below {B : Nat} {w w' : World} (h : Below w.heap.size w w') : KQ B w w' := ⟨h.os, h.tape, h.output, h.size, fun b hb _ => h.block b hb⟩
theorem KQ.trans {B : Nat} {a b c : World} (h : KQ B a b) (k : KQ B b c) : KQ B a c := by
  refine ⟨k.os.trans h.os, k.tape.trans h.tape, k.output.trans h.output, Nat.le_trans h.size k.size, fun i hi hc => ?_⟩
  have e := h.block i hi hc
  refine (k.block i (Nat.lt_of_lt_of_le hi h.size) ?_).trans e
  rcases hc with h1 | ⟨c, t, f, h1, h2⟩
  · exact .inl h1
  · exact .inr ⟨c, t, f, e.trans h1, h2⟩
theorem KQ.below {B : Nat} {w w' : World} (h : KQ B w w') (hB : B ≤ w.heap.size) : Below B w w' := ⟨h.os, h.tape, h.output, h.size, fun b hb => h.block b (by omega) (.inl hb)⟩
theorem KQ.setCell {B : Nat} {w : World} {a : Addr} {c : Array Value} {t : TypeId} {f : Nat × Nat} (hB : B ≤ a.block) (ha : w.heap[a.block]? = some (.cells c t f)) (ht : t ≠ 3 ∧ t ≠ 25) (v : Value) : KQ B w (w.setCell a v) := by
  refine ⟨rfl, rfl, rfl, by simp [World.setCell], fun b hb hc => Below.heap_setCell w a v b fun e => ?_⟩
  subst e
  rcases hc with h1 | ⟨c', t', f', h1, h2⟩
  · omega
  · rw [ha] at h1
    simp at h1
    rw [← h1.2.1] at h2
    rcases h2 with h2 | h2
    · exact ht.1 h2
    · exact ht.2 h2
theorem KQ.grown {B base e size n : Nat} {w w' : World} {v : Value} {xs : List Value} (h : w.ownsRow base e size v n xs) (hB : B ≤ base) (he : e ≠ 3 ∧ e ≠ 25) (hg : w.grownBy w' v.ownBlock) : KQ B w w' := by
  refine ⟨hg.os, hg.tape, hg.output, hg.size, fun b hb hc => hg.block b hb ?_⟩
  rcases h.2 with ⟨rfl, _⟩ | ⟨g, cap, cur, rfl, hbb, hgg, _⟩
  · simp [Value.ownBlock]
  · simp only [Value.ownBlock, ne_eq, Option.some.injEq]
    rintro rfl
    rcases hc with h1 | ⟨c', t', f', h1, h2⟩
    · omega
    · rw [hgg] at h1
      simp at h1
      rw [← h1.2.1] at h2
      rcases h2 with h2 | h2
      · exact he.1 h2
      · exact he.2 h2

theorem NumsV.kq {B : Nat} {w w' : World} {v : Value} {l : List Int} (h : NumsV B w v l) (hk : KQ B w w') : NumsV B w' v l := by
  obtain ⟨oa, cap, k, off, rfl, h1, h2, h3, h4⟩ := h
  have cell : ∀ (i : Nat) (z : Int), l[i]? = some z → w'.heap[k]? = w.heap[k]? := fun i z hz => by
    obtain ⟨_, h6, h5⟩ := h3 (by have := (List.getElem?_eq_some_iff.1 hz).1; omega)
    refine hk.block k h6 ?_
    rcases h5 with h5 | ⟨c, f, h5⟩
    · exact .inl h5
    · exact .inr ⟨c, 3, f, h5, .inl rfl⟩
  refine ⟨oa, cap, k, off, rfl, h1, h2, fun h0 => ?_, fun i z hz => ?_⟩
  · obtain ⟨g1, g2, g3⟩ := h3 h0
    refine ⟨g1, Nat.lt_of_lt_of_le g2 hk.size, ?_⟩
    rcases g3 with g3 | ⟨c, f, g3⟩
    · exact .inl g3
    · exact .inr ⟨c, f, (hk.block k g2 (.inr ⟨c, 3, f, g3, .inl rfl⟩)).trans g3⟩
  · have := h4 i z hz
    simp only [World.cell?, cell i z hz] at this ⊢
    exact this
theorem NumsV.ints {B : Nat} {w : World} {v : Value} {l : List Int} (h : NumsV B w v l) : IntsV w v l := by
  obtain ⟨oa, cap, k, off, rfl, h1, h2, h3, h4⟩ := h
  exact ⟨oa, cap, k, off, rfl, h1, h2, fun h => ⟨(h3 h).1, (h3 h).2.1⟩, h4⟩
theorem IntsV.nums {B : Nat} {w : World} {v : Value} {l : List Int} (h : IntsV w v l) (hB : w.heap.size ≤ B) : NumsV B w v l := by
  obtain ⟨oa, cap, k, off, rfl, h1, h2, h3, h4⟩ := h
  exact ⟨oa, cap, k, off, rfl, h1, h2, fun h => ⟨(h3 h).1, (h3 h).2, .inl (by have := (h3 h).2; omega)⟩, h4⟩

/-- a function whose row is of instructions, or lies below B -/
def FunO (B : Nat) (w : World) (v : Value) (f : List In) : Prop :=
  ∃ oa cap b off, v = .slice oa f.length cap ∧ f.length ≤ cap ∧ cap ≤ maxLen ∧ (0 < f.length → oa = some ⟨b, off, none⟩ ∧ b < w.heap.size ∧ (b < B ∨ ∃ c fz, w.heap[b]? = some (.cells c 25 fz))) ∧
    ∀ i x, f[i]? = some x → ∃ lv, (∀ j u, (cellsI (x, lv))[j]? = some u → w.cell? ⟨b, off + i * 5 + j, none⟩ = some u) ∧ NumsV B w lv x.l
theorem FunO.kq {B : Nat} {w w' : World} {v : Value} {f : List In} (h : FunO B w v f) (hk : KQ B w w') : FunO B w' v f := by
  obtain ⟨oa, cap, b, off, rfl, h1, h2, h3, h4⟩ := h
  have blk : 0 < f.length → w'.heap[b]? = w.heap[b]? := fun h0 => by
    obtain ⟨_, g2, g3⟩ := h3 h0
    refine hk.block b g2 ?_
    rcases g3 with g3 | ⟨c, fz, g3⟩
    · exact .inl g3
    · exact .inr ⟨c, 25, fz, g3, .inr rfl⟩
  refine ⟨oa, cap, b, off, rfl, h1, h2, fun h0 => ?_, fun i x hx => ?_⟩
  · obtain ⟨g1, g2, g3⟩ := h3 h0
    refine ⟨g1, Nat.lt_of_lt_of_le g2 hk.size, ?_⟩
    rcases g3 with g3 | ⟨c, fz, g3⟩
    · exact .inl g3
    · exact .inr ⟨c, fz, (blk h0).trans g3⟩
  · obtain ⟨lv, g, hN⟩ := h4 i x hx
    refine ⟨lv, fun j u hu => ?_, hN.kq hk⟩
    have := g j u hu
    simp only [World.cell?, blk (by have := (List.getElem?_eq_some_iff.1 hx).1; omega)] at this ⊢
    exact this
theorem FunO.funV {B : Nat} {w : World} {v : Value} {f : List In} (h : FunO B w v f) : FunV w v f := by
  obtain ⟨oa, cap, b, off, rfl, h1, h2, h3, h4⟩ := h
  refine ⟨oa, cap, b, off, rfl, h1, h2, fun h => ⟨(h3 h).1, (h3 h).2.1⟩, fun i x hx => ?_⟩
  obtain ⟨lv, g, hN⟩ := h4 i x hx
  exact ⟨lv, g 0 _ rfl, g 1 _ rfl, g 2 _ rfl, g 3 _ rfl, g 4 _ rfl, hN.ints⟩
/-- a row of instructions that a law owns is a function -/
theorem FunO.own {B base : Nat} {w : World} {v : Value} {fl : List (In × Value)} (h : w.ownsRow base 25 5 v fl.length (cellsF fl)) (hN : ∀ p ∈ fl, NumsV B w p.2 p.1.l) : FunO B w v (fl.map Prod.fst) := by
  rcases h.2 with ⟨rfl, h0⟩ | ⟨g, cap, cur, rfl, hb, hg, hn, hm, hs, ht⟩
  · have : fl = [] := by cases fl; rfl; simp at h0
    subst this
    exact ⟨none, 0, 0, 0, rfl, Nat.le_refl _, Nat.zero_le _, fun h => absurd h (Nat.lt_irrefl _), fun i z hz => by simp at hz⟩
  · refine ⟨_, cap, g, 0, by rw [List.length_map], by rw [List.length_map]; exact hn, hm, fun _ => ⟨rfl, (Array.getElem?_eq_some_iff.1 hg).1, .inr ⟨_, _, hg⟩⟩, fun i x hx => ?_⟩
    rw [List.getElem?_map] at hx
    obtain ⟨p, hp, rfl⟩ := Option.map_eq_some_iff.1 hx
    have hi : i < fl.length := (List.getElem?_eq_some_iff.1 hp).1
    refine ⟨p.2, fun j u hu => ?_, hN p (List.mem_of_getElem? hp)⟩
    have hj : j < 5 := (List.getElem?_eq_some_iff.1 hu).1
    have e := cellsF_get fl i j p hp hj
    rw [← ht, List.getElem?_take_of_lt (by omega)] at e
    simp only [World.cell?, hg, Nat.zero_add]
    rw [← Array.getElem?_toList, e]
    exact hu

/-- a function that came in, with the labels' values -/
theorem FunV.pairs {w : World} {f : List In} {b off B : Nat} (h : ∀ i x, f[i]? = some x → InC w b (off + i * 5) x) (hB : w.heap.size ≤ B) :
    ∃ fl : List (In × Value), fl.map Prod.fst = f ∧ (∀ i p, fl[i]? = some p → ∀ j u, (cellsI p)[j]? = some u → w.cell? ⟨b, off + i * 5 + j, none⟩ = some u) ∧ (∀ p ∈ fl, NumsV B w p.2 p.1.l) := by
  have key : ∀ n, n ≤ f.length → ∃ fl : List (In × Value), fl.map Prod.fst = f.take n ∧ (∀ i p, fl[i]? = some p → ∀ j u, (cellsI p)[j]? = some u → w.cell? ⟨b, off + i * 5 + j, none⟩ = some u) ∧ (∀ p ∈ fl, NumsV B w p.2 p.1.l) := fun n => by
    induction n with
    | zero => intro _; exact ⟨[], by simp, fun i p hp => by simp at hp, fun p hp => by simp at hp⟩
    | succ n ih =>
      intro hn
      obtain ⟨fl, h1, h2, h3⟩ := ih (by omega)
      obtain ⟨x, hx⟩ : ∃ x, f[n]? = some x := ⟨_, List.getElem?_eq_getElem (by omega)⟩
      obtain ⟨lv, g0, g1, g2, g3, g4, hI⟩ := h n x hx
      have hl : fl.length = n := by have := congrArg List.length h1; rw [List.length_map, List.length_take] at this; omega
      refine ⟨fl ++ [(x, lv)], by rw [List.map_append, h1, take_snoc f n x hx]; rfl, fun i p hp j u hu => ?_, fun p hp => ?_⟩
      · by_cases hi : i < n
        · rw [List.getElem?_append_left (by omega)] at hp
          exact h2 i p hp j u hu
        · rw [List.getElem?_append_right (by omega)] at hp
          by_cases hin : i = n
          · subst hin
            rw [hl, Nat.sub_self] at hp
            simp at hp
            subst hp
            have hj : j < 5 := (List.getElem?_eq_some_iff.1 hu).1
            match j, hj, hu with
            | 0, _, hu => simp [cellsI] at hu; rw [← hu]; exact g0
            | 1, _, hu => simp [cellsI] at hu; rw [← hu]; exact g1
            | 2, _, hu => simp [cellsI] at hu; rw [← hu]; exact g2
            | 3, _, hu => simp [cellsI] at hu; rw [← hu]; exact g3
            | 4, _, hu => simp [cellsI] at hu; rw [← hu]; exact g4
          · rw [List.getElem?_eq_none (by simp; omega)] at hp
            cases hp
      · rcases List.mem_append.1 hp with h | h
        · exact h3 p h
        · simp at h; subst h; exact hI.nums hB
  obtain ⟨fl, h1, h2, h3⟩ := key f.length (Nat.le_refl _)
  exact ⟨fl, by rw [h1, List.take_length], h2, h3⟩
theorem pairs_news {w : World} {b off : Nat} {fl : List (In × Value)} (h : ∀ i p, fl[i]? = some p → ∀ j u, (cellsI p)[j]? = some u → w.cell? ⟨b, off + i * 5 + j, none⟩ = some u) : ∀ k u, (cellsF fl)[k]? = some u → w.cell? ((⟨b, off, none⟩ : Addr).add k) = some u := fun k u hu => by
  have e : ((⟨b, off, none⟩ : Addr).add k) = ⟨b, off + k, none⟩ := by unfold Addr.add; split <;> simp_all
  rw [e]
  rw [cellsF_at] at hu
  obtain ⟨p, hp, hu⟩ := Option.bind_eq_some_iff.1 hu
  have := h (k / 5) p hp (k % 5) u hu
  rwa [show off + k / 5 * 5 + k % 5 = off + k from by omega] at this
theorem nums_one {B : Nat} {w : World} {v : Value} {l : List Int} (h : NumsV B w v l) : v.oneCell' = true := by
  obtain ⟨oa, cap, k, off, rfl, _⟩ := h
  rfl
theorem cells_one {B : Nat} {w : World} {fl : List (In × Value)} (h : ∀ p ∈ fl, NumsV B w p.2 p.1.l) : ∀ u ∈ cellsF fl, u.oneCell' = true := fun u hu => by
  obtain ⟨p, hp, hu⟩ := List.mem_flatMap.1 hu
  simp only [cellsI, List.mem_cons, List.not_mem_nil, or_false] at hu
  rcases hu with rfl | rfl | rfl | rfl | rfl
  · rfl
  · rfl
  · rfl
  · rfl
  · exact nums_one (h p hp)

/-- the program that is built: its box, its row of functions, and each function -/
def QAt (B bq : Nat) (w : World) (cv : Value) (fs : List (List In)) : Prop :=
  ∃ vq fvs, w.heap[bq]? = some (.cells #[vq, cv] 35) ∧ w.ownsRow B 39 1 vq fvs.length fvs ∧ fvs.length = fs.length ∧ ∀ (i : Nat) (fv : Value) (f : List In), fvs[i]? = some fv → fs[i]? = some f → FunO B w fv f
theorem QAt.pg {B bq : Nat} {w : World} {cv : Value} {fs : List (List In)} {cs : List Cr} (h : QAt B bq w cv fs) (hc : CosV w cv cs) : ∃ vq, w.heap[bq]? = some (.cells #[vq, cv] 35) ∧ PgV w vq cv ⟨fs, cs⟩ := by
  obtain ⟨vq, fvs, h1, h2, h3, h4⟩ := h
  refine ⟨vq, h1, ?_, hc⟩
  rcases h2.2 with ⟨rfl, h0⟩ | ⟨g, cap, cur, rfl, hb, hg, hn, hm, hs, ht⟩
  · have : fs = [] := List.eq_nil_of_length_eq_zero (by omega)
    subst this
    exact ⟨none, 0, 0, 0, rfl, Nat.le_refl _, Nat.zero_le _, fun h => absurd h (Nat.lt_irrefl _), fun i f hf => by simp at hf⟩
  · refine ⟨_, cap, g, 0, by rw [h3], by show fs.length ≤ cap; omega, hm, fun _ => ⟨rfl, (Array.getElem?_eq_some_iff.1 hg).1⟩, fun i f hf => ?_⟩
    have hi : i < fs.length := (List.getElem?_eq_some_iff.1 hf).1
    obtain ⟨fv, hfv⟩ : ∃ fv, fvs[i]? = some fv := ⟨_, List.getElem?_eq_getElem (by omega)⟩
    refine ⟨fv, ?_, (h4 i fv f hfv hf).funV⟩
    have e : cur.toList[i]? = some fv := by
      have : (cur.toList.take (fvs.length * 1))[i]? = some fv := by rw [ht]; exact hfv
      rwa [List.getElem?_take_of_lt (by omega)] at this
    simp only [World.cell?, hg, Nat.zero_add]
    simpa using e
end Go.Proofs.YtobhfmliaecbjaaDoor
