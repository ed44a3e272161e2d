/-
  line of package code. Conditions: the builder is one that this call has made; the table of powers of ten lies in its place.
-/
import Derived.Test.YtobhfmliaecbjaaDoorStr
import Derived.Test.YtobhfmliaecbjaaDoorView
namespace Go.Proofs.YtobhfmliaecbjaaDoor
open Go.RowKit

/-- the bytes of a builder's frame: below B all stands, above it all but the builder and rows of bytes -/
structure Kp (B b : Nat) (w w' : World) : Prop where
  below : Below B w w'
  others : Lib.OthersKept 5 (some b) w w'
theorem Kp.refl (B b : Nat) (w : World) : Kp B b w w := ⟨Below.refl _ _, Lib.OthersKept.refl _ _ _⟩
theorem Kp.trans {B b : Nat} {a c d : World} (h : Kp B b a c) (k : Kp B b c d) : Kp B b a d := ⟨h.below.trans k.below, h.others.trans k.others⟩
theorem Kp.of_below {B b : Nat} {w w' : World} (h : Below w.heap.size w w') (hB : B ≤ w.heap.size) : Kp B b w w' :=
  ⟨h.mono hB, fun k _ hk _ _ => (h.block k (Array.getElem?_eq_some_iff.1 hk).1).trans hk⟩

theorem builder_below {B b : Nat} {bs : List Value} {w w' : World} (h : Lib.IsBuilderF 64 5 B b bs w) (hb : Below w.heap.size w w') : Lib.IsBuilderF 64 5 B b bs w' := by
  have at_ : ∀ p, Lib.BuilderAtF 64 5 B b p bs w → Lib.BuilderAtF 64 5 B b p bs w' := fun p ⟨h1, v, h2, h3, h4⟩ => by
    refine ⟨h1, v, (hb.block _ (Array.getElem?_eq_some_iff.1 h2).1).trans h2, ⟨h3.1, ?_⟩, h4⟩
    rcases h3.2 with hn | ⟨g, cap, cur, fz, hv, hB, hg, rest⟩
    · exact .inl hn
    · exact .inr ⟨g, cap, cur, fz, hv, hB, (hb.block _ (Array.getElem?_eq_some_iff.1 hg).1).trans hg, rest⟩
  exact h.elim (fun x => .inl (at_ _ x)) (fun x => .inr (at_ _ x))

/-- the numbers of a slice that the builder's writes leave alone -/
def NumsV (B : Nat) (w : World) (v : Value) (l : List Int) : Prop :=
  ∃ oa cap b off, v = .slice oa l.length cap ∧ l.length ≤ cap ∧ cap ≤ maxLen ∧ (0 < l.length → oa = some ⟨b, off, none⟩ ∧ b < w.heap.size ∧ (b < B ∨ ∃ c f, w.heap[b]? = some (.cells c 3 f))) ∧ ∀ i z, l[i]? = some z → w.cell? ⟨b, off + i, none⟩ = some (.int .i64 z)

theorem kp_block {B b : Nat} {bs : List Value} {w w' : World} (h : Kp B b w w') (hb : Lib.IsBuilderF 64 5 B b bs w) {k : Nat} {c : Array Value} {t : TypeId} {f : Nat × Nat} (hk : w.heap[k]? = some (.cells c t f)) (ht : t ≠ 64) (ht5 : t ≠ 5) : w'.heap[k]? = some (.cells c t f) := by
  refine h.others k _ hk (fun e => ?_) (fun c' fz e => ?_)
  · cases Option.some.inj e
    rcases hb with ⟨_, v, h2, _⟩ | ⟨_, v, h2, _⟩
    · rw [hk] at h2; simp at h2; exact ht h2.2.1
    · rw [hk] at h2; simp at h2; exact ht h2.2.1
  · cases e
    exact ht5 rfl

theorem NumsV.keep {B b : Nat} {bs : List Value} {w w' : World} {v : Value} {l : List Int} (h : NumsV B w v l) (hk : Kp B b w w') (hb : Lib.IsBuilderF 64 5 B b bs w) : NumsV B w' v l := by
  obtain ⟨oa, cap, k, off, rfl, h1, h2, h3, h4⟩ := h
  have hsz := hk.below.size
  have cell : ∀ i z, l[i]? = some z → w'.heap[k]? = w.heap[k]? := fun i z hz => by
    obtain ⟨_, _, h5⟩ := h3 (by have := (List.getElem?_eq_some_iff.1 hz).1; omega)
    rcases h5 with h5 | ⟨c, f, h5⟩
    · exact hk.below.block k h5
    · rw [kp_block hk hb h5 (by decide) (by decide), h5]
  refine ⟨oa, cap, k, off, rfl, h1, h2, fun h0 => ?_, fun i z hz => ?_⟩
  · obtain ⟨g1, g2, g3⟩ := h3 h0
    refine ⟨g1, by omega, ?_⟩
    rcases g3 with g3 | ⟨c, f, g3⟩
    · exact .inl g3
    · exact .inr ⟨c, f, kp_block hk hb g3 (by decide) (by decide)⟩
  · have := h4 i z hz
    simp only [World.cell?, cell i z hz] at this ⊢
    exact this
theorem NumsV.below {B : Nat} {w w' : World} {v : Value} {l : List Int} (h : NumsV B w v l) (hb : Below w.heap.size w w') : NumsV B w' v l := by
  obtain ⟨oa, cap, k, off, rfl, h1, h2, h3, h4⟩ := h
  refine ⟨oa, cap, k, off, rfl, h1, h2, fun h0 => ?_, fun i z hz => ?_⟩
  · obtain ⟨g1, g2, g3⟩ := h3 h0
    refine ⟨g1, Nat.lt_of_lt_of_le g2 hb.size, ?_⟩
    rcases g3 with g3 | ⟨c, f, g3⟩
    · exact .inl g3
    · exact .inr ⟨c, f, (hb.block k g2).trans g3⟩
  · exact (hb.cell (p := ⟨k, off + i, none⟩) (h3 (by have := (List.getElem?_eq_some_iff.1 hz).1; omega)).2.1).trans (h4 i z hz)

/-- The table of powers of ten lies where the program's text laid it. -/
def PowAt (w : World) : Prop := Lib.TabIs Tryd.prog w "internal/strconv.uint64pow10" .u64 Lib.pow10Tab
theorem powNamed : ∃ g, Tryd.prog.globalNamed "internal/strconv.uint64pow10" = some g ∧ g < 4 := ⟨1, by kernel_rfl, by decide⟩
theorem PowAt.below {w w' : World} {B : Nat} (h : PowAt w) (hb : Below B w w') (hB : 4 ≤ B) : PowAt w' := by
  obtain ⟨g, hg, hlt⟩ := powNamed
  unfold PowAt Lib.TabIs World.var? at *
  rw [hg] at h ⊢
  simp only [Option.bind_some] at h ⊢
  rw [hb.block g (by omega)]
  exact h

def lineB (word : List UInt8) (l : List Int) : List UInt8 := word ++ (l.flatMap fun n => 32 :: Lib.itoa n) ++ [10]
def I64 (l : List Int) : Prop := ∀ n ∈ l, -9223372036854775808 ≤ n ∧ n ≤ 9223372036854775807

theorem flat_len (l : List Int) (h : I64 l) : (l.flatMap fun n => (32 : UInt8) :: Lib.itoa n).length ≤ 22 * l.length := by
  induction l with
  | nil => simp
  | cons n l ih =>
    have h1 := Lib.itoa_length_le n (h n (by simp)).1 (h n (by simp)).2
    have h2 := ih (fun m hm => h m (by simp [hm]))
    simp only [List.flatMap_cons, List.length_append, List.length_cons]
    omega
theorem lineB_len (word : List UInt8) (l : List Int) (h : I64 l) : (lineB word l).length ≤ word.length + 22 * l.length + 1 := by
  have := flat_len l h
  simp only [lineB, List.length_append, List.length_singleton]
  omega

set_option maxRecDepth 100000 in
set_option maxHeartbeats 3000000 in
theorem line_any (B b : Nat) (bs : List UInt8) (word : ByteArray) (v : Value) (l : List Int) (w : World) (h : Lib.IsBuilderF 64 5 B b (Lib.byteCells bs) w) (hN : NumsV B w v l) (hI : I64 l) (hP : PowAt w) (hB4 : 4 ≤ B) (hBw : B ≤ w.heap.size) (hlen : bs.length + word.size + 22 * l.length + 1 ≤ 100000000) :
    Calls Tryd.prog 36 #[.pointer (some ⟨b, 0, none⟩), .string word, v] w fun e w' => e = .returned (.tuple #[]) ∧ Lib.IsBuilderF 64 5 B b (Lib.byteCells (bs ++ lineB word.data.toList l)) w' ∧ Kp B b w w' := by
  have hN' := hN
  obtain ⟨oa, cap, k, off, rfl, hn1, hn2, hn3, hn4⟩ := hN
  replace hn3 := Lib.hid (show 0 < l.length → oa = some ⟨k, off, none⟩ from fun h => (hn3 h).1)
  have HN := Lib.hid hN'
  have HI := Lib.hid hI
  have HP := Lib.hid hP
  have HH := Lib.hid h
  have hws : word.size = word.data.toList.length := (Array.length_toList).symm
  replace hws := Lib.hid hws
  clear hN' hI hP hn4 h
  go_enter Tryd.func36, Tryd.ntmps36
  go_wp2_with fail
  refine (writeString_any B b _ word _ HH.out (by rw [Lib.byteCells_length]; omega) hBw).mono ?_
  rintro e w1 ⟨rfl, h1, hb1, hk1⟩
  have K1 : Kp B b w w1 := ⟨hb1, hk1⟩
  have H1 : Lib.IsBuilderF 64 5 B b (Lib.byteCells (bs ++ word.data.toList)) w1 := by rw [Lib.byteCells_append, ← Lib.strCells_eq]; exact .inr h1
  clear h1 hb1 hk1
  go_wp2_with fail
  go_loopw [13] (fun u wr => ∃ j : Nat, j ≤ l.length ∧ u = .int .i64 j ∧ Lib.IsBuilderF 64 5 B b (Lib.byteCells (bs ++ word.data.toList ++ (l.take j).flatMap fun n => 32 :: Lib.itoa n)) wr ∧ Kp B b w wr) (fun u _ => l.length - (intOf u).toNat)
  case atStart => exact ⟨0, by omega, rfl, by simpa using H1, K1⟩
  case round =>
    clear H1 K1
    obtain ⟨j, hj, rfl, H, K⟩ := hrel
    have hBr : B ≤ wr.heap.size := Nat.le_trans hBw K.below.size
    have hfl : ((l.take j).flatMap fun n => (32 : UInt8) :: Lib.itoa n).length ≤ 22 * j := by
      have := flat_len (l.take j) (fun n hn => HI.out n (List.mem_of_mem_take hn))
      rw [List.length_take] at this
      omega
    obtain ⟨pre, hpre⟩ : ∃ pre, pre = bs ++ word.data.toList ++ (l.take j).flatMap fun n => (32 : UInt8) :: Lib.itoa n := ⟨_, rfl⟩
    have hprel : pre.length ≤ bs.length + word.size + 22 * j := by rw [hpre, hws.out]; simp only [List.length_append]; omega
    rw [← hpre] at H
    have HPRE := Lib.hid hpre
    clear hpre hfl
    by_cases hjl : j < l.length
    · have t1 : decide ((j : Int) < l.length) = true := by simpa using hjl
      obtain rfl := hn3.out (by omega)
      obtain ⟨n, hnz⟩ : ∃ n, l[j]? = some n := ⟨_, List.getElem?_eq_getElem hjl⟩
      have hmem := List.mem_of_getElem? hnz
      obtain ⟨p0, p1⟩ := HI.out n hmem
      have hNr := HN.out.keep K HH.out
      have g0 : wr.cell? ⟨k, off + j, none⟩ = some (.int .i64 n) := by
        obtain ⟨oa', cap', k', off', e, _, _, h3, h4⟩ := hNr
        cases e
        cases (h3 (by omega)).1
        exact h4 j n hnz
      have HTK := Lib.hid (take_snoc l j n hnz)
      have hitl := Lib.itoa_length_le n p0 p1
      clear hnz hmem hNr
      go_wp2_with fail
      refine (writeByte_any B b _ 32 _ H (by rw [Lib.byteCells_length]; omega) hBr).mono ?_
      rintro e w2 ⟨rfl, h2, hb2, hk2⟩
      have K2 : Kp B b w w2 := K.trans ⟨hb2, hk2⟩
      have H2 : Lib.IsBuilderF 64 5 B b (Lib.byteCells (pre ++ [32])) w2 := by rw [Lib.byteCells_append]; exact .inr h2
      clear h2 hb2 hk2 K H g0
      go_wp2_with fail
      refine (Tryd.strconv_Itoa n p0 p1 _ (HP.out.below K2.below hB4)).mono ?_
      rintro e w3 ⟨rfl, q, os, rfl⟩
      have hg := Lib.below_grow w2.heap.size w2 (Nat.le_refl _) q os
      have K3 : Kp B b w (Sort.grow (w2.drewN q) os) := K2.trans (Kp.of_below hg (Nat.le_trans hBw K2.below.size))
      have H3 := builder_below H2 hg
      clear K2 H2 hg
      generalize Sort.grow (w2.drewN q) os = w3 at K3 H3 ⊢
      go_wp2_with fail
      refine (writeString_any B b _ ⟨(Lib.itoa n).toArray⟩ _ H3 (by rw [Lib.byteCells_length, List.length_append, List.length_singleton]; show _ + (Lib.itoa n).toArray.size ≤ _; simp; omega) (Nat.le_trans hBw K3.below.size)).mono ?_
      rintro e w4 ⟨rfl, h4, hb4, hk4⟩
      have K4 : Kp B b w w4 := K3.trans ⟨hb4, hk4⟩
      have H4 : Lib.IsBuilderF 64 5 B b (Lib.byteCells (pre ++ [32] ++ Lib.itoa n)) w4 := by rw [Lib.byteCells_append]; exact .inr h4
      clear h4 hb4 hk4 K3 H3
      go_wp2
      go_roundw
      case rel =>
        refine ⟨j + 1, by omega, by go_num, ?_, K4⟩
        rw [HTK.out, List.flatMap_append, List.flatMap_singleton, ← List.append_assoc, ← HPRE.out]
        simpa using H4
      case measure => simp [intOf]; omega
    · have t1 : decide ((j : Int) < l.length) = false := by simpa using hjl
      obtain rfl : j = l.length := by omega
      go_wp2_with fail
      refine (writeByte_any B b _ 10 _ H (by rw [Lib.byteCells_length]; omega) hBr).mono ?_
      rintro e w2 ⟨rfl, h2, hb2, hk2⟩
      have K2 : Kp B b w w2 := K.trans ⟨hb2, hk2⟩
      have H2 : Lib.IsBuilderF 64 5 B b (Lib.byteCells (bs ++ lineB word.data.toList l)) w2 := by
        have e : bs ++ lineB word.data.toList l = pre ++ [10] := by rw [HPRE.out, List.take_length, lineB]; simp
        rw [e, Lib.byteCells_append]; exact .inr h2
      go_wp2
      go_end0
      exact ⟨rfl, H2, K2⟩
end Go.Proofs.YtobhfmliaecbjaaDoor
