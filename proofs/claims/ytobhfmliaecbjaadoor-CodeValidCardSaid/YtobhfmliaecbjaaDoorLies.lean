/-
  How a program lies in the heap. No conditions: definitions and small lemmas.
-/
import Derived.Test.YtobhfmliaecbjaaDoorReads
namespace Go.Proofs.YtobhfmliaecbjaaDoor
open Go.RowKit

/-- an instruction in five cells -/
def InC (w : World) (b o : Nat) (x : In) : Prop :=
  ∃ lv, w.cell? ⟨b, o, none⟩ = some (.int .i64 x.op) ∧ w.cell? ⟨b, o + 1, none⟩ = some (.int .i64 x.a) ∧ w.cell? ⟨b, o + 2, none⟩ = some (.int .i64 x.b) ∧ w.cell? ⟨b, o + 3, none⟩ = some (.int .i64 x.c) ∧
    w.cell? ⟨b, o + 4, none⟩ = some lv ∧ IntsV w lv x.l
/-- a function: a slice of instructions -/
def FunV (w : World) (v : Value) (f : List In) : Prop :=
  ∃ oa cap b off, v = .slice oa f.length cap ∧ f.length ≤ cap ∧ cap ≤ maxLen ∧ (0 < f.length → oa = some ⟨b, off, none⟩ ∧ b < w.heap.size) ∧ ∀ i x, f[i]? = some x → InC w b (off + i * 5) x
/-- a slice of functions -/
def FunsV (w : World) (v : Value) (fs : List (List In)) : Prop :=
  ∃ oa cap b off, v = .slice oa fs.length cap ∧ fs.length ≤ cap ∧ cap ≤ maxLen ∧ (0 < fs.length → oa = some ⟨b, off, none⟩ ∧ b < w.heap.size) ∧ ∀ i f, fs[i]? = some f → ∃ fv, w.cell? ⟨b, off + i, none⟩ = some fv ∧ FunV w fv f
/-- a coroutine in five cells -/
def CoC (w : World) (b o : Nat) (c : Cr) : Prop :=
  ∃ s, w.cell? ⟨b, o, none⟩ = some (.string s) ∧ w.cell? ⟨b, o + 1, none⟩ = some (.int .i64 c.re) ∧ w.cell? ⟨b, o + 2, none⟩ = some (.int .i64 c.ca) ∧ w.cell? ⟨b, o + 3, none⟩ = some (.int .i64 c.wo) ∧ w.cell? ⟨b, o + 4, none⟩ = some (.int .i64 c.ar)
/-- a slice of coroutines -/
def CosV (w : World) (v : Value) (cs : List Cr) : Prop :=
  ∃ oa cap b off, v = .slice oa cs.length cap ∧ cs.length ≤ cap ∧ cap ≤ maxLen ∧ (0 < cs.length → oa = some ⟨b, off, none⟩ ∧ b < w.heap.size) ∧ ∀ i c, cs[i]? = some c → CoC w b (off + i * 5) c

section
variable {w w' : World}
theorem InC.below {b o : Nat} {x : In} (h : InC w b o x) (hb : Below w.heap.size w w') : InC w' b o x := by
  obtain ⟨lv, h0, h1, h2, h3, h4, h5⟩ := h
  have hl : b < w.heap.size := World.block_lt_of_cell? w _ h0
  exact ⟨lv, (hb.cell hl).trans h0, (hb.cell hl).trans h1, (hb.cell hl).trans h2, (hb.cell hl).trans h3, (hb.cell hl).trans h4, h5.below hb⟩
theorem FunV.below {v : Value} {f : List In} (h : FunV w v f) (hb : Below w.heap.size w w') : FunV w' v f := by
  obtain ⟨oa, cap, b, off, rfl, h1, h2, h3, h4⟩ := h
  exact ⟨oa, cap, b, off, rfl, h1, h2, fun h => ⟨(h3 h).1, Nat.lt_of_lt_of_le (h3 h).2 hb.size⟩, fun i x hx => (h4 i x hx).below hb⟩
theorem FunsV.below {v : Value} {fs : List (List In)} (h : FunsV w v fs) (hb : Below w.heap.size w w') : FunsV w' v fs := by
  obtain ⟨oa, cap, b, off, rfl, h1, h2, h3, h4⟩ := h
  refine ⟨oa, cap, b, off, rfl, h1, h2, fun h => ⟨(h3 h).1, Nat.lt_of_lt_of_le (h3 h).2 hb.size⟩, fun i f hf => ?_⟩
  obtain ⟨fv, hv, hF⟩ := h4 i f hf
  exact ⟨fv, (hb.cell (World.block_lt_of_cell? w _ hv)).trans hv, hF.below hb⟩
theorem CosV.below {v : Value} {cs : List Cr} (h : CosV w v cs) (hb : Below w.heap.size w w') : CosV w' v cs := by
  obtain ⟨oa, cap, b, off, rfl, h1, h2, h3, h4⟩ := h
  refine ⟨oa, cap, b, off, rfl, h1, h2, fun h => ⟨(h3 h).1, Nat.lt_of_lt_of_le (h3 h).2 hb.size⟩, fun i c hc => ?_⟩
  obtain ⟨s, g0, g1, g2, g3, g4⟩ := h4 i c hc
  have hl : b < w.heap.size := World.block_lt_of_cell? w _ g0
  exact ⟨s, (hb.cell hl).trans g0, (hb.cell hl).trans g1, (hb.cell hl).trans g2, (hb.cell hl).trans g3, (hb.cell hl).trans g4⟩
end

theorem alloc_below (w : World) (o : Obj) : Below w.heap.size w (w.alloc o) := (Below.refl _ _).alloc (Nat.le_refl _) o

/-- a program's value -/
def PgV (w : World) (fv cv : Value) (p : Pg) : Prop := FunsV w fv p.fs ∧ CosV w cv p.cs
theorem PgV.below {w w' : World} {fv cv : Value} {p : Pg} (h : PgV w fv cv p) (hb : Below w.heap.size w w') : PgV w' fv cv p := ⟨h.1.below hb, h.2.below hb⟩

def setK (ks : List Int) (i k : Int) : List Int := if below i ks.length then ks.set i.toNat k else ks
def markAll (ks : List Int) (l : List Int) (k : Int) : List Int := l.foldl (fun ks i => setK ks i k) ks
def kindsL (p : Pg) : List Int := markAll (markAll (List.replicate p.fs.length 0) (p.cs.map Cr.ca) 2) (p.cs.map Cr.re) 1
theorem setK_len (ks : List Int) (i k : Int) : (setK ks i k).length = ks.length := by unfold setK; split <;> simp
theorem markAll_len (l : List Int) (k : Int) : ∀ ks : List Int, (markAll ks l k).length = ks.length := by
  induction l with
  | nil => intro ks; rfl
  | cons i l ih => intro ks; show (markAll (setK ks i k) l k).length = _; rw [ih, setK_len]
theorem kindsL_len (p : Pg) : (kindsL p).length = p.fs.length := by simp [kindsL, markAll_len]
theorem markAll_snoc (ks : List Int) (l : List Int) (i k : Int) : markAll ks (l ++ [i]) k = setK (markAll ks l k) i k := by simp [markAll]

def iv (l : List Int) : Array Value := (l.map (Value.int .i64)).toArray
theorem iv_set (l : List Int) (i : Nat) (k : Int) : (iv l).setIfInBounds i (.int .i64 k) = iv (l.set i k) := by simp [iv, List.map_set]

/-- the kinds lie in block g, their slice in block bk -/
structure KAt (w : World) (bk g : Nat) (ks : List Int) : Prop where
  hdr : w.heap[bk]? = some (.cells #[.slice (some ⟨g, 0, none⟩) ks.length ks.length] 23)
  row : w.heap[g]? = some (.cells (iv ks) 3)

theorem KAt.ne {w : World} {bk g : Nat} {ks : List Int} (h : KAt w bk g ks) : g ≠ bk := fun e => by
  have h1 := h.hdr
  have h2 := h.row
  rw [e] at h2
  rw [h1] at h2
  simp at h2
theorem KAt.next {w w' : World} {bk g : Nat} {ks : List Int} (h : KAt w bk g ks) (hb : Below w.heap.size w w') : KAt w' bk g ks :=
  ⟨(hb.block _ (Array.getElem?_eq_some_iff.1 h.hdr).1).trans h.hdr, (hb.block _ (Array.getElem?_eq_some_iff.1 h.row).1).trans h.row⟩

/-- what the closure leaves: block g alone is another -/
structure Only (g : Nat) (w w' : World) : Prop where
  os : w'.os = w.os
  tape : w'.tape = w.tape
  output : w'.output = w.output
  size : w.heap.size = w'.heap.size
  block : ∀ b, b ≠ g → w'.heap[b]? = w.heap[b]?
theorem Only.refl (g : Nat) (w : World) : Only g w w := ⟨rfl, rfl, rfl, rfl, fun _ _ => rfl⟩
theorem Only.setCell (w : World) (g i : Nat) (v : Value) : Only g w (w.setCell ⟨g, i, none⟩ v) := ⟨rfl, rfl, rfl, by simp [World.setCell], fun b hb => Below.heap_setCell w ⟨g, i, none⟩ v b hb⟩
theorem below_only {B g : Nat} {w0 w w' : World} (h : Below B w0 w) (ho : Only g w w') (hg : B ≤ g) : Below B w0 w' :=
  ⟨ho.os.trans h.os, ho.tape.trans h.tape, ho.output.trans h.output, by rw [← ho.size]; exact h.size, fun b hb => (ho.block b (by omega)).trans (h.block b hb)⟩

theorem kindsMark_any (w : World) (bk g : Nat) (ks : List Int) (f k : Int) (h : KAt w bk g ks) : Calls Tryd.prog 30 #[.int .i64 f, .int .i64 k, .pointer (some ⟨bk, 0, none⟩)] w fun e w' => e = .returned (.tuple #[]) ∧ KAt w' bk g (setK ks f k) ∧ Only g w w' := by
  have c0 : w.cell? ⟨bk, 0, none⟩ = some (.slice (some ⟨g, 0, none⟩) ks.length ks.length) := by simp [World.cell?, h.hdr]
  cases hb : below f ks.length with
  | false =>
    have HB := Lib.hid hb
    clear hb
    go_enter Tryd.func30, Tryd.ntmps30
    go_wp2_with fail
    refine (below_any f _ _).mono ?_
    rintro e w1 ⟨rfl, rfl⟩
    rw [HB.out]
    go_wp2
    go_end0
    exact ⟨rfl, by rw [setK, HB.out]; exact h, Only.refl _ _⟩
  | true =>
    have h01 : 0 ≤ f ∧ f < ks.length := by simpa [below] using hb
    have HB := Lib.hid hb
    clear hb
    obtain ⟨j, rfl⟩ : ∃ j : Nat, f = j := ⟨f.toNat, by omega⟩
    have hj : j < ks.length := by omega
    have c1 : w.cell? ⟨g, j, none⟩ = some (.int .i64 ks[j]) := by simp [World.cell?, h.row, iv, hj]
    have f1 : w.frozen? ⟨g, j, none⟩ = false := by simp [World.frozen?, h.row]
    have hlt := World.block_lt_of_cell? w _ c1
    go_enter Tryd.func30, Tryd.ntmps30
    go_wp2_with fail
    refine (below_any _ _ _).mono ?_
    rintro e w1 ⟨rfl, rfl⟩
    rw [HB.out]
    go_wp2
    go_end0
    refine ⟨rfl, ⟨?_, ?_⟩, Only.setCell _ _ _ _⟩
    · rw [setK_len, (Only.setCell _ g j _).block _ h.ne.symm]
      exact h.hdr
    · rw [setK, if_pos HB.out]
      have := heap_setCell_same _ g j _ 3 (.int .i64 k) h.row
      rw [iv_set] at this
      simpa using this
end Go.Proofs.YtobhfmliaecbjaaDoor
