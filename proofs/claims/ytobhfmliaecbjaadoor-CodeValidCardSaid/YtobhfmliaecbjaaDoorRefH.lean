/-
  shape of the document's own. Conditions: the program and its kinds lie in the heap.
-/
import Derived.Test.YtobhfmliaecbjaaDoorRefI
import Derived.Test.YtobhfmliaecbjaaDoorFn
import Derived.Deep.RegionHeld3
namespace Go.Proofs.YtobhfmliaecbjaaDoor
open Go.RowKit

/-- may a function's instructions be, one by one? -/
structure ShOk (nc : Nat) (ks : List Int) (k : Int) (f : List In) : Prop where
  pos : 0 < f.length
  small : f.length ≤ 65536
  last : ∀ x, f[f.length - 1]? = some x → fallsB x.op = false
  ins : ∀ x, x ∈ f → instrB nc ks k f.length x = true

theorem tab7 : ∀ k : Fin 30, k.val ≠ 26 → (tab.getD k.val ⟨0, 0, 0, 0⟩).f0 ≠ 7 ∧ (tab.getD k.val ⟨0, 0, 0, 0⟩).f1 ≠ 7 ∧ (tab.getD k.val ⟨0, 0, 0, 0⟩).f2 ≠ 7 := by decide
theorem tabL : ∀ k : Fin 30, (tab.getD k.val ⟨0, 0, 0, 0⟩).lb = (if labN k.val = -1 then 2 else labN k.val) := by decide
theorem shp_at {op : Int} (h : known op = true) : ∃ k : Fin 30, op = k.val ∧ shp op = tab.getD k.val ⟨0, 0, 0, 0⟩ := by
  have h01 : 0 ≤ op ∧ op < 30 := by simpa [known] using h
  exact ⟨⟨op.toNat, by omega⟩, by show op = ((op.toNat : Nat) : Int); omega, by rw [shp, if_pos h01.1]⟩
theorem fits_ks (nc : Nat) (ks ks' : List Int) (n f : Int) (hf : f ≠ 7) : fitsB nc ks n f = fitsB nc ks' n f := by
  unfold fitsB
  simp only [hf, if_false]
def labC (N : Int) (len : Nat) : Bool := if 0 ≤ N then decide ((len : Int) = N) else decide (1 ≤ len)
theorem labN_cases (op : Int) : labN op = 0 ∨ labN op = 1 ∨ labN op = -1 := by
  unfold labN; split
  · simp
  · split <;> simp
theorem lab_eq {op : Int} (h : known op = true) (len : Nat) : labB (shp op).lb len = labC (labN op) len := by
  obtain ⟨k, rfl, e⟩ := shp_at h
  have h1 := tabL k
  rw [e, h1]
  rcases labN_cases (k.val : Int) with h2 | h2 | h2 <;> rw [h2] <;> simp [labB, labC] <;> (try rfl) <;> (try (rw [Bool.eq_iff_iff]; simp; try omega))
theorem instr_ref {nc nf : Nat} {ks : List Int} {k n : Int} {x : In} (hl : ks.length = nf) (hk : known x.op = true) :
    instrB nc ks k n x = true ↔ fieldsR nc nf x = true ∧ standsB x.op k = true ∧ labC (labN x.op) x.l.length = true ∧ (∀ l ∈ x.l, 0 ≤ l ∧ l < n) ∧ (x.op = 26 → ks.getD x.b.toNat 0 = 0) := by
  rw [instrB_iff, ← lab_eq hk]
  have hF : fieldsR nc nf x = true ↔ fitsB nc (List.replicate nf 0) x.a (shp x.op).f0 = true ∧ fitsB nc (List.replicate nf 0) x.b (shp x.op).f1 = true ∧ fitsB nc (List.replicate nf 0) x.c (shp x.op).f2 = true := by
    simp only [fieldsR, fldB, Bool.and_eq_true, and_assoc]
  rw [hF]
  by_cases h26 : x.op = 26
  · have e : shp x.op = ⟨1, 7, 0, 0⟩ := by rw [h26]; rfl
    rw [e]
    have h0 : ∀ f, f ≠ 7 → ∀ n, fitsB nc ks n f = fitsB nc (List.replicate nf 0) n f := fun f hf n => fits_ks nc ks _ n f hf
    rw [h0 1 (by decide), h0 0 (by decide), fits7]
    have h7 : fitsB nc ks x.b 7 = (below x.b nf && (ks.getD x.b.toNat 0 == 0)) := by
      unfold fitsB isB
      rw [hl]
      simp
    rw [h7]
    simp only [h26, Bool.and_eq_true, beq_iff_eq, true_implies]
    constructor
    · rintro ⟨-, h1, h2, ⟨h3, h4⟩, h5, h6, h7⟩
      exact ⟨⟨h2, h3, h5⟩, h1, h7, h6, h4⟩
    · rintro ⟨⟨h2, h3, h5⟩, h1, h7, h6, h4⟩
      exact ⟨h26 ▸ hk, h1, h2, ⟨h3, h4⟩, h5, h6, h7⟩
  · obtain ⟨j, hj, e⟩ := shp_at hk
    obtain ⟨a0, a1, a2⟩ := tab7 j (fun h => h26 (by rw [hj, h]; rfl))
    rw [← e] at a0 a1 a2
    rw [fits_ks nc ks (List.replicate nf 0) x.a _ a0, fits_ks nc ks (List.replicate nf 0) x.b _ a1, fits_ks nc ks (List.replicate nf 0) x.c _ a2]
    constructor
    · rintro ⟨-, h1, h2, h3, h5, h6, h7⟩
      exact ⟨⟨h2, h3, h5⟩, h1, h7, h6, fun h => absurd h h26⟩
    · rintro ⟨⟨h2, h3, h5⟩, h1, h7, h6, -⟩
      exact ⟨hk, h1, h2, h3, h5, h6, h7⟩
theorem instr_unknown {nc : Nat} {ks : List Int} {k n : Int} {x : In} (h : known x.op = false) : instrB nc ks k n x = false := by
  simp [instrB, h]

theorem undrew2 {w w' : World} (h : Below w.drew.heap.size w.drew w') : Below w.heap.size w w' := ⟨h.os, h.tape, h.output, h.size, h.block⟩
theorem call_in {nc nf : Nat} {x : In} (h : x.op = 26) (hf : fieldsR nc nf x = true) : 0 ≤ x.b ∧ x.b < nf := by
  have e : shp x.op = ⟨1, 7, 0, 0⟩ := by rw [h]; rfl
  simp only [fieldsR, fldB, e, Bool.and_eq_true] at hf
  have := hf.1.2
  rw [fits7] at this
  exact below_iff.1 this

theorem bx5 {w : World} {k : Nat} {v0 v1 v2 v3 v4 : Value} {t : TypeId} (h : w.heap[k]? = some (.cells #[v0, v1, v2, v3, v4] t)) :
    w.cell? ⟨k, 0, none⟩ = some v0 ∧ w.cell? ⟨k, 1, none⟩ = some v1 ∧ w.cell? ⟨k, 2, none⟩ = some v2 ∧ w.cell? ⟨k, 3, none⟩ = some v3 ∧ w.cell? ⟨k, 4, none⟩ = some v4 := by
  simp [World.cell?, h]

set_option maxRecDepth 100000 in
set_option maxHeartbeats 16000000 in
theorem shape_any (w : World) (fv cv kv : Value) (p : Pg) (hP : PgV w fv cv p) (ks : List Int) (hK : IntsV w kv ks) (hkl : ks.length = p.fs.length) (i : Nat) (f : List In) (hf : p.fs[i]? = some f) (k : Int) (hk : ks[i]? = some k) (hL : ∀ x ∈ f, x.l.length ≤ 9000000000000000000) :
    Calls Tryd.prog 34 #[.agg #[fv, cv], kv, .int .i64 i] w fun e w' => ∃ b : Bool, e = .returned (.bool b) ∧ (b = true ↔ ShOk p.cs.length ks k f) ∧ Below w.heap.size w w' := by
  obtain ⟨⟨oaf, capf, bf, off, rfl, hf1, hf2, hf3, hf4⟩, oac, capc, bc, offc, rfl, hc1, hc2, -, -⟩ := hP
  obtain ⟨oak, capk, bk, offk, rfl, hk1, hk2, hk3, hk4⟩ := hK
  unfold maxLen at hf2 hc2 hk2
  have hil := (List.getElem?_eq_some_iff.1 hf).1
  have hilk := (List.getElem?_eq_some_iff.1 hk).1
  obtain ⟨rfl, hbf⟩ := hf3 (by omega)
  obtain ⟨rfl, hbk⟩ := hk3 (by omega)
  obtain ⟨fvi, gf, oaj, capj, bj, offj, rfl, q1, q2, q3, q4⟩ := hf4 i f hf
  unfold maxLen at q2
  have gk := hk4 i k hk
  obtain ⟨W, hW⟩ : ∃ W, W = w.alloc (.cells #[.slice (some ⟨bf, off, none⟩) p.fs.length capf, .slice oac p.cs.length capc] 35) := ⟨_, rfl⟩
  have hbW : Below w.heap.size w W := by rw [hW]; exact alloc_below _ _
  have hx0 : W.heap[w.heap.size]? = some (.cells #[.slice (some ⟨bf, off, none⟩) p.fs.length capf, .slice oac p.cs.length capc] 35) := by rw [hW, heap_alloc_new]
  have hpb : Hid (∀ w', Below W.heap.size W w' → w'.cell? ⟨w.heap.size, 0, none⟩ = some (.slice (some ⟨bf, off, none⟩) p.fs.length capf) ∧ w'.cell? ⟨w.heap.size, 1, none⟩ = some (.slice oac p.cs.length capc) ∧ w.heap.size < w'.heap.size ∧ Below w.heap.size w w' ∧ w'.cell? ⟨bf, off + i, none⟩ = some (.slice oaj f.length capj) ∧ w'.cell? ⟨bk, offk + i, none⟩ = some (.int .i64 k)) := Lib.hid fun w' h => by
    have e0 : w'.heap[w.heap.size]? = some (.cells #[.slice (some ⟨bf, off, none⟩) p.fs.length capf, .slice oac p.cs.length capc] 35) := (h.block _ (Array.getElem?_eq_some_iff.1 hx0).1).trans hx0
    have hl := (Array.getElem?_eq_some_iff.1 e0).1
    have hb := hbW.trans (h.mono hbW.size)
    exact ⟨by simp [World.cell?, e0], by simp [World.cell?, e0], hl, hb, (hb.cell (p := ⟨bf, off + i, none⟩) hbf).trans gf, (hb.cell (p := ⟨bk, offk + i, none⟩) hbk).trans gk⟩
  obtain ⟨z0, z1, zl, -, z2, z3⟩ := hpb.out W (Below.refl _ _)
  have hbfl : bf < W.heap.size := Nat.lt_of_lt_of_le hbf hbW.size
  have HL := Lib.hid hL
  have HKL := Lib.hid hkl
  replace hk4 := Lib.hid hk4
  replace q4 := Lib.hid q4
  replace q3 := Lib.hid q3
  clear hf4 hx0 gf gk hf3 hk3 hL hf hk
  by_cases h0 : f.length < 1
  · obtain rfl : f = [] := by
      cases f with
      | nil => rfl
      | cons _ _ => simp at h0
    have hpos : Hid (¬ 0 < ([] : List In).length) := Lib.hid (by simp)
    rw [List.length_nil] at z2
    clear h0
    go_enter Tryd.func34, Tryd.ntmps34
    go_upto_region 1 with fail
    rw [← hW]
    clear hW
    go_wp2
    go_ret
    exact ⟨false, rfl, ⟨fun h => (by cases h), fun h => absurd h.pos hpos.out⟩, hbW⟩
  have t0 : decide ((f.length : Int) < 1) = false := by simp; omega
  by_cases h1 : 65536 < f.length
  · have t1 : decide ((f.length : Int) > 65536) = true := by simp; omega
    obtain ⟨F, hF⟩ : ∃ F, F = f.length := ⟨_, rfl⟩
    rw [← hF] at z2 t0 t1
    replace h1 := Lib.hid h1
    clear hF q1 h0 hpb
    go_enter Tryd.func34, Tryd.ntmps34
    go_upto_region 1 with fail
    rw [← hW]
    clear hW
    go_wp2
    go_ret
    exact ⟨false, rfl, ⟨fun h => (by cases h), fun h => absurd h.small (by have := h1.out; omega)⟩, hbW⟩
  have t1 : decide ((f.length : Int) > 65536) = false := by simp; omega
  obtain ⟨rfl, hbj⟩ := q3.out (by omega)
  obtain ⟨n, hn⟩ : ∃ n, f.length = n + 1 := ⟨f.length - 1, by omega⟩
  obtain ⟨xl, hxl⟩ : ∃ xl, f[n]? = some xl := ⟨_, List.getElem?_eq_getElem (by omega)⟩
  obtain ⟨lvl, g0, g1, g2, g3, g4, -⟩ := q4.out n xl hxl
  have hbj2 : bj < W.heap.size := Nat.lt_of_lt_of_le hbj hbW.size
  replace g0 := (hbW.cell (p := ⟨bj, offj + n * 5, none⟩) hbj).trans g0
  replace g1 := (hbW.cell (p := ⟨bj, offj + n * 5 + 1, none⟩) hbj).trans g1
  replace g2 := (hbW.cell (p := ⟨bj, offj + n * 5 + 2, none⟩) hbj).trans g2
  replace g3 := (hbW.cell (p := ⟨bj, offj + n * 5 + 3, none⟩) hbj).trans g3
  replace g4 := (hbW.cell (p := ⟨bj, offj + n * 5 + 4, none⟩) hbj).trans g4
  have HXL := Lib.hid (show f[f.length - 1]? = some xl by rw [hn, Nat.add_sub_cancel]; exact hxl)
  have HPS := Lib.hid (show 0 < f.length ∧ f.length ≤ 65536 by omega)
  have HN := Lib.hid hn
  have hn16 : n < 65536 := by omega
  rw [hn] at z2 q1 hpb
  clear t0 t1 hxl h0 h1 hn
  have t0 : decide ((n : Int) + 1 < 1) = false := by simp; omega
  have t1 : decide ((n : Int) + 1 > 65536) = false := by simp; omega
  have hcf := refFalls_any xl lvl W
  unfold In.val at hcf
  replace hcf := Lib.hid hcf
  go_enter Tryd.func34, Tryd.ntmps34
  go_upto_region 1 with fail
  rw [← hW]
  clear hW
  go_wp2_with fail
  refine hcf.out.mono ?_
  clear hcf
  rintro e w1 ⟨rfl, hb1⟩
  have HB1 := Lib.hid (show Below W.heap.size W w1 from hb1)
  clear hb1 z0 z1 zl z2 z3 g0 g1 g2 g3 g4 hbfl hbj2
  obtain ⟨z0, z1, zl, hw1, z2, z3⟩ := hpb.out w1 HB1.out
  cases hfl : fallsB xl.op with
  | true =>
    have HFL := Lib.hid hfl
    clear hfl
    go_wp2
    go_returns
    exact ⟨false, rfl, ⟨fun h => (by cases h), fun h => by have := h.last xl HXL.out; rw [HFL.out] at this; cases this⟩, hw1⟩
  | false =>
  have HFL := Lib.hid hfl
  have HW1 := Lib.hid hw1
  clear hfl hw1
  go_wp2_with fail
  go_loopw [8] (fun u wr => ∃ j : Nat, j ≤ n + 1 ∧ u = .int .i64 j ∧ (∀ m x, m < j → f[m]? = some x → instrB p.cs.length ks k f.length x = true) ∧ Below W.heap.size W wr) (fun u _ => n + 1 - (intOf u).toNat)
  case atStart => exact ⟨0, by omega, rfl, fun m x h => absurd h (Nat.not_lt_zero _), HB1.out⟩
  case round =>
    clear z0 z1 zl z2 z3
    obtain ⟨j, hj, rfl, hso, hb⟩ := hrel
    have HSO := Lib.hid hso
    obtain ⟨z0, z1, zl, hbw, z2, z3⟩ := hpb.out wr hb
    clear hso
    by_cases hjl : j < n + 1
    · have t2 : decide ((j : Int) < (n : Int) + 1) = true := by simp; omega
      obtain ⟨x, hx⟩ : ∃ x, f[j]? = some x := ⟨_, List.getElem?_eq_getElem (by have := HN.out; omega)⟩
      obtain ⟨lv, i0, i1, i2, i3, i4, oal, capl, bl, offl, rfl, l1, l2, l3, l4⟩ := q4.out j x hx
      unfold maxLen at l2
      replace i0 := (hbw.cell (p := ⟨bj, offj + j * 5, none⟩) hbj).trans i0
      replace i1 := (hbw.cell (p := ⟨bj, offj + j * 5 + 1, none⟩) hbj).trans i1
      replace i2 := (hbw.cell (p := ⟨bj, offj + j * 5 + 2, none⟩) hbj).trans i2
      replace i3 := (hbw.cell (p := ⟨bj, offj + j * 5 + 3, none⟩) hbj).trans i3
      replace i4 := (hbw.cell (p := ⟨bj, offj + j * 5 + 4, none⟩) hbj).trans i4
      have HX := Lib.hid hx
      have hxl := HL.out x (List.mem_of_getElem? hx)
      have HLB := Lib.hid (show ∀ (m : Nat) (z : Int), x.l[m]? = some z → oal = some ⟨bl, offl, none⟩ ∧ ∀ w', Below w.heap.size w w' → w'.cell? ⟨bl, offl + m, none⟩ = some (.int .i64 z) ∧ bl < w'.heap.size from fun m z hz => by
        obtain ⟨h1, h2⟩ := l3 (by have := (List.getElem?_eq_some_iff.1 hz).1; omega)
        exact ⟨h1, fun w' hb => ⟨(hb.cell (p := ⟨bl, offl + m, none⟩) h2).trans (l4 m z hz), Nat.lt_of_lt_of_le h2 hb.size⟩⟩)
      have hbj2 : bj < wr.heap.size := Nat.lt_of_lt_of_le hbj hbw.size
      clear l3 l4 hx
      have hbA := hb.trans ((alloc_below wr (.cells #[.int .i64 x.op, .int .i64 x.a, .int .i64 x.b, .int .i64 x.c, .slice oal x.l.length capl] 25)).mono hb.size)
      have hxc := heap_alloc_new wr (.cells #[.int .i64 x.op, .int .i64 x.a, .int .i64 x.b, .int .i64 x.c, .slice oal x.l.length capl] 25)
      have hlab := labels_any x (.slice oal x.l.length capl) (wr.alloc (.cells #[.int .i64 x.op, .int .i64 x.a, .int .i64 x.b, .int .i64 x.c, .slice oal x.l.length capl] 25))
      unfold In.val at hlab
      replace hlab := Lib.hid hlab
      replace hbA := Lib.hid hbA
      replace hxc := Lib.hid hxc
      go_wp2_with fail
      refine hlab.out.mono ?_
      clear hlab
      rintro e w2 ⟨rfl, hb2⟩
      have hbA2 := hbA.out.trans (hb2.mono hbA.out.size)
      have hxc2 := (hb2.block _ (Array.getElem?_eq_some_iff.1 hxc.out).1).trans hxc.out
      generalize wr.heap.size = bx at hxc2 ⊢
      have hkc : Hid (∀ w', Below w2.heap.size w2 w' → Below W.heap.size W w' ∧ w'.cell? ⟨bx, 0, none⟩ = some (.int .i64 x.op) ∧ w'.cell? ⟨bx, 1, none⟩ = some (.int .i64 x.a) ∧ w'.cell? ⟨bx, 2, none⟩ = some (.int .i64 x.b) ∧ w'.cell? ⟨bx, 3, none⟩ = some (.int .i64 x.c) ∧ w'.cell? ⟨bx, 4, none⟩ = some (.slice oal x.l.length capl)) := Lib.hid fun w' h => by
        have e := bx5 ((h.block bx (Array.getElem?_eq_some_iff.1 hxc2).1).trans hxc2)
        exact ⟨hbA2.trans (h.mono hbA2.size), e.1, e.2.1, e.2.2.1, e.2.2.2.1, e.2.2.2.2⟩
      clear hb2 hbA2 hxc2 hbA hxc i0 i1 i2 i3 i4 hb hbw hbj2 z0 z1 zl z2 z3
      obtain ⟨N, hN⟩ : ∃ N, N = labN x.op := ⟨_, rfl⟩
      rw [← hN]
      replace hN := Lib.hid hN
      obtain ⟨hbW2, y0, y1, y2, y3, y4⟩ := hkc.out w2 (Below.refl _ _)
      obtain ⟨z0, z1, zl, hw2, z2, z3⟩ := hpb.out w2 hbW2
      replace hbW2 := Lib.hid hbW2
      replace hw2 := Lib.hid hw2
      have hkn := fun W => refKnown_any x (.slice oal x.l.length capl) W
      unfold In.val at hkn
      cases hk9 : known x.op with
      | false =>
        have HK := Lib.hid hk9
        rw [hk9] at hkn
        clear hk9
        go_wp2_with fail
        refine wp_region_held_drew (S := (fun w' => (w'.cell? ⟨w.heap.size, 0, none⟩ = some (.slice (some ⟨bf, off, none⟩) p.fs.length capf) ∧ w'.cell? ⟨w.heap.size, 1, none⟩ = some (.slice oac p.cs.length capc) ∧ w'.cell? ⟨bk, offk + i, none⟩ = some (.int .i64 k)) ∧ w'.cell? ⟨bx, 0, none⟩ = some (.int .i64 x.op) ∧ w'.cell? ⟨bx, 1, none⟩ = some (.int .i64 x.a) ∧ w'.cell? ⟨bx, 2, none⟩ = some (.int .i64 x.b) ∧ w'.cell? ⟨bx, 3, none⟩ = some (.int .i64 x.c) ∧ w'.cell? ⟨bx, 4, none⟩ = some (.slice oal x.l.length capl))) (by kernel_rfl) ?_ (fun hHeld => ?_)
        · exact ⟨⟨z0, z1, z3⟩, y0, y1, y2, y3, y4⟩
        refine wpAnyH_take (i := 0) (oi := { dst := some 46, op := Op.load 25 (Operand.tmp 9), type := 25, pos := "ref.go:128", after := #[], guard := none }) (v := ?vq1000) rfl (by kernel_rfl) (by kernel_rfl) (by kernel_rfl) (fun _ _ _ h => h) (Or.inl ⟨by rfl, ?hq1000⟩) (by assumption) ?_
        case hq1000 => intro w hSw; (try dsimp only at hSw); go_simp; try (with_reducible rfl)
        (try simp only [Act.put, List.setIfInBounds_toArray, List.set_cons_zero, List.set_cons_succ])
        refine wpAnyH_ready (rs := [1]) (by kernel_rfl) (by simp) ?_
        refine AllReadyH.cons (o := { dst := some 47, op := Op.call { callee := Callee.value (Operand.func 29), args := #[Operand.tmp 46], argTypes := #[25] }, type := 4, pos := "ref.go:128", after := #[{ on := 0, ground := Ground.data }], guard := none }) rfl (fun K hK => ?_) AllReadyH.nil
        go_simp
        (go_at_call 29; refine (hkn _).mono ?_; rintro e w3 ⟨rfl, hb3⟩; have B3 : Below w2.heap.size w2 w3 := undrew2 hb3; obtain ⟨bw3, y30, y31, y32, y33, y34⟩ := hkc.out w3 B3; obtain ⟨z30, z31, -, zw3, -, z33⟩ := hpb.out w3 bw3; clear hb3; replace B3 := Lib.hid B3; replace bw3 := Lib.hid bw3; replace zw3 := Lib.hid zw3)
        refine hK.out _ _ ?_ (fun hHeld => ?_)
        · (refine ⟨⟨?_, ?_, ?_⟩, ?_, ?_, ?_, ?_, ?_⟩ <;> assumption)
        clear hK K
        (try simp only [Act.put, List.setIfInBounds_toArray, List.set_cons_zero, List.set_cons_succ])
        refine wpAnyH_take (i := 2) (oi := { dst := some 48, op := Op.unOp UnOp.not 4 (Operand.tmp 47), type := 4, pos := "ref.go:128", after := #[{ on := 1, ground := Ground.data }], guard := none }) (v := ?vq1002) rfl (by kernel_rfl) (by kernel_rfl) (by kernel_rfl) (fun _ _ _ h => h) (Or.inl ⟨by rfl, ?hq1002⟩) (by assumption) ?_
        case hq1002 => intro w hSw; (try dsimp only at hSw); go_simp; try (with_reducible rfl)
        (try simp only [Act.put, List.setIfInBounds_toArray, List.set_cons_zero, List.set_cons_succ])
        refine wpAnyH_take (i := 3) (oi := { dst := some 49, op := Op.move (Operand.tmp 48), type := 4, pos := "ref.go:128", after := #[{ on := 2, ground := Ground.data }, { on := 1, ground := Ground.chain }], guard := none }) (v := ?vq1003) rfl (by kernel_rfl) (by kernel_rfl) (by kernel_rfl) (fun _ _ _ h => h) (Or.inl ⟨by rfl, ?hq1003⟩) (by assumption) ?_
        case hq1003 => intro w hSw; (try dsimp only at hSw); go_simp; try (with_reducible rfl)
        (try simp only [Act.put, List.setIfInBounds_toArray, List.set_cons_zero, List.set_cons_succ])
        refine wpAnyH_take (i := 4) (oi := { dst := some 50, op := Op.load 35 (Operand.tmp 3), type := 35, pos := "ref.go:128", after := #[{ on := 3, ground := Ground.guard }], guard := some (3, false) }) (v := undef) rfl (by kernel_rfl) (by kernel_rfl) (by kernel_rfl) (fun _ _ _ h => h) (Or.inr ⟨by rfl, rfl⟩) (by assumption) ?_
        (try simp only [Act.put, List.setIfInBounds_toArray, List.set_cons_zero, List.set_cons_succ])
        refine wpAnyH_take (i := 5) (oi := { dst := some 51, op := Op.load 25 (Operand.tmp 9), type := 25, pos := "ref.go:128", after := #[{ on := 3, ground := Ground.guard }], guard := some (3, false) }) (v := undef) rfl (by kernel_rfl) (by kernel_rfl) (by kernel_rfl) (fun _ _ _ h => h) (Or.inr ⟨by rfl, rfl⟩) (by assumption) ?_
        (try simp only [Act.put, List.setIfInBounds_toArray, List.set_cons_zero, List.set_cons_succ])
        refine wpAnyH_take (i := 6) (oi := { dst := some 52, op := Op.call { callee := Callee.value (Operand.func 45), args := #[Operand.tmp 50, Operand.tmp 51], argTypes := #[35, 25] }, type := 4, pos := "ref.go:128", after := #[{ on := 4, ground := Ground.data }, { on := 5, ground := Ground.data }, { on := 3, ground := Ground.chain }, { on := 3, ground := Ground.guard }], guard := some (3, false) }) (v := undef) rfl (by kernel_rfl) (by kernel_rfl) (by kernel_rfl) (fun _ _ _ h => h) (Or.inr ⟨by rfl, rfl⟩) (by assumption) ?_
        (try simp only [Act.put, List.setIfInBounds_toArray, List.set_cons_zero, List.set_cons_succ])
        refine wpAnyH_take (i := 7) (oi := { dst := some 53, op := Op.unOp UnOp.not 4 (Operand.tmp 52), type := 4, pos := "ref.go:128", after := #[{ on := 6, ground := Ground.data }, { on := 3, ground := Ground.guard }], guard := some (3, false) }) (v := undef) rfl (by kernel_rfl) (by kernel_rfl) (by kernel_rfl) (fun _ _ _ h => h) (Or.inr ⟨by rfl, rfl⟩) (by assumption) ?_
        (try simp only [Act.put, List.setIfInBounds_toArray, List.set_cons_zero, List.set_cons_succ])
        refine wpAnyH_take (i := 8) (oi := { dst := some 54, op := Op.pick (Operand.tmp 49) (Operand.const (Value.bool true)) (Operand.tmp 53), type := 4, pos := "ref.go:128", after := #[{ on := 3, ground := Ground.data }, { on := 7, ground := Ground.data }], guard := none }) (v := ?vq1008) rfl (by kernel_rfl) (by kernel_rfl) (by kernel_rfl) (fun _ _ _ h => h) (Or.inl ⟨by rfl, ?hq1008⟩) (by assumption) ?_
        case hq1008 => intro w hSw; (try dsimp only at hSw); go_simp; try (with_reducible rfl)
        (try simp only [Act.put, List.setIfInBounds_toArray, List.set_cons_zero, List.set_cons_succ])
        refine wpAnyH_take (i := 9) (oi := { dst := some 55, op := Op.move (Operand.tmp 54), type := 4, pos := "ref.go:128", after := #[{ on := 8, ground := Ground.data }, { on := 6, ground := Ground.chain }], guard := none }) (v := ?vq1009) rfl (by kernel_rfl) (by kernel_rfl) (by kernel_rfl) (fun _ _ _ h => h) (Or.inl ⟨by rfl, ?hq1009⟩) (by assumption) ?_
        case hq1009 => intro w hSw; (try dsimp only at hSw); go_simp; try (with_reducible rfl)
        (try simp only [Act.put, List.setIfInBounds_toArray, List.set_cons_zero, List.set_cons_succ])
        refine wpAnyH_take (i := 10) (oi := { dst := some 56, op := Op.move (Operand.tmp 1), type := 23, pos := "ref.go:128", after := #[{ on := 9, ground := Ground.guard }], guard := some (9, false) }) (v := undef) rfl (by kernel_rfl) (by kernel_rfl) (by kernel_rfl) (fun _ _ _ h => h) (Or.inr ⟨by rfl, rfl⟩) (by assumption) ?_
        (try simp only [Act.put, List.setIfInBounds_toArray, List.set_cons_zero, List.set_cons_succ])
        refine wpAnyH_take (i := 11) (oi := { dst := some 57, op := Op.move (Operand.tmp 2), type := 3, pos := "ref.go:128", after := #[{ on := 9, ground := Ground.guard }], guard := some (9, false) }) (v := undef) rfl (by kernel_rfl) (by kernel_rfl) (by kernel_rfl) (fun _ _ _ h => h) (Or.inr ⟨by rfl, rfl⟩) (by assumption) ?_
        (try simp only [Act.put, List.setIfInBounds_toArray, List.set_cons_zero, List.set_cons_succ])
        refine wpAnyH_take (i := 12) (oi := { dst := some 58, op := Op.indexAddr 23 (Operand.tmp 56) (Operand.tmp 57), type := 0, pos := "ref.go:128", after := #[{ on := 10, ground := Ground.data }, { on := 11, ground := Ground.data }, { on := 9, ground := Ground.guard }], guard := some (9, false) }) (v := undef) rfl (by kernel_rfl) (by kernel_rfl) (by kernel_rfl) (fun _ _ _ h => h) (Or.inr ⟨by rfl, rfl⟩) (by assumption) ?_
        (try simp only [Act.put, List.setIfInBounds_toArray, List.set_cons_zero, List.set_cons_succ])
        refine wpAnyH_take (i := 13) (oi := { dst := some 59, op := Op.load 3 (Operand.tmp 58), type := 3, pos := "ref.go:128", after := #[{ on := 12, ground := Ground.data }, { on := 9, ground := Ground.guard }], guard := some (9, false) }) (v := undef) rfl (by kernel_rfl) (by kernel_rfl) (by kernel_rfl) (fun _ _ _ h => h) (Or.inr ⟨by rfl, rfl⟩) (by assumption) ?_
        (try simp only [Act.put, List.setIfInBounds_toArray, List.set_cons_zero, List.set_cons_succ])
        refine wpAnyH_take (i := 14) (oi := { dst := some 60, op := Op.load 25 (Operand.tmp 9), type := 25, pos := "ref.go:128", after := #[{ on := 9, ground := Ground.guard }], guard := some (9, false) }) (v := undef) rfl (by kernel_rfl) (by kernel_rfl) (by kernel_rfl) (fun _ _ _ h => h) (Or.inr ⟨by rfl, rfl⟩) (by assumption) ?_
        (try simp only [Act.put, List.setIfInBounds_toArray, List.set_cons_zero, List.set_cons_succ])
        refine wpAnyH_take (i := 15) (oi := { dst := some 61, op := Op.call { callee := Callee.value (Operand.func 46), args := #[Operand.tmp 59, Operand.tmp 60], argTypes := #[3, 25] }, type := 4, pos := "ref.go:128", after := #[{ on := 13, ground := Ground.data }, { on := 14, ground := Ground.data }, { on := 9, ground := Ground.chain }, { on := 9, ground := Ground.guard }], guard := some (9, false) }) (v := undef) rfl (by kernel_rfl) (by kernel_rfl) (by kernel_rfl) (fun _ _ _ h => h) (Or.inr ⟨by rfl, rfl⟩) (by assumption) ?_
        (try simp only [Act.put, List.setIfInBounds_toArray, List.set_cons_zero, List.set_cons_succ])
        refine wpAnyH_take (i := 16) (oi := { dst := some 62, op := Op.unOp UnOp.not 4 (Operand.tmp 61), type := 4, pos := "ref.go:128", after := #[{ on := 15, ground := Ground.data }, { on := 9, ground := Ground.guard }], guard := some (9, false) }) (v := undef) rfl (by kernel_rfl) (by kernel_rfl) (by kernel_rfl) (fun _ _ _ h => h) (Or.inr ⟨by rfl, rfl⟩) (by assumption) ?_
        (try simp only [Act.put, List.setIfInBounds_toArray, List.set_cons_zero, List.set_cons_succ])
        refine wpAnyH_take (i := 17) (oi := { dst := some 63, op := Op.pick (Operand.tmp 55) (Operand.const (Value.bool true)) (Operand.tmp 62), type := 4, pos := "ref.go:128", after := #[{ on := 9, ground := Ground.data }, { on := 16, ground := Ground.data }], guard := none }) (v := ?vq1017) rfl (by kernel_rfl) (by kernel_rfl) (by kernel_rfl) (fun _ _ _ h => h) (Or.inl ⟨by rfl, ?hq1017⟩) (by assumption) ?_
        case hq1017 => intro w hSw; (try dsimp only at hSw); go_simp; try (with_reducible rfl)
        (try simp only [Act.put, List.setIfInBounds_toArray, List.set_cons_zero, List.set_cons_succ])
        refine wpAnyH_take (i := 18) (oi := { dst := some 64, op := Op.move (Operand.tmp 63), type := 4, pos := "ref.go:128", after := #[{ on := 17, ground := Ground.data }, { on := 15, ground := Ground.chain }], guard := none }) (v := ?vq1018) rfl (by kernel_rfl) (by kernel_rfl) (by kernel_rfl) (fun _ _ _ h => h) (Or.inl ⟨by rfl, ?hq1018⟩) (by assumption) ?_
        case hq1018 => intro w hSw; (try dsimp only at hSw); go_simp; try (with_reducible rfl)
        (try simp only [Act.put, List.setIfInBounds_toArray, List.set_cons_zero, List.set_cons_succ])
        refine wpAnyH_take (i := 19) (oi := { dst := some 65, op := Op.move (Operand.tmp 10), type := 3, pos := "ref.go:128", after := #[{ on := 18, ground := Ground.guard }], guard := some (18, false) }) (v := undef) rfl (by kernel_rfl) (by kernel_rfl) (by kernel_rfl) (fun _ _ _ h => h) (Or.inr ⟨by rfl, rfl⟩) (by assumption) ?_
        (try simp only [Act.put, List.setIfInBounds_toArray, List.set_cons_zero, List.set_cons_succ])
        refine wpAnyH_take (i := 20) (oi := { dst := some 66, op := Op.binOp BinOp.geq 3 (Operand.tmp 65) (Operand.const (Value.int IntKind.i64 0)) 3, type := 4, pos := "ref.go:128", after := #[{ on := 19, ground := Ground.data }, { on := 18, ground := Ground.guard }], guard := some (18, false) }) (v := undef) rfl (by kernel_rfl) (by kernel_rfl) (by kernel_rfl) (fun _ _ _ h => h) (Or.inr ⟨by rfl, rfl⟩) (by assumption) ?_
        (try simp only [Act.put, List.setIfInBounds_toArray, List.set_cons_zero, List.set_cons_succ])
        refine wpAnyH_take (i := 21) (oi := { dst := some 67, op := Op.move (Operand.tmp 66), type := 4, pos := "ref.go:128", after := #[{ on := 20, ground := Ground.data }, { on := 18, ground := Ground.chain }, { on := 18, ground := Ground.guard }], guard := some (18, false) }) (v := undef) rfl (by kernel_rfl) (by kernel_rfl) (by kernel_rfl) (fun _ _ _ h => h) (Or.inr ⟨by rfl, rfl⟩) (by assumption) ?_
        (try simp only [Act.put, List.setIfInBounds_toArray, List.set_cons_zero, List.set_cons_succ])
        refine wpAnyH_take (i := 22) (oi := { dst := some 68, op := Op.fieldAddr 25 (Operand.tmp 9) 4, type := 0, pos := "ref.go:128", after := #[{ on := 21, ground := Ground.guard }], guard := some (21, true) }) (v := undef) rfl (by kernel_rfl) (by kernel_rfl) (by kernel_rfl) (fun _ _ _ h => h) (Or.inr ⟨by rfl, rfl⟩) (by assumption) ?_
        (try simp only [Act.put, List.setIfInBounds_toArray, List.set_cons_zero, List.set_cons_succ])
        refine wpAnyH_take (i := 23) (oi := { dst := some 69, op := Op.load 23 (Operand.tmp 68), type := 23, pos := "ref.go:128", after := #[{ on := 22, ground := Ground.data }, { on := 21, ground := Ground.guard }], guard := some (21, true) }) (v := undef) rfl (by kernel_rfl) (by kernel_rfl) (by kernel_rfl) (fun _ _ _ h => h) (Or.inr ⟨by rfl, rfl⟩) (by assumption) ?_
        (try simp only [Act.put, List.setIfInBounds_toArray, List.set_cons_zero, List.set_cons_succ])
        refine wpAnyH_take (i := 24) (oi := { dst := some 70, op := Op.call { callee := Callee.builtin Builtin.len, args := #[Operand.tmp 69], argTypes := #[23] }, type := 3, pos := "ref.go:128", after := #[{ on := 23, ground := Ground.data }, { on := 21, ground := Ground.guard }], guard := some (21, true) }) (v := undef) rfl (by kernel_rfl) (by kernel_rfl) (by kernel_rfl) (fun _ _ _ h => h) (Or.inr ⟨by rfl, rfl⟩) (by assumption) ?_
        (try simp only [Act.put, List.setIfInBounds_toArray, List.set_cons_zero, List.set_cons_succ])
        refine wpAnyH_take (i := 25) (oi := { dst := some 71, op := Op.move (Operand.tmp 10), type := 3, pos := "ref.go:128", after := #[{ on := 21, ground := Ground.guard }], guard := some (21, true) }) (v := undef) rfl (by kernel_rfl) (by kernel_rfl) (by kernel_rfl) (fun _ _ _ h => h) (Or.inr ⟨by rfl, rfl⟩) (by assumption) ?_
        (try simp only [Act.put, List.setIfInBounds_toArray, List.set_cons_zero, List.set_cons_succ])
        refine wpAnyH_take (i := 26) (oi := { dst := some 72, op := Op.binOp BinOp.neq 3 (Operand.tmp 70) (Operand.tmp 71) 3, type := 4, pos := "ref.go:128", after := #[{ on := 24, ground := Ground.data }, { on := 25, ground := Ground.data }, { on := 21, ground := Ground.guard }], guard := some (21, true) }) (v := undef) rfl (by kernel_rfl) (by kernel_rfl) (by kernel_rfl) (fun _ _ _ h => h) (Or.inr ⟨by rfl, rfl⟩) (by assumption) ?_
        (try simp only [Act.put, List.setIfInBounds_toArray, List.set_cons_zero, List.set_cons_succ])
        refine wpAnyH_take (i := 27) (oi := { dst := some 73, op := Op.pick (Operand.tmp 67) (Operand.tmp 72) (Operand.const (Value.bool false)), type := 4, pos := "ref.go:128", after := #[{ on := 21, ground := Ground.data }, { on := 26, ground := Ground.data }, { on := 18, ground := Ground.guard }], guard := some (18, false) }) (v := undef) rfl (by kernel_rfl) (by kernel_rfl) (by kernel_rfl) (fun _ _ _ h => h) (Or.inr ⟨by rfl, rfl⟩) (by assumption) ?_
        (try simp only [Act.put, List.setIfInBounds_toArray, List.set_cons_zero, List.set_cons_succ])
        refine wpAnyH_take (i := 28) (oi := { dst := some 74, op := Op.pick (Operand.tmp 64) (Operand.const (Value.bool true)) (Operand.tmp 73), type := 4, pos := "ref.go:128", after := #[{ on := 18, ground := Ground.data }, { on := 27, ground := Ground.data }], guard := none }) (v := ?vq1028) rfl (by kernel_rfl) (by kernel_rfl) (by kernel_rfl) (fun _ _ _ h => h) (Or.inl ⟨by rfl, ?hq1028⟩) (by assumption) ?_
        case hq1028 => intro w hSw; (try dsimp only at hSw); go_simp; try (with_reducible rfl)
        (try simp only [Act.put, List.setIfInBounds_toArray, List.set_cons_zero, List.set_cons_succ])
        refine wpAnyH_take (i := 29) (oi := { dst := some 75, op := Op.move (Operand.tmp 74), type := 4, pos := "ref.go:128", after := #[{ on := 28, ground := Ground.data }, { on := 21, ground := Ground.chain }], guard := none }) (v := ?vq1029) rfl (by kernel_rfl) (by kernel_rfl) (by kernel_rfl) (fun _ _ _ h => h) (Or.inl ⟨by rfl, ?hq1029⟩) (by assumption) ?_
        case hq1029 => intro w hSw; (try dsimp only at hSw); go_simp; try (with_reducible rfl)
        (try simp only [Act.put, List.setIfInBounds_toArray, List.set_cons_zero, List.set_cons_succ])
        refine wpAnyH_take (i := 30) (oi := { dst := some 76, op := Op.move (Operand.tmp 10), type := 3, pos := "ref.go:128", after := #[{ on := 29, ground := Ground.guard }], guard := some (29, false) }) (v := undef) rfl (by kernel_rfl) (by kernel_rfl) (by kernel_rfl) (fun _ _ _ h => h) (Or.inr ⟨by rfl, rfl⟩) (by assumption) ?_
        (try simp only [Act.put, List.setIfInBounds_toArray, List.set_cons_zero, List.set_cons_succ])
        refine wpAnyH_take (i := 31) (oi := { dst := some 77, op := Op.binOp BinOp.lss 3 (Operand.tmp 76) (Operand.const (Value.int IntKind.i64 0)) 3, type := 4, pos := "ref.go:128", after := #[{ on := 30, ground := Ground.data }, { on := 29, ground := Ground.guard }], guard := some (29, false) }) (v := undef) rfl (by kernel_rfl) (by kernel_rfl) (by kernel_rfl) (fun _ _ _ h => h) (Or.inr ⟨by rfl, rfl⟩) (by assumption) ?_
        (try simp only [Act.put, List.setIfInBounds_toArray, List.set_cons_zero, List.set_cons_succ])
        refine wpAnyH_take (i := 32) (oi := { dst := some 78, op := Op.move (Operand.tmp 77), type := 4, pos := "ref.go:128", after := #[{ on := 31, ground := Ground.data }, { on := 29, ground := Ground.chain }, { on := 29, ground := Ground.guard }], guard := some (29, false) }) (v := undef) rfl (by kernel_rfl) (by kernel_rfl) (by kernel_rfl) (fun _ _ _ h => h) (Or.inr ⟨by rfl, rfl⟩) (by assumption) ?_
        (try simp only [Act.put, List.setIfInBounds_toArray, List.set_cons_zero, List.set_cons_succ])
        refine wpAnyH_take (i := 33) (oi := { dst := some 79, op := Op.fieldAddr 25 (Operand.tmp 9) 4, type := 0, pos := "ref.go:128", after := #[{ on := 32, ground := Ground.guard }], guard := some (32, true) }) (v := undef) rfl (by kernel_rfl) (by kernel_rfl) (by kernel_rfl) (fun _ _ _ h => h) (Or.inr ⟨by rfl, rfl⟩) (by assumption) ?_
        (try simp only [Act.put, List.setIfInBounds_toArray, List.set_cons_zero, List.set_cons_succ])
        refine wpAnyH_take (i := 34) (oi := { dst := some 80, op := Op.load 23 (Operand.tmp 79), type := 23, pos := "ref.go:128", after := #[{ on := 33, ground := Ground.data }, { on := 32, ground := Ground.guard }], guard := some (32, true) }) (v := undef) rfl (by kernel_rfl) (by kernel_rfl) (by kernel_rfl) (fun _ _ _ h => h) (Or.inr ⟨by rfl, rfl⟩) (by assumption) ?_
        (try simp only [Act.put, List.setIfInBounds_toArray, List.set_cons_zero, List.set_cons_succ])
        refine wpAnyH_take (i := 35) (oi := { dst := some 81, op := Op.call { callee := Callee.builtin Builtin.len, args := #[Operand.tmp 80], argTypes := #[23] }, type := 3, pos := "ref.go:128", after := #[{ on := 34, ground := Ground.data }, { on := 32, ground := Ground.guard }], guard := some (32, true) }) (v := undef) rfl (by kernel_rfl) (by kernel_rfl) (by kernel_rfl) (fun _ _ _ h => h) (Or.inr ⟨by rfl, rfl⟩) (by assumption) ?_
        (try simp only [Act.put, List.setIfInBounds_toArray, List.set_cons_zero, List.set_cons_succ])
        refine wpAnyH_take (i := 36) (oi := { dst := some 82, op := Op.binOp BinOp.lss 3 (Operand.tmp 81) (Operand.const (Value.int IntKind.i64 1)) 3, type := 4, pos := "ref.go:128", after := #[{ on := 35, ground := Ground.data }, { on := 32, ground := Ground.guard }], guard := some (32, true) }) (v := undef) rfl (by kernel_rfl) (by kernel_rfl) (by kernel_rfl) (fun _ _ _ h => h) (Or.inr ⟨by rfl, rfl⟩) (by assumption) ?_
        (try simp only [Act.put, List.setIfInBounds_toArray, List.set_cons_zero, List.set_cons_succ])
        refine wpAnyH_take (i := 37) (oi := { dst := some 83, op := Op.pick (Operand.tmp 78) (Operand.tmp 82) (Operand.const (Value.bool false)), type := 4, pos := "ref.go:128", after := #[{ on := 32, ground := Ground.data }, { on := 36, ground := Ground.data }, { on := 29, ground := Ground.guard }], guard := some (29, false) }) (v := undef) rfl (by kernel_rfl) (by kernel_rfl) (by kernel_rfl) (fun _ _ _ h => h) (Or.inr ⟨by rfl, rfl⟩) (by assumption) ?_
        (try simp only [Act.put, List.setIfInBounds_toArray, List.set_cons_zero, List.set_cons_succ])
        refine wpAnyH_take (i := 38) (oi := { dst := some 84, op := Op.pick (Operand.tmp 75) (Operand.const (Value.bool true)) (Operand.tmp 83), type := 4, pos := "ref.go:128", after := #[{ on := 29, ground := Ground.data }, { on := 37, ground := Ground.data }], guard := none }) (v := ?vq1038) rfl (by kernel_rfl) (by kernel_rfl) (by kernel_rfl) (fun _ _ _ h => h) (Or.inl ⟨by rfl, ?hq1038⟩) (by assumption) ?_
        case hq1038 => intro w hSw; (try dsimp only at hSw); go_simp; try (with_reducible rfl)
        (try simp only [Act.put, List.setIfInBounds_toArray, List.set_cons_zero, List.set_cons_succ])
        refine wpAnyH_done (by kernel_rfl) ?_ _
        go_wp2
        go_returns
        exact ⟨false, rfl, ⟨fun h => (by cases h), fun h => by have := h.ins x (List.mem_of_getElem? HX.out); rw [instr_unknown HK.out] at this; cases this⟩, zw3.out⟩
      | true =>
      have HK := Lib.hid hk9
      have hfl2 := fun W => fields_any W (some ⟨bf, off, none⟩) oac p.fs.length p.cs.length capf capc x (.slice oal x.l.length capl) hk9
      rw [hk9] at hkn
      clear hk9
      unfold In.val at hfl2
      cases hf9 : fieldsR p.cs.length p.fs.length x with
      | false =>
        have HF := Lib.hid hf9
        rw [hf9] at hfl2
        clear hf9
        go_wp2_with fail
        refine wp_region_held_drew (S := (fun w' => (w'.cell? ⟨w.heap.size, 0, none⟩ = some (.slice (some ⟨bf, off, none⟩) p.fs.length capf) ∧ w'.cell? ⟨w.heap.size, 1, none⟩ = some (.slice oac p.cs.length capc) ∧ w'.cell? ⟨bk, offk + i, none⟩ = some (.int .i64 k)) ∧ w'.cell? ⟨bx, 0, none⟩ = some (.int .i64 x.op) ∧ w'.cell? ⟨bx, 1, none⟩ = some (.int .i64 x.a) ∧ w'.cell? ⟨bx, 2, none⟩ = some (.int .i64 x.b) ∧ w'.cell? ⟨bx, 3, none⟩ = some (.int .i64 x.c) ∧ w'.cell? ⟨bx, 4, none⟩ = some (.slice oal x.l.length capl))) (by kernel_rfl) ?_ (fun hHeld => ?_)
        · exact ⟨⟨z0, z1, z3⟩, y0, y1, y2, y3, y4⟩
        refine wpAnyH_take (i := 0) (oi := { dst := some 46, op := Op.load 25 (Operand.tmp 9), type := 25, pos := "ref.go:128", after := #[], guard := none }) (v := ?vq2000) rfl (by kernel_rfl) (by kernel_rfl) (by kernel_rfl) (fun _ _ _ h => h) (Or.inl ⟨by rfl, ?hq2000⟩) (by assumption) ?_
        case hq2000 => intro w hSw; (try dsimp only at hSw); go_simp; try (with_reducible rfl)
        (try simp only [Act.put, List.setIfInBounds_toArray, List.set_cons_zero, List.set_cons_succ])
        refine wpAnyH_ready (rs := [1]) (by kernel_rfl) (by simp) ?_
        refine AllReadyH.cons (o := { dst := some 47, op := Op.call { callee := Callee.value (Operand.func 29), args := #[Operand.tmp 46], argTypes := #[25] }, type := 4, pos := "ref.go:128", after := #[{ on := 0, ground := Ground.data }], guard := none }) rfl (fun K hK => ?_) AllReadyH.nil
        go_simp
        (go_at_call 29; refine (hkn _).mono ?_; rintro e w3 ⟨rfl, hb3⟩; have B3 : Below w2.heap.size w2 w3 := undrew2 hb3; obtain ⟨bw3, y30, y31, y32, y33, y34⟩ := hkc.out w3 B3; obtain ⟨z30, z31, -, zw3, -, z33⟩ := hpb.out w3 bw3; clear hb3; replace B3 := Lib.hid B3; replace bw3 := Lib.hid bw3; replace zw3 := Lib.hid zw3)
        refine hK.out _ _ ?_ (fun hHeld => ?_)
        · (refine ⟨⟨?_, ?_, ?_⟩, ?_, ?_, ?_, ?_, ?_⟩ <;> assumption)
        clear hK K
        (try simp only [Act.put, List.setIfInBounds_toArray, List.set_cons_zero, List.set_cons_succ])
        refine wpAnyH_take (i := 2) (oi := { dst := some 48, op := Op.unOp UnOp.not 4 (Operand.tmp 47), type := 4, pos := "ref.go:128", after := #[{ on := 1, ground := Ground.data }], guard := none }) (v := ?vq2002) rfl (by kernel_rfl) (by kernel_rfl) (by kernel_rfl) (fun _ _ _ h => h) (Or.inl ⟨by rfl, ?hq2002⟩) (by assumption) ?_
        case hq2002 => intro w hSw; (try dsimp only at hSw); go_simp; try (with_reducible rfl)
        (try simp only [Act.put, List.setIfInBounds_toArray, List.set_cons_zero, List.set_cons_succ])
        refine wpAnyH_take (i := 3) (oi := { dst := some 49, op := Op.move (Operand.tmp 48), type := 4, pos := "ref.go:128", after := #[{ on := 2, ground := Ground.data }, { on := 1, ground := Ground.chain }], guard := none }) (v := ?vq2003) rfl (by kernel_rfl) (by kernel_rfl) (by kernel_rfl) (fun _ _ _ h => h) (Or.inl ⟨by rfl, ?hq2003⟩) (by assumption) ?_
        case hq2003 => intro w hSw; (try dsimp only at hSw); go_simp; try (with_reducible rfl)
        (try simp only [Act.put, List.setIfInBounds_toArray, List.set_cons_zero, List.set_cons_succ])
        refine wpAnyH_take (i := 4) (oi := { dst := some 50, op := Op.load 35 (Operand.tmp 3), type := 35, pos := "ref.go:128", after := #[{ on := 3, ground := Ground.guard }], guard := some (3, false) }) (v := ?vq2004) rfl (by kernel_rfl) (by kernel_rfl) (by kernel_rfl) (fun _ _ _ h => h) (Or.inl ⟨by rfl, ?hq2004⟩) (by assumption) ?_
        case hq2004 => intro w hSw; (try dsimp only at hSw); go_simp; try (with_reducible rfl)
        (try simp only [Act.put, List.setIfInBounds_toArray, List.set_cons_zero, List.set_cons_succ])
        refine wpAnyH_take (i := 5) (oi := { dst := some 51, op := Op.load 25 (Operand.tmp 9), type := 25, pos := "ref.go:128", after := #[{ on := 3, ground := Ground.guard }], guard := some (3, false) }) (v := ?vq2005) rfl (by kernel_rfl) (by kernel_rfl) (by kernel_rfl) (fun _ _ _ h => h) (Or.inl ⟨by rfl, ?hq2005⟩) (by assumption) ?_
        case hq2005 => intro w hSw; (try dsimp only at hSw); go_simp; try (with_reducible rfl)
        (try simp only [Act.put, List.setIfInBounds_toArray, List.set_cons_zero, List.set_cons_succ])
        refine wpAnyH_ready (rs := [6]) (by kernel_rfl) (by simp) ?_
        refine AllReadyH.cons (o := { dst := some 52, op := Op.call { callee := Callee.value (Operand.func 45), args := #[Operand.tmp 50, Operand.tmp 51], argTypes := #[35, 25] }, type := 4, pos := "ref.go:128", after := #[{ on := 4, ground := Ground.data }, { on := 5, ground := Ground.data }, { on := 3, ground := Ground.chain }, { on := 3, ground := Ground.guard }], guard := some (3, false) }) rfl (fun K hK => ?_) AllReadyH.nil
        go_simp
        (go_at_call 45; refine (hfl2 _).mono ?_; rintro e w4 ⟨rfl, hb4⟩; have B4 : Below w2.heap.size w2 w4 := B3.out.trans (hb4.mono B3.out.size); obtain ⟨bw4, y40, y41, y42, y43, y44⟩ := hkc.out w4 B4; obtain ⟨z40, z41, -, zw4, -, z43⟩ := hpb.out w4 bw4; clear hb4; replace B4 := Lib.hid B4; replace bw4 := Lib.hid bw4; replace zw4 := Lib.hid zw4)
        refine hK.out _ _ ?_ (fun hHeld => ?_)
        · (refine ⟨⟨?_, ?_, ?_⟩, ?_, ?_, ?_, ?_, ?_⟩ <;> assumption)
        clear hK K
        (try simp only [Act.put, List.setIfInBounds_toArray, List.set_cons_zero, List.set_cons_succ])
        refine wpAnyH_take (i := 7) (oi := { dst := some 53, op := Op.unOp UnOp.not 4 (Operand.tmp 52), type := 4, pos := "ref.go:128", after := #[{ on := 6, ground := Ground.data }, { on := 3, ground := Ground.guard }], guard := some (3, false) }) (v := ?vq2007) rfl (by kernel_rfl) (by kernel_rfl) (by kernel_rfl) (fun _ _ _ h => h) (Or.inl ⟨by rfl, ?hq2007⟩) (by assumption) ?_
        case hq2007 => intro w hSw; (try dsimp only at hSw); go_simp; try (with_reducible rfl)
        (try simp only [Act.put, List.setIfInBounds_toArray, List.set_cons_zero, List.set_cons_succ])
        refine wpAnyH_take (i := 8) (oi := { dst := some 54, op := Op.pick (Operand.tmp 49) (Operand.const (Value.bool true)) (Operand.tmp 53), type := 4, pos := "ref.go:128", after := #[{ on := 3, ground := Ground.data }, { on := 7, ground := Ground.data }], guard := none }) (v := ?vq2008) rfl (by kernel_rfl) (by kernel_rfl) (by kernel_rfl) (fun _ _ _ h => h) (Or.inl ⟨by rfl, ?hq2008⟩) (by assumption) ?_
        case hq2008 => intro w hSw; (try dsimp only at hSw); go_simp; try (with_reducible rfl)
        (try simp only [Act.put, List.setIfInBounds_toArray, List.set_cons_zero, List.set_cons_succ])
        refine wpAnyH_take (i := 9) (oi := { dst := some 55, op := Op.move (Operand.tmp 54), type := 4, pos := "ref.go:128", after := #[{ on := 8, ground := Ground.data }, { on := 6, ground := Ground.chain }], guard := none }) (v := ?vq2009) rfl (by kernel_rfl) (by kernel_rfl) (by kernel_rfl) (fun _ _ _ h => h) (Or.inl ⟨by rfl, ?hq2009⟩) (by assumption) ?_
        case hq2009 => intro w hSw; (try dsimp only at hSw); go_simp; try (with_reducible rfl)
        (try simp only [Act.put, List.setIfInBounds_toArray, List.set_cons_zero, List.set_cons_succ])
        refine wpAnyH_take (i := 10) (oi := { dst := some 56, op := Op.move (Operand.tmp 1), type := 23, pos := "ref.go:128", after := #[{ on := 9, ground := Ground.guard }], guard := some (9, false) }) (v := undef) rfl (by kernel_rfl) (by kernel_rfl) (by kernel_rfl) (fun _ _ _ h => h) (Or.inr ⟨by rfl, rfl⟩) (by assumption) ?_
        (try simp only [Act.put, List.setIfInBounds_toArray, List.set_cons_zero, List.set_cons_succ])
        refine wpAnyH_take (i := 11) (oi := { dst := some 57, op := Op.move (Operand.tmp 2), type := 3, pos := "ref.go:128", after := #[{ on := 9, ground := Ground.guard }], guard := some (9, false) }) (v := undef) rfl (by kernel_rfl) (by kernel_rfl) (by kernel_rfl) (fun _ _ _ h => h) (Or.inr ⟨by rfl, rfl⟩) (by assumption) ?_
        (try simp only [Act.put, List.setIfInBounds_toArray, List.set_cons_zero, List.set_cons_succ])
        refine wpAnyH_take (i := 12) (oi := { dst := some 58, op := Op.indexAddr 23 (Operand.tmp 56) (Operand.tmp 57), type := 0, pos := "ref.go:128", after := #[{ on := 10, ground := Ground.data }, { on := 11, ground := Ground.data }, { on := 9, ground := Ground.guard }], guard := some (9, false) }) (v := undef) rfl (by kernel_rfl) (by kernel_rfl) (by kernel_rfl) (fun _ _ _ h => h) (Or.inr ⟨by rfl, rfl⟩) (by assumption) ?_
        (try simp only [Act.put, List.setIfInBounds_toArray, List.set_cons_zero, List.set_cons_succ])
        refine wpAnyH_take (i := 13) (oi := { dst := some 59, op := Op.load 3 (Operand.tmp 58), type := 3, pos := "ref.go:128", after := #[{ on := 12, ground := Ground.data }, { on := 9, ground := Ground.guard }], guard := some (9, false) }) (v := undef) rfl (by kernel_rfl) (by kernel_rfl) (by kernel_rfl) (fun _ _ _ h => h) (Or.inr ⟨by rfl, rfl⟩) (by assumption) ?_
        (try simp only [Act.put, List.setIfInBounds_toArray, List.set_cons_zero, List.set_cons_succ])
        refine wpAnyH_take (i := 14) (oi := { dst := some 60, op := Op.load 25 (Operand.tmp 9), type := 25, pos := "ref.go:128", after := #[{ on := 9, ground := Ground.guard }], guard := some (9, false) }) (v := undef) rfl (by kernel_rfl) (by kernel_rfl) (by kernel_rfl) (fun _ _ _ h => h) (Or.inr ⟨by rfl, rfl⟩) (by assumption) ?_
        (try simp only [Act.put, List.setIfInBounds_toArray, List.set_cons_zero, List.set_cons_succ])
        refine wpAnyH_take (i := 15) (oi := { dst := some 61, op := Op.call { callee := Callee.value (Operand.func 46), args := #[Operand.tmp 59, Operand.tmp 60], argTypes := #[3, 25] }, type := 4, pos := "ref.go:128", after := #[{ on := 13, ground := Ground.data }, { on := 14, ground := Ground.data }, { on := 9, ground := Ground.chain }, { on := 9, ground := Ground.guard }], guard := some (9, false) }) (v := undef) rfl (by kernel_rfl) (by kernel_rfl) (by kernel_rfl) (fun _ _ _ h => h) (Or.inr ⟨by rfl, rfl⟩) (by assumption) ?_
        (try simp only [Act.put, List.setIfInBounds_toArray, List.set_cons_zero, List.set_cons_succ])
        refine wpAnyH_take (i := 16) (oi := { dst := some 62, op := Op.unOp UnOp.not 4 (Operand.tmp 61), type := 4, pos := "ref.go:128", after := #[{ on := 15, ground := Ground.data }, { on := 9, ground := Ground.guard }], guard := some (9, false) }) (v := undef) rfl (by kernel_rfl) (by kernel_rfl) (by kernel_rfl) (fun _ _ _ h => h) (Or.inr ⟨by rfl, rfl⟩) (by assumption) ?_
        (try simp only [Act.put, List.setIfInBounds_toArray, List.set_cons_zero, List.set_cons_succ])
        refine wpAnyH_take (i := 17) (oi := { dst := some 63, op := Op.pick (Operand.tmp 55) (Operand.const (Value.bool true)) (Operand.tmp 62), type := 4, pos := "ref.go:128", after := #[{ on := 9, ground := Ground.data }, { on := 16, ground := Ground.data }], guard := none }) (v := ?vq2017) rfl (by kernel_rfl) (by kernel_rfl) (by kernel_rfl) (fun _ _ _ h => h) (Or.inl ⟨by rfl, ?hq2017⟩) (by assumption) ?_
        case hq2017 => intro w hSw; (try dsimp only at hSw); go_simp; try (with_reducible rfl)
        (try simp only [Act.put, List.setIfInBounds_toArray, List.set_cons_zero, List.set_cons_succ])
        refine wpAnyH_take (i := 18) (oi := { dst := some 64, op := Op.move (Operand.tmp 63), type := 4, pos := "ref.go:128", after := #[{ on := 17, ground := Ground.data }, { on := 15, ground := Ground.chain }], guard := none }) (v := ?vq2018) rfl (by kernel_rfl) (by kernel_rfl) (by kernel_rfl) (fun _ _ _ h => h) (Or.inl ⟨by rfl, ?hq2018⟩) (by assumption) ?_
        case hq2018 => intro w hSw; (try dsimp only at hSw); go_simp; try (with_reducible rfl)
        (try simp only [Act.put, List.setIfInBounds_toArray, List.set_cons_zero, List.set_cons_succ])
        refine wpAnyH_take (i := 19) (oi := { dst := some 65, op := Op.move (Operand.tmp 10), type := 3, pos := "ref.go:128", after := #[{ on := 18, ground := Ground.guard }], guard := some (18, false) }) (v := undef) rfl (by kernel_rfl) (by kernel_rfl) (by kernel_rfl) (fun _ _ _ h => h) (Or.inr ⟨by rfl, rfl⟩) (by assumption) ?_
        (try simp only [Act.put, List.setIfInBounds_toArray, List.set_cons_zero, List.set_cons_succ])
        refine wpAnyH_take (i := 20) (oi := { dst := some 66, op := Op.binOp BinOp.geq 3 (Operand.tmp 65) (Operand.const (Value.int IntKind.i64 0)) 3, type := 4, pos := "ref.go:128", after := #[{ on := 19, ground := Ground.data }, { on := 18, ground := Ground.guard }], guard := some (18, false) }) (v := undef) rfl (by kernel_rfl) (by kernel_rfl) (by kernel_rfl) (fun _ _ _ h => h) (Or.inr ⟨by rfl, rfl⟩) (by assumption) ?_
        (try simp only [Act.put, List.setIfInBounds_toArray, List.set_cons_zero, List.set_cons_succ])
        refine wpAnyH_take (i := 21) (oi := { dst := some 67, op := Op.move (Operand.tmp 66), type := 4, pos := "ref.go:128", after := #[{ on := 20, ground := Ground.data }, { on := 18, ground := Ground.chain }, { on := 18, ground := Ground.guard }], guard := some (18, false) }) (v := undef) rfl (by kernel_rfl) (by kernel_rfl) (by kernel_rfl) (fun _ _ _ h => h) (Or.inr ⟨by rfl, rfl⟩) (by assumption) ?_
        (try simp only [Act.put, List.setIfInBounds_toArray, List.set_cons_zero, List.set_cons_succ])
        refine wpAnyH_take (i := 22) (oi := { dst := some 68, op := Op.fieldAddr 25 (Operand.tmp 9) 4, type := 0, pos := "ref.go:128", after := #[{ on := 21, ground := Ground.guard }], guard := some (21, true) }) (v := undef) rfl (by kernel_rfl) (by kernel_rfl) (by kernel_rfl) (fun _ _ _ h => h) (Or.inr ⟨by rfl, rfl⟩) (by assumption) ?_
        (try simp only [Act.put, List.setIfInBounds_toArray, List.set_cons_zero, List.set_cons_succ])
        refine wpAnyH_take (i := 23) (oi := { dst := some 69, op := Op.load 23 (Operand.tmp 68), type := 23, pos := "ref.go:128", after := #[{ on := 22, ground := Ground.data }, { on := 21, ground := Ground.guard }], guard := some (21, true) }) (v := undef) rfl (by kernel_rfl) (by kernel_rfl) (by kernel_rfl) (fun _ _ _ h => h) (Or.inr ⟨by rfl, rfl⟩) (by assumption) ?_
        (try simp only [Act.put, List.setIfInBounds_toArray, List.set_cons_zero, List.set_cons_succ])
        refine wpAnyH_take (i := 24) (oi := { dst := some 70, op := Op.call { callee := Callee.builtin Builtin.len, args := #[Operand.tmp 69], argTypes := #[23] }, type := 3, pos := "ref.go:128", after := #[{ on := 23, ground := Ground.data }, { on := 21, ground := Ground.guard }], guard := some (21, true) }) (v := undef) rfl (by kernel_rfl) (by kernel_rfl) (by kernel_rfl) (fun _ _ _ h => h) (Or.inr ⟨by rfl, rfl⟩) (by assumption) ?_
        (try simp only [Act.put, List.setIfInBounds_toArray, List.set_cons_zero, List.set_cons_succ])
        refine wpAnyH_take (i := 25) (oi := { dst := some 71, op := Op.move (Operand.tmp 10), type := 3, pos := "ref.go:128", after := #[{ on := 21, ground := Ground.guard }], guard := some (21, true) }) (v := undef) rfl (by kernel_rfl) (by kernel_rfl) (by kernel_rfl) (fun _ _ _ h => h) (Or.inr ⟨by rfl, rfl⟩) (by assumption) ?_
        (try simp only [Act.put, List.setIfInBounds_toArray, List.set_cons_zero, List.set_cons_succ])
        refine wpAnyH_take (i := 26) (oi := { dst := some 72, op := Op.binOp BinOp.neq 3 (Operand.tmp 70) (Operand.tmp 71) 3, type := 4, pos := "ref.go:128", after := #[{ on := 24, ground := Ground.data }, { on := 25, ground := Ground.data }, { on := 21, ground := Ground.guard }], guard := some (21, true) }) (v := undef) rfl (by kernel_rfl) (by kernel_rfl) (by kernel_rfl) (fun _ _ _ h => h) (Or.inr ⟨by rfl, rfl⟩) (by assumption) ?_
        (try simp only [Act.put, List.setIfInBounds_toArray, List.set_cons_zero, List.set_cons_succ])
        refine wpAnyH_take (i := 27) (oi := { dst := some 73, op := Op.pick (Operand.tmp 67) (Operand.tmp 72) (Operand.const (Value.bool false)), type := 4, pos := "ref.go:128", after := #[{ on := 21, ground := Ground.data }, { on := 26, ground := Ground.data }, { on := 18, ground := Ground.guard }], guard := some (18, false) }) (v := undef) rfl (by kernel_rfl) (by kernel_rfl) (by kernel_rfl) (fun _ _ _ h => h) (Or.inr ⟨by rfl, rfl⟩) (by assumption) ?_
        (try simp only [Act.put, List.setIfInBounds_toArray, List.set_cons_zero, List.set_cons_succ])
        refine wpAnyH_take (i := 28) (oi := { dst := some 74, op := Op.pick (Operand.tmp 64) (Operand.const (Value.bool true)) (Operand.tmp 73), type := 4, pos := "ref.go:128", after := #[{ on := 18, ground := Ground.data }, { on := 27, ground := Ground.data }], guard := none }) (v := ?vq2028) rfl (by kernel_rfl) (by kernel_rfl) (by kernel_rfl) (fun _ _ _ h => h) (Or.inl ⟨by rfl, ?hq2028⟩) (by assumption) ?_
        case hq2028 => intro w hSw; (try dsimp only at hSw); go_simp; try (with_reducible rfl)
        (try simp only [Act.put, List.setIfInBounds_toArray, List.set_cons_zero, List.set_cons_succ])
        refine wpAnyH_take (i := 29) (oi := { dst := some 75, op := Op.move (Operand.tmp 74), type := 4, pos := "ref.go:128", after := #[{ on := 28, ground := Ground.data }, { on := 21, ground := Ground.chain }], guard := none }) (v := ?vq2029) rfl (by kernel_rfl) (by kernel_rfl) (by kernel_rfl) (fun _ _ _ h => h) (Or.inl ⟨by rfl, ?hq2029⟩) (by assumption) ?_
        case hq2029 => intro w hSw; (try dsimp only at hSw); go_simp; try (with_reducible rfl)
        (try simp only [Act.put, List.setIfInBounds_toArray, List.set_cons_zero, List.set_cons_succ])
        refine wpAnyH_take (i := 30) (oi := { dst := some 76, op := Op.move (Operand.tmp 10), type := 3, pos := "ref.go:128", after := #[{ on := 29, ground := Ground.guard }], guard := some (29, false) }) (v := undef) rfl (by kernel_rfl) (by kernel_rfl) (by kernel_rfl) (fun _ _ _ h => h) (Or.inr ⟨by rfl, rfl⟩) (by assumption) ?_
        (try simp only [Act.put, List.setIfInBounds_toArray, List.set_cons_zero, List.set_cons_succ])
        refine wpAnyH_take (i := 31) (oi := { dst := some 77, op := Op.binOp BinOp.lss 3 (Operand.tmp 76) (Operand.const (Value.int IntKind.i64 0)) 3, type := 4, pos := "ref.go:128", after := #[{ on := 30, ground := Ground.data }, { on := 29, ground := Ground.guard }], guard := some (29, false) }) (v := undef) rfl (by kernel_rfl) (by kernel_rfl) (by kernel_rfl) (fun _ _ _ h => h) (Or.inr ⟨by rfl, rfl⟩) (by assumption) ?_
        (try simp only [Act.put, List.setIfInBounds_toArray, List.set_cons_zero, List.set_cons_succ])
        refine wpAnyH_take (i := 32) (oi := { dst := some 78, op := Op.move (Operand.tmp 77), type := 4, pos := "ref.go:128", after := #[{ on := 31, ground := Ground.data }, { on := 29, ground := Ground.chain }, { on := 29, ground := Ground.guard }], guard := some (29, false) }) (v := undef) rfl (by kernel_rfl) (by kernel_rfl) (by kernel_rfl) (fun _ _ _ h => h) (Or.inr ⟨by rfl, rfl⟩) (by assumption) ?_
        (try simp only [Act.put, List.setIfInBounds_toArray, List.set_cons_zero, List.set_cons_succ])
        refine wpAnyH_take (i := 33) (oi := { dst := some 79, op := Op.fieldAddr 25 (Operand.tmp 9) 4, type := 0, pos := "ref.go:128", after := #[{ on := 32, ground := Ground.guard }], guard := some (32, true) }) (v := undef) rfl (by kernel_rfl) (by kernel_rfl) (by kernel_rfl) (fun _ _ _ h => h) (Or.inr ⟨by rfl, rfl⟩) (by assumption) ?_
        (try simp only [Act.put, List.setIfInBounds_toArray, List.set_cons_zero, List.set_cons_succ])
        refine wpAnyH_take (i := 34) (oi := { dst := some 80, op := Op.load 23 (Operand.tmp 79), type := 23, pos := "ref.go:128", after := #[{ on := 33, ground := Ground.data }, { on := 32, ground := Ground.guard }], guard := some (32, true) }) (v := undef) rfl (by kernel_rfl) (by kernel_rfl) (by kernel_rfl) (fun _ _ _ h => h) (Or.inr ⟨by rfl, rfl⟩) (by assumption) ?_
        (try simp only [Act.put, List.setIfInBounds_toArray, List.set_cons_zero, List.set_cons_succ])
        refine wpAnyH_take (i := 35) (oi := { dst := some 81, op := Op.call { callee := Callee.builtin Builtin.len, args := #[Operand.tmp 80], argTypes := #[23] }, type := 3, pos := "ref.go:128", after := #[{ on := 34, ground := Ground.data }, { on := 32, ground := Ground.guard }], guard := some (32, true) }) (v := undef) rfl (by kernel_rfl) (by kernel_rfl) (by kernel_rfl) (fun _ _ _ h => h) (Or.inr ⟨by rfl, rfl⟩) (by assumption) ?_
        (try simp only [Act.put, List.setIfInBounds_toArray, List.set_cons_zero, List.set_cons_succ])
        refine wpAnyH_take (i := 36) (oi := { dst := some 82, op := Op.binOp BinOp.lss 3 (Operand.tmp 81) (Operand.const (Value.int IntKind.i64 1)) 3, type := 4, pos := "ref.go:128", after := #[{ on := 35, ground := Ground.data }, { on := 32, ground := Ground.guard }], guard := some (32, true) }) (v := undef) rfl (by kernel_rfl) (by kernel_rfl) (by kernel_rfl) (fun _ _ _ h => h) (Or.inr ⟨by rfl, rfl⟩) (by assumption) ?_
        (try simp only [Act.put, List.setIfInBounds_toArray, List.set_cons_zero, List.set_cons_succ])
        refine wpAnyH_take (i := 37) (oi := { dst := some 83, op := Op.pick (Operand.tmp 78) (Operand.tmp 82) (Operand.const (Value.bool false)), type := 4, pos := "ref.go:128", after := #[{ on := 32, ground := Ground.data }, { on := 36, ground := Ground.data }, { on := 29, ground := Ground.guard }], guard := some (29, false) }) (v := undef) rfl (by kernel_rfl) (by kernel_rfl) (by kernel_rfl) (fun _ _ _ h => h) (Or.inr ⟨by rfl, rfl⟩) (by assumption) ?_
        (try simp only [Act.put, List.setIfInBounds_toArray, List.set_cons_zero, List.set_cons_succ])
        refine wpAnyH_take (i := 38) (oi := { dst := some 84, op := Op.pick (Operand.tmp 75) (Operand.const (Value.bool true)) (Operand.tmp 83), type := 4, pos := "ref.go:128", after := #[{ on := 29, ground := Ground.data }, { on := 37, ground := Ground.data }], guard := none }) (v := ?vq2038) rfl (by kernel_rfl) (by kernel_rfl) (by kernel_rfl) (fun _ _ _ h => h) (Or.inl ⟨by rfl, ?hq2038⟩) (by assumption) ?_
        case hq2038 => intro w hSw; (try dsimp only at hSw); go_simp; try (with_reducible rfl)
        (try simp only [Act.put, List.setIfInBounds_toArray, List.set_cons_zero, List.set_cons_succ])
        refine wpAnyH_done (by kernel_rfl) ?_ _
        go_wp2
        go_returns
        exact ⟨false, rfl, ⟨fun h => (by cases h), fun h => by have := h.ins x (List.mem_of_getElem? HX.out); rw [instr_ref HKL.out HK.out, HF.out] at this; exact absurd this.1 (by simp)⟩, zw4.out⟩
      | true =>
      have HF := Lib.hid hf9
      rw [hf9] at hfl2
      clear hf9
      have hb26 : Hid (x.op = 26 → 0 ≤ x.b ∧ x.b < p.fs.length) := Lib.hid (fun h => call_in h HF.out)
      have hal := fun W => allowed_any k x (.slice oal x.l.length capl) W
      unfold In.val at hal
      cases ha9 : standsB x.op k with
      | false =>
        have HA := Lib.hid ha9
        rw [ha9] at hal
        clear ha9
        go_wp2_with fail
        refine wp_region_held_drew (S := (fun w' => (w'.cell? ⟨w.heap.size, 0, none⟩ = some (.slice (some ⟨bf, off, none⟩) p.fs.length capf) ∧ w'.cell? ⟨w.heap.size, 1, none⟩ = some (.slice oac p.cs.length capc) ∧ w'.cell? ⟨bk, offk + i, none⟩ = some (.int .i64 k)) ∧ w'.cell? ⟨bx, 0, none⟩ = some (.int .i64 x.op) ∧ w'.cell? ⟨bx, 1, none⟩ = some (.int .i64 x.a) ∧ w'.cell? ⟨bx, 2, none⟩ = some (.int .i64 x.b) ∧ w'.cell? ⟨bx, 3, none⟩ = some (.int .i64 x.c) ∧ w'.cell? ⟨bx, 4, none⟩ = some (.slice oal x.l.length capl))) (by kernel_rfl) ?_ (fun hHeld => ?_)
        · exact ⟨⟨z0, z1, z3⟩, y0, y1, y2, y3, y4⟩
        refine wpAnyH_take (i := 0) (oi := { dst := some 46, op := Op.load 25 (Operand.tmp 9), type := 25, pos := "ref.go:128", after := #[], guard := none }) (v := ?vq3000) rfl (by kernel_rfl) (by kernel_rfl) (by kernel_rfl) (fun _ _ _ h => h) (Or.inl ⟨by rfl, ?hq3000⟩) (by assumption) ?_
        case hq3000 => intro w hSw; (try dsimp only at hSw); go_simp; try (with_reducible rfl)
        (try simp only [Act.put, List.setIfInBounds_toArray, List.set_cons_zero, List.set_cons_succ])
        refine wpAnyH_ready (rs := [1]) (by kernel_rfl) (by simp) ?_
        refine AllReadyH.cons (o := { dst := some 47, op := Op.call { callee := Callee.value (Operand.func 29), args := #[Operand.tmp 46], argTypes := #[25] }, type := 4, pos := "ref.go:128", after := #[{ on := 0, ground := Ground.data }], guard := none }) rfl (fun K hK => ?_) AllReadyH.nil
        go_simp
        (go_at_call 29; refine (hkn _).mono ?_; rintro e w3 ⟨rfl, hb3⟩; have B3 : Below w2.heap.size w2 w3 := undrew2 hb3; obtain ⟨bw3, y30, y31, y32, y33, y34⟩ := hkc.out w3 B3; obtain ⟨z30, z31, -, zw3, -, z33⟩ := hpb.out w3 bw3; clear hb3; replace B3 := Lib.hid B3; replace bw3 := Lib.hid bw3; replace zw3 := Lib.hid zw3)
        refine hK.out _ _ ?_ (fun hHeld => ?_)
        · (refine ⟨⟨?_, ?_, ?_⟩, ?_, ?_, ?_, ?_, ?_⟩ <;> assumption)
        clear hK K
        (try simp only [Act.put, List.setIfInBounds_toArray, List.set_cons_zero, List.set_cons_succ])
        refine wpAnyH_take (i := 2) (oi := { dst := some 48, op := Op.unOp UnOp.not 4 (Operand.tmp 47), type := 4, pos := "ref.go:128", after := #[{ on := 1, ground := Ground.data }], guard := none }) (v := ?vq3002) rfl (by kernel_rfl) (by kernel_rfl) (by kernel_rfl) (fun _ _ _ h => h) (Or.inl ⟨by rfl, ?hq3002⟩) (by assumption) ?_
        case hq3002 => intro w hSw; (try dsimp only at hSw); go_simp; try (with_reducible rfl)
        (try simp only [Act.put, List.setIfInBounds_toArray, List.set_cons_zero, List.set_cons_succ])
        refine wpAnyH_take (i := 3) (oi := { dst := some 49, op := Op.move (Operand.tmp 48), type := 4, pos := "ref.go:128", after := #[{ on := 2, ground := Ground.data }, { on := 1, ground := Ground.chain }], guard := none }) (v := ?vq3003) rfl (by kernel_rfl) (by kernel_rfl) (by kernel_rfl) (fun _ _ _ h => h) (Or.inl ⟨by rfl, ?hq3003⟩) (by assumption) ?_
        case hq3003 => intro w hSw; (try dsimp only at hSw); go_simp; try (with_reducible rfl)
        (try simp only [Act.put, List.setIfInBounds_toArray, List.set_cons_zero, List.set_cons_succ])
        refine wpAnyH_take (i := 4) (oi := { dst := some 50, op := Op.load 35 (Operand.tmp 3), type := 35, pos := "ref.go:128", after := #[{ on := 3, ground := Ground.guard }], guard := some (3, false) }) (v := ?vq3004) rfl (by kernel_rfl) (by kernel_rfl) (by kernel_rfl) (fun _ _ _ h => h) (Or.inl ⟨by rfl, ?hq3004⟩) (by assumption) ?_
        case hq3004 => intro w hSw; (try dsimp only at hSw); go_simp; try (with_reducible rfl)
        (try simp only [Act.put, List.setIfInBounds_toArray, List.set_cons_zero, List.set_cons_succ])
        refine wpAnyH_take (i := 5) (oi := { dst := some 51, op := Op.load 25 (Operand.tmp 9), type := 25, pos := "ref.go:128", after := #[{ on := 3, ground := Ground.guard }], guard := some (3, false) }) (v := ?vq3005) rfl (by kernel_rfl) (by kernel_rfl) (by kernel_rfl) (fun _ _ _ h => h) (Or.inl ⟨by rfl, ?hq3005⟩) (by assumption) ?_
        case hq3005 => intro w hSw; (try dsimp only at hSw); go_simp; try (with_reducible rfl)
        (try simp only [Act.put, List.setIfInBounds_toArray, List.set_cons_zero, List.set_cons_succ])
        refine wpAnyH_ready (rs := [6]) (by kernel_rfl) (by simp) ?_
        refine AllReadyH.cons (o := { dst := some 52, op := Op.call { callee := Callee.value (Operand.func 45), args := #[Operand.tmp 50, Operand.tmp 51], argTypes := #[35, 25] }, type := 4, pos := "ref.go:128", after := #[{ on := 4, ground := Ground.data }, { on := 5, ground := Ground.data }, { on := 3, ground := Ground.chain }, { on := 3, ground := Ground.guard }], guard := some (3, false) }) rfl (fun K hK => ?_) AllReadyH.nil
        go_simp
        (go_at_call 45; refine (hfl2 _).mono ?_; rintro e w4 ⟨rfl, hb4⟩; have B4 : Below w2.heap.size w2 w4 := B3.out.trans (hb4.mono B3.out.size); obtain ⟨bw4, y40, y41, y42, y43, y44⟩ := hkc.out w4 B4; obtain ⟨z40, z41, -, zw4, -, z43⟩ := hpb.out w4 bw4; clear hb4; replace B4 := Lib.hid B4; replace bw4 := Lib.hid bw4; replace zw4 := Lib.hid zw4)
        refine hK.out _ _ ?_ (fun hHeld => ?_)
        · (refine ⟨⟨?_, ?_, ?_⟩, ?_, ?_, ?_, ?_, ?_⟩ <;> assumption)
        clear hK K
        (try simp only [Act.put, List.setIfInBounds_toArray, List.set_cons_zero, List.set_cons_succ])
        refine wpAnyH_take (i := 7) (oi := { dst := some 53, op := Op.unOp UnOp.not 4 (Operand.tmp 52), type := 4, pos := "ref.go:128", after := #[{ on := 6, ground := Ground.data }, { on := 3, ground := Ground.guard }], guard := some (3, false) }) (v := ?vq3007) rfl (by kernel_rfl) (by kernel_rfl) (by kernel_rfl) (fun _ _ _ h => h) (Or.inl ⟨by rfl, ?hq3007⟩) (by assumption) ?_
        case hq3007 => intro w hSw; (try dsimp only at hSw); go_simp; try (with_reducible rfl)
        (try simp only [Act.put, List.setIfInBounds_toArray, List.set_cons_zero, List.set_cons_succ])
        refine wpAnyH_take (i := 8) (oi := { dst := some 54, op := Op.pick (Operand.tmp 49) (Operand.const (Value.bool true)) (Operand.tmp 53), type := 4, pos := "ref.go:128", after := #[{ on := 3, ground := Ground.data }, { on := 7, ground := Ground.data }], guard := none }) (v := ?vq3008) rfl (by kernel_rfl) (by kernel_rfl) (by kernel_rfl) (fun _ _ _ h => h) (Or.inl ⟨by rfl, ?hq3008⟩) (by assumption) ?_
        case hq3008 => intro w hSw; (try dsimp only at hSw); go_simp; try (with_reducible rfl)
        (try simp only [Act.put, List.setIfInBounds_toArray, List.set_cons_zero, List.set_cons_succ])
        refine wpAnyH_take (i := 9) (oi := { dst := some 55, op := Op.move (Operand.tmp 54), type := 4, pos := "ref.go:128", after := #[{ on := 8, ground := Ground.data }, { on := 6, ground := Ground.chain }], guard := none }) (v := ?vq3009) rfl (by kernel_rfl) (by kernel_rfl) (by kernel_rfl) (fun _ _ _ h => h) (Or.inl ⟨by rfl, ?hq3009⟩) (by assumption) ?_
        case hq3009 => intro w hSw; (try dsimp only at hSw); go_simp; try (with_reducible rfl)
        (try simp only [Act.put, List.setIfInBounds_toArray, List.set_cons_zero, List.set_cons_succ])
        refine wpAnyH_take (i := 10) (oi := { dst := some 56, op := Op.move (Operand.tmp 1), type := 23, pos := "ref.go:128", after := #[{ on := 9, ground := Ground.guard }], guard := some (9, false) }) (v := ?vq3010) rfl (by kernel_rfl) (by kernel_rfl) (by kernel_rfl) (fun _ _ _ h => h) (Or.inl ⟨by rfl, ?hq3010⟩) (by assumption) ?_
        case hq3010 => intro w hSw; (try dsimp only at hSw); go_simp; try (with_reducible rfl)
        (try simp only [Act.put, List.setIfInBounds_toArray, List.set_cons_zero, List.set_cons_succ])
        refine wpAnyH_take (i := 11) (oi := { dst := some 57, op := Op.move (Operand.tmp 2), type := 3, pos := "ref.go:128", after := #[{ on := 9, ground := Ground.guard }], guard := some (9, false) }) (v := ?vq3011) rfl (by kernel_rfl) (by kernel_rfl) (by kernel_rfl) (fun _ _ _ h => h) (Or.inl ⟨by rfl, ?hq3011⟩) (by assumption) ?_
        case hq3011 => intro w hSw; (try dsimp only at hSw); go_simp; try (with_reducible rfl)
        (try simp only [Act.put, List.setIfInBounds_toArray, List.set_cons_zero, List.set_cons_succ])
        refine wpAnyH_take (i := 12) (oi := { dst := some 58, op := Op.indexAddr 23 (Operand.tmp 56) (Operand.tmp 57), type := 0, pos := "ref.go:128", after := #[{ on := 10, ground := Ground.data }, { on := 11, ground := Ground.data }, { on := 9, ground := Ground.guard }], guard := some (9, false) }) (v := ?vq3012) rfl (by kernel_rfl) (by kernel_rfl) (by kernel_rfl) (fun _ _ _ h => h) (Or.inl ⟨by rfl, ?hq3012⟩) (by assumption) ?_
        case hq3012 => intro w hSw; (try dsimp only at hSw); go_simp; try (with_reducible rfl)
        (try simp only [Act.put, List.setIfInBounds_toArray, List.set_cons_zero, List.set_cons_succ])
        refine wpAnyH_take (i := 13) (oi := { dst := some 59, op := Op.load 3 (Operand.tmp 58), type := 3, pos := "ref.go:128", after := #[{ on := 12, ground := Ground.data }, { on := 9, ground := Ground.guard }], guard := some (9, false) }) (v := ?vq3013) rfl (by kernel_rfl) (by kernel_rfl) (by kernel_rfl) (fun _ _ _ h => h) (Or.inl ⟨by rfl, ?hq3013⟩) (by assumption) ?_
        case hq3013 => intro w hSw; (try dsimp only at hSw); go_simp; try (with_reducible rfl)
        (try simp only [Act.put, List.setIfInBounds_toArray, List.set_cons_zero, List.set_cons_succ])
        refine wpAnyH_take (i := 14) (oi := { dst := some 60, op := Op.load 25 (Operand.tmp 9), type := 25, pos := "ref.go:128", after := #[{ on := 9, ground := Ground.guard }], guard := some (9, false) }) (v := ?vq3014) rfl (by kernel_rfl) (by kernel_rfl) (by kernel_rfl) (fun _ _ _ h => h) (Or.inl ⟨by rfl, ?hq3014⟩) (by assumption) ?_
        case hq3014 => intro w hSw; (try dsimp only at hSw); go_simp; try (with_reducible rfl)
        (try simp only [Act.put, List.setIfInBounds_toArray, List.set_cons_zero, List.set_cons_succ])
        refine wpAnyH_ready (rs := [15]) (by kernel_rfl) (by simp) ?_
        refine AllReadyH.cons (o := { dst := some 61, op := Op.call { callee := Callee.value (Operand.func 46), args := #[Operand.tmp 59, Operand.tmp 60], argTypes := #[3, 25] }, type := 4, pos := "ref.go:128", after := #[{ on := 13, ground := Ground.data }, { on := 14, ground := Ground.data }, { on := 9, ground := Ground.chain }, { on := 9, ground := Ground.guard }], guard := some (9, false) }) rfl (fun K hK => ?_) AllReadyH.nil
        go_simp
        (go_at_call 46; refine (hal _).mono ?_; rintro e w5 ⟨rfl, hb5⟩; have B5 : Below w2.heap.size w2 w5 := B4.out.trans (hb5.mono B4.out.size); obtain ⟨bw5, y50, y51, y52, y53, y54⟩ := hkc.out w5 B5; obtain ⟨z50, z51, -, zw5, -, z53⟩ := hpb.out w5 bw5; clear hb5; replace B5 := Lib.hid B5; replace bw5 := Lib.hid bw5; replace zw5 := Lib.hid zw5)
        refine hK.out _ _ ?_ (fun hHeld => ?_)
        · (refine ⟨⟨?_, ?_, ?_⟩, ?_, ?_, ?_, ?_, ?_⟩ <;> assumption)
        clear hK K
        (try simp only [Act.put, List.setIfInBounds_toArray, List.set_cons_zero, List.set_cons_succ])
        refine wpAnyH_take (i := 16) (oi := { dst := some 62, op := Op.unOp UnOp.not 4 (Operand.tmp 61), type := 4, pos := "ref.go:128", after := #[{ on := 15, ground := Ground.data }, { on := 9, ground := Ground.guard }], guard := some (9, false) }) (v := ?vq3016) rfl (by kernel_rfl) (by kernel_rfl) (by kernel_rfl) (fun _ _ _ h => h) (Or.inl ⟨by rfl, ?hq3016⟩) (by assumption) ?_
        case hq3016 => intro w hSw; (try dsimp only at hSw); go_simp; try (with_reducible rfl)
        (try simp only [Act.put, List.setIfInBounds_toArray, List.set_cons_zero, List.set_cons_succ])
        refine wpAnyH_take (i := 17) (oi := { dst := some 63, op := Op.pick (Operand.tmp 55) (Operand.const (Value.bool true)) (Operand.tmp 62), type := 4, pos := "ref.go:128", after := #[{ on := 9, ground := Ground.data }, { on := 16, ground := Ground.data }], guard := none }) (v := ?vq3017) rfl (by kernel_rfl) (by kernel_rfl) (by kernel_rfl) (fun _ _ _ h => h) (Or.inl ⟨by rfl, ?hq3017⟩) (by assumption) ?_
        case hq3017 => intro w hSw; (try dsimp only at hSw); go_simp; try (with_reducible rfl)
        (try simp only [Act.put, List.setIfInBounds_toArray, List.set_cons_zero, List.set_cons_succ])
        refine wpAnyH_take (i := 18) (oi := { dst := some 64, op := Op.move (Operand.tmp 63), type := 4, pos := "ref.go:128", after := #[{ on := 17, ground := Ground.data }, { on := 15, ground := Ground.chain }], guard := none }) (v := ?vq3018) rfl (by kernel_rfl) (by kernel_rfl) (by kernel_rfl) (fun _ _ _ h => h) (Or.inl ⟨by rfl, ?hq3018⟩) (by assumption) ?_
        case hq3018 => intro w hSw; (try dsimp only at hSw); go_simp; try (with_reducible rfl)
        (try simp only [Act.put, List.setIfInBounds_toArray, List.set_cons_zero, List.set_cons_succ])
        refine wpAnyH_take (i := 19) (oi := { dst := some 65, op := Op.move (Operand.tmp 10), type := 3, pos := "ref.go:128", after := #[{ on := 18, ground := Ground.guard }], guard := some (18, false) }) (v := undef) rfl (by kernel_rfl) (by kernel_rfl) (by kernel_rfl) (fun _ _ _ h => h) (Or.inr ⟨by rfl, rfl⟩) (by assumption) ?_
        (try simp only [Act.put, List.setIfInBounds_toArray, List.set_cons_zero, List.set_cons_succ])
        refine wpAnyH_take (i := 20) (oi := { dst := some 66, op := Op.binOp BinOp.geq 3 (Operand.tmp 65) (Operand.const (Value.int IntKind.i64 0)) 3, type := 4, pos := "ref.go:128", after := #[{ on := 19, ground := Ground.data }, { on := 18, ground := Ground.guard }], guard := some (18, false) }) (v := undef) rfl (by kernel_rfl) (by kernel_rfl) (by kernel_rfl) (fun _ _ _ h => h) (Or.inr ⟨by rfl, rfl⟩) (by assumption) ?_
        (try simp only [Act.put, List.setIfInBounds_toArray, List.set_cons_zero, List.set_cons_succ])
        refine wpAnyH_take (i := 21) (oi := { dst := some 67, op := Op.move (Operand.tmp 66), type := 4, pos := "ref.go:128", after := #[{ on := 20, ground := Ground.data }, { on := 18, ground := Ground.chain }, { on := 18, ground := Ground.guard }], guard := some (18, false) }) (v := undef) rfl (by kernel_rfl) (by kernel_rfl) (by kernel_rfl) (fun _ _ _ h => h) (Or.inr ⟨by rfl, rfl⟩) (by assumption) ?_
        (try simp only [Act.put, List.setIfInBounds_toArray, List.set_cons_zero, List.set_cons_succ])
        refine wpAnyH_take (i := 22) (oi := { dst := some 68, op := Op.fieldAddr 25 (Operand.tmp 9) 4, type := 0, pos := "ref.go:128", after := #[{ on := 21, ground := Ground.guard }], guard := some (21, true) }) (v := undef) rfl (by kernel_rfl) (by kernel_rfl) (by kernel_rfl) (fun _ _ _ h => h) (Or.inr ⟨by rfl, rfl⟩) (by assumption) ?_
        (try simp only [Act.put, List.setIfInBounds_toArray, List.set_cons_zero, List.set_cons_succ])
        refine wpAnyH_take (i := 23) (oi := { dst := some 69, op := Op.load 23 (Operand.tmp 68), type := 23, pos := "ref.go:128", after := #[{ on := 22, ground := Ground.data }, { on := 21, ground := Ground.guard }], guard := some (21, true) }) (v := undef) rfl (by kernel_rfl) (by kernel_rfl) (by kernel_rfl) (fun _ _ _ h => h) (Or.inr ⟨by rfl, rfl⟩) (by assumption) ?_
        (try simp only [Act.put, List.setIfInBounds_toArray, List.set_cons_zero, List.set_cons_succ])
        refine wpAnyH_take (i := 24) (oi := { dst := some 70, op := Op.call { callee := Callee.builtin Builtin.len, args := #[Operand.tmp 69], argTypes := #[23] }, type := 3, pos := "ref.go:128", after := #[{ on := 23, ground := Ground.data }, { on := 21, ground := Ground.guard }], guard := some (21, true) }) (v := undef) rfl (by kernel_rfl) (by kernel_rfl) (by kernel_rfl) (fun _ _ _ h => h) (Or.inr ⟨by rfl, rfl⟩) (by assumption) ?_
        (try simp only [Act.put, List.setIfInBounds_toArray, List.set_cons_zero, List.set_cons_succ])
        refine wpAnyH_take (i := 25) (oi := { dst := some 71, op := Op.move (Operand.tmp 10), type := 3, pos := "ref.go:128", after := #[{ on := 21, ground := Ground.guard }], guard := some (21, true) }) (v := undef) rfl (by kernel_rfl) (by kernel_rfl) (by kernel_rfl) (fun _ _ _ h => h) (Or.inr ⟨by rfl, rfl⟩) (by assumption) ?_
        (try simp only [Act.put, List.setIfInBounds_toArray, List.set_cons_zero, List.set_cons_succ])
        refine wpAnyH_take (i := 26) (oi := { dst := some 72, op := Op.binOp BinOp.neq 3 (Operand.tmp 70) (Operand.tmp 71) 3, type := 4, pos := "ref.go:128", after := #[{ on := 24, ground := Ground.data }, { on := 25, ground := Ground.data }, { on := 21, ground := Ground.guard }], guard := some (21, true) }) (v := undef) rfl (by kernel_rfl) (by kernel_rfl) (by kernel_rfl) (fun _ _ _ h => h) (Or.inr ⟨by rfl, rfl⟩) (by assumption) ?_
        (try simp only [Act.put, List.setIfInBounds_toArray, List.set_cons_zero, List.set_cons_succ])
        refine wpAnyH_take (i := 27) (oi := { dst := some 73, op := Op.pick (Operand.tmp 67) (Operand.tmp 72) (Operand.const (Value.bool false)), type := 4, pos := "ref.go:128", after := #[{ on := 21, ground := Ground.data }, { on := 26, ground := Ground.data }, { on := 18, ground := Ground.guard }], guard := some (18, false) }) (v := undef) rfl (by kernel_rfl) (by kernel_rfl) (by kernel_rfl) (fun _ _ _ h => h) (Or.inr ⟨by rfl, rfl⟩) (by assumption) ?_
        (try simp only [Act.put, List.setIfInBounds_toArray, List.set_cons_zero, List.set_cons_succ])
        refine wpAnyH_take (i := 28) (oi := { dst := some 74, op := Op.pick (Operand.tmp 64) (Operand.const (Value.bool true)) (Operand.tmp 73), type := 4, pos := "ref.go:128", after := #[{ on := 18, ground := Ground.data }, { on := 27, ground := Ground.data }], guard := none }) (v := ?vq3028) rfl (by kernel_rfl) (by kernel_rfl) (by kernel_rfl) (fun _ _ _ h => h) (Or.inl ⟨by rfl, ?hq3028⟩) (by assumption) ?_
        case hq3028 => intro w hSw; (try dsimp only at hSw); go_simp; try (with_reducible rfl)
        (try simp only [Act.put, List.setIfInBounds_toArray, List.set_cons_zero, List.set_cons_succ])
        refine wpAnyH_take (i := 29) (oi := { dst := some 75, op := Op.move (Operand.tmp 74), type := 4, pos := "ref.go:128", after := #[{ on := 28, ground := Ground.data }, { on := 21, ground := Ground.chain }], guard := none }) (v := ?vq3029) rfl (by kernel_rfl) (by kernel_rfl) (by kernel_rfl) (fun _ _ _ h => h) (Or.inl ⟨by rfl, ?hq3029⟩) (by assumption) ?_
        case hq3029 => intro w hSw; (try dsimp only at hSw); go_simp; try (with_reducible rfl)
        (try simp only [Act.put, List.setIfInBounds_toArray, List.set_cons_zero, List.set_cons_succ])
        refine wpAnyH_take (i := 30) (oi := { dst := some 76, op := Op.move (Operand.tmp 10), type := 3, pos := "ref.go:128", after := #[{ on := 29, ground := Ground.guard }], guard := some (29, false) }) (v := undef) rfl (by kernel_rfl) (by kernel_rfl) (by kernel_rfl) (fun _ _ _ h => h) (Or.inr ⟨by rfl, rfl⟩) (by assumption) ?_
        (try simp only [Act.put, List.setIfInBounds_toArray, List.set_cons_zero, List.set_cons_succ])
        refine wpAnyH_take (i := 31) (oi := { dst := some 77, op := Op.binOp BinOp.lss 3 (Operand.tmp 76) (Operand.const (Value.int IntKind.i64 0)) 3, type := 4, pos := "ref.go:128", after := #[{ on := 30, ground := Ground.data }, { on := 29, ground := Ground.guard }], guard := some (29, false) }) (v := undef) rfl (by kernel_rfl) (by kernel_rfl) (by kernel_rfl) (fun _ _ _ h => h) (Or.inr ⟨by rfl, rfl⟩) (by assumption) ?_
        (try simp only [Act.put, List.setIfInBounds_toArray, List.set_cons_zero, List.set_cons_succ])
        refine wpAnyH_take (i := 32) (oi := { dst := some 78, op := Op.move (Operand.tmp 77), type := 4, pos := "ref.go:128", after := #[{ on := 31, ground := Ground.data }, { on := 29, ground := Ground.chain }, { on := 29, ground := Ground.guard }], guard := some (29, false) }) (v := undef) rfl (by kernel_rfl) (by kernel_rfl) (by kernel_rfl) (fun _ _ _ h => h) (Or.inr ⟨by rfl, rfl⟩) (by assumption) ?_
        (try simp only [Act.put, List.setIfInBounds_toArray, List.set_cons_zero, List.set_cons_succ])
        refine wpAnyH_take (i := 33) (oi := { dst := some 79, op := Op.fieldAddr 25 (Operand.tmp 9) 4, type := 0, pos := "ref.go:128", after := #[{ on := 32, ground := Ground.guard }], guard := some (32, true) }) (v := undef) rfl (by kernel_rfl) (by kernel_rfl) (by kernel_rfl) (fun _ _ _ h => h) (Or.inr ⟨by rfl, rfl⟩) (by assumption) ?_
        (try simp only [Act.put, List.setIfInBounds_toArray, List.set_cons_zero, List.set_cons_succ])
        refine wpAnyH_take (i := 34) (oi := { dst := some 80, op := Op.load 23 (Operand.tmp 79), type := 23, pos := "ref.go:128", after := #[{ on := 33, ground := Ground.data }, { on := 32, ground := Ground.guard }], guard := some (32, true) }) (v := undef) rfl (by kernel_rfl) (by kernel_rfl) (by kernel_rfl) (fun _ _ _ h => h) (Or.inr ⟨by rfl, rfl⟩) (by assumption) ?_
        (try simp only [Act.put, List.setIfInBounds_toArray, List.set_cons_zero, List.set_cons_succ])
        refine wpAnyH_take (i := 35) (oi := { dst := some 81, op := Op.call { callee := Callee.builtin Builtin.len, args := #[Operand.tmp 80], argTypes := #[23] }, type := 3, pos := "ref.go:128", after := #[{ on := 34, ground := Ground.data }, { on := 32, ground := Ground.guard }], guard := some (32, true) }) (v := undef) rfl (by kernel_rfl) (by kernel_rfl) (by kernel_rfl) (fun _ _ _ h => h) (Or.inr ⟨by rfl, rfl⟩) (by assumption) ?_
        (try simp only [Act.put, List.setIfInBounds_toArray, List.set_cons_zero, List.set_cons_succ])
        refine wpAnyH_take (i := 36) (oi := { dst := some 82, op := Op.binOp BinOp.lss 3 (Operand.tmp 81) (Operand.const (Value.int IntKind.i64 1)) 3, type := 4, pos := "ref.go:128", after := #[{ on := 35, ground := Ground.data }, { on := 32, ground := Ground.guard }], guard := some (32, true) }) (v := undef) rfl (by kernel_rfl) (by kernel_rfl) (by kernel_rfl) (fun _ _ _ h => h) (Or.inr ⟨by rfl, rfl⟩) (by assumption) ?_
        (try simp only [Act.put, List.setIfInBounds_toArray, List.set_cons_zero, List.set_cons_succ])
        refine wpAnyH_take (i := 37) (oi := { dst := some 83, op := Op.pick (Operand.tmp 78) (Operand.tmp 82) (Operand.const (Value.bool false)), type := 4, pos := "ref.go:128", after := #[{ on := 32, ground := Ground.data }, { on := 36, ground := Ground.data }, { on := 29, ground := Ground.guard }], guard := some (29, false) }) (v := undef) rfl (by kernel_rfl) (by kernel_rfl) (by kernel_rfl) (fun _ _ _ h => h) (Or.inr ⟨by rfl, rfl⟩) (by assumption) ?_
        (try simp only [Act.put, List.setIfInBounds_toArray, List.set_cons_zero, List.set_cons_succ])
        refine wpAnyH_take (i := 38) (oi := { dst := some 84, op := Op.pick (Operand.tmp 75) (Operand.const (Value.bool true)) (Operand.tmp 83), type := 4, pos := "ref.go:128", after := #[{ on := 29, ground := Ground.data }, { on := 37, ground := Ground.data }], guard := none }) (v := ?vq3038) rfl (by kernel_rfl) (by kernel_rfl) (by kernel_rfl) (fun _ _ _ h => h) (Or.inl ⟨by rfl, ?hq3038⟩) (by assumption) ?_
        case hq3038 => intro w hSw; (try dsimp only at hSw); go_simp; try (with_reducible rfl)
        (try simp only [Act.put, List.setIfInBounds_toArray, List.set_cons_zero, List.set_cons_succ])
        refine wpAnyH_done (by kernel_rfl) ?_ _
        go_wp2
        go_returns
        exact ⟨false, rfl, ⟨fun h => (by cases h), fun h => by have := h.ins x (List.mem_of_getElem? HX.out); rw [instr_ref HKL.out HK.out, HA.out] at this; exact absurd this.2.1 (by simp)⟩, zw5.out⟩
      | true =>
      have HA := Lib.hid ha9
      rw [ha9] at hal
      clear ha9
      by_cases hN0 : 0 ≤ N
      · have t3 : decide (N ≥ 0) = true := by simpa using hN0
        have t4 : decide (N < 0) = false := by simp; omega
        by_cases hl : (x.l.length : Int) = N
        · have t5 : ((x.l.length : Int) != N) = false := by simpa using hl
          have hlc0 : labC N x.l.length = true := by simp [labC, hN0, hl]
          replace hl := Lib.hid hl
          replace hN0 := Lib.hid hN0
          go_wp2_with fail
          refine wp_region_held_drew (S := (fun w' => (w'.cell? ⟨w.heap.size, 0, none⟩ = some (.slice (some ⟨bf, off, none⟩) p.fs.length capf) ∧ w'.cell? ⟨w.heap.size, 1, none⟩ = some (.slice oac p.cs.length capc) ∧ w'.cell? ⟨bk, offk + i, none⟩ = some (.int .i64 k)) ∧ w'.cell? ⟨bx, 0, none⟩ = some (.int .i64 x.op) ∧ w'.cell? ⟨bx, 1, none⟩ = some (.int .i64 x.a) ∧ w'.cell? ⟨bx, 2, none⟩ = some (.int .i64 x.b) ∧ w'.cell? ⟨bx, 3, none⟩ = some (.int .i64 x.c) ∧ w'.cell? ⟨bx, 4, none⟩ = some (.slice oal x.l.length capl))) (by kernel_rfl) ?_ (fun hHeld => ?_)
          · exact ⟨⟨z0, z1, z3⟩, y0, y1, y2, y3, y4⟩
          refine wpAnyH_take (i := 0) (oi := { dst := some 46, op := Op.load 25 (Operand.tmp 9), type := 25, pos := "ref.go:128", after := #[], guard := none }) (v := ?vq4000) rfl (by kernel_rfl) (by kernel_rfl) (by kernel_rfl) (fun _ _ _ h => h) (Or.inl ⟨by rfl, ?hq4000⟩) (by assumption) ?_
          case hq4000 => intro w hSw; (try dsimp only at hSw); go_simp; try (with_reducible rfl)
          (try simp only [Act.put, List.setIfInBounds_toArray, List.set_cons_zero, List.set_cons_succ])
          refine wpAnyH_ready (rs := [1]) (by kernel_rfl) (by simp) ?_
          refine AllReadyH.cons (o := { dst := some 47, op := Op.call { callee := Callee.value (Operand.func 29), args := #[Operand.tmp 46], argTypes := #[25] }, type := 4, pos := "ref.go:128", after := #[{ on := 0, ground := Ground.data }], guard := none }) rfl (fun K hK => ?_) AllReadyH.nil
          go_simp
          (go_at_call 29; refine (hkn _).mono ?_; rintro e w3 ⟨rfl, hb3⟩; have B3 : Below w2.heap.size w2 w3 := undrew2 hb3; obtain ⟨bw3, y30, y31, y32, y33, y34⟩ := hkc.out w3 B3; obtain ⟨z30, z31, -, zw3, -, z33⟩ := hpb.out w3 bw3; clear hb3; replace B3 := Lib.hid B3; replace bw3 := Lib.hid bw3; replace zw3 := Lib.hid zw3)
          refine hK.out _ _ ?_ (fun hHeld => ?_)
          · (refine ⟨⟨?_, ?_, ?_⟩, ?_, ?_, ?_, ?_, ?_⟩ <;> assumption)
          clear hK K
          (try simp only [Act.put, List.setIfInBounds_toArray, List.set_cons_zero, List.set_cons_succ])
          refine wpAnyH_take (i := 2) (oi := { dst := some 48, op := Op.unOp UnOp.not 4 (Operand.tmp 47), type := 4, pos := "ref.go:128", after := #[{ on := 1, ground := Ground.data }], guard := none }) (v := ?vq4002) rfl (by kernel_rfl) (by kernel_rfl) (by kernel_rfl) (fun _ _ _ h => h) (Or.inl ⟨by rfl, ?hq4002⟩) (by assumption) ?_
          case hq4002 => intro w hSw; (try dsimp only at hSw); go_simp; try (with_reducible rfl)
          (try simp only [Act.put, List.setIfInBounds_toArray, List.set_cons_zero, List.set_cons_succ])
          refine wpAnyH_take (i := 3) (oi := { dst := some 49, op := Op.move (Operand.tmp 48), type := 4, pos := "ref.go:128", after := #[{ on := 2, ground := Ground.data }, { on := 1, ground := Ground.chain }], guard := none }) (v := ?vq4003) rfl (by kernel_rfl) (by kernel_rfl) (by kernel_rfl) (fun _ _ _ h => h) (Or.inl ⟨by rfl, ?hq4003⟩) (by assumption) ?_
          case hq4003 => intro w hSw; (try dsimp only at hSw); go_simp; try (with_reducible rfl)
          (try simp only [Act.put, List.setIfInBounds_toArray, List.set_cons_zero, List.set_cons_succ])
          refine wpAnyH_take (i := 4) (oi := { dst := some 50, op := Op.load 35 (Operand.tmp 3), type := 35, pos := "ref.go:128", after := #[{ on := 3, ground := Ground.guard }], guard := some (3, false) }) (v := ?vq4004) rfl (by kernel_rfl) (by kernel_rfl) (by kernel_rfl) (fun _ _ _ h => h) (Or.inl ⟨by rfl, ?hq4004⟩) (by assumption) ?_
          case hq4004 => intro w hSw; (try dsimp only at hSw); go_simp; try (with_reducible rfl)
          (try simp only [Act.put, List.setIfInBounds_toArray, List.set_cons_zero, List.set_cons_succ])
          refine wpAnyH_take (i := 5) (oi := { dst := some 51, op := Op.load 25 (Operand.tmp 9), type := 25, pos := "ref.go:128", after := #[{ on := 3, ground := Ground.guard }], guard := some (3, false) }) (v := ?vq4005) rfl (by kernel_rfl) (by kernel_rfl) (by kernel_rfl) (fun _ _ _ h => h) (Or.inl ⟨by rfl, ?hq4005⟩) (by assumption) ?_
          case hq4005 => intro w hSw; (try dsimp only at hSw); go_simp; try (with_reducible rfl)
          (try simp only [Act.put, List.setIfInBounds_toArray, List.set_cons_zero, List.set_cons_succ])
          refine wpAnyH_ready (rs := [6]) (by kernel_rfl) (by simp) ?_
          refine AllReadyH.cons (o := { dst := some 52, op := Op.call { callee := Callee.value (Operand.func 45), args := #[Operand.tmp 50, Operand.tmp 51], argTypes := #[35, 25] }, type := 4, pos := "ref.go:128", after := #[{ on := 4, ground := Ground.data }, { on := 5, ground := Ground.data }, { on := 3, ground := Ground.chain }, { on := 3, ground := Ground.guard }], guard := some (3, false) }) rfl (fun K hK => ?_) AllReadyH.nil
          go_simp
          (go_at_call 45; refine (hfl2 _).mono ?_; rintro e w4 ⟨rfl, hb4⟩; have B4 : Below w2.heap.size w2 w4 := B3.out.trans (hb4.mono B3.out.size); obtain ⟨bw4, y40, y41, y42, y43, y44⟩ := hkc.out w4 B4; obtain ⟨z40, z41, -, zw4, -, z43⟩ := hpb.out w4 bw4; clear hb4; replace B4 := Lib.hid B4; replace bw4 := Lib.hid bw4; replace zw4 := Lib.hid zw4)
          refine hK.out _ _ ?_ (fun hHeld => ?_)
          · (refine ⟨⟨?_, ?_, ?_⟩, ?_, ?_, ?_, ?_, ?_⟩ <;> assumption)
          clear hK K
          (try simp only [Act.put, List.setIfInBounds_toArray, List.set_cons_zero, List.set_cons_succ])
          refine wpAnyH_take (i := 7) (oi := { dst := some 53, op := Op.unOp UnOp.not 4 (Operand.tmp 52), type := 4, pos := "ref.go:128", after := #[{ on := 6, ground := Ground.data }, { on := 3, ground := Ground.guard }], guard := some (3, false) }) (v := ?vq4007) rfl (by kernel_rfl) (by kernel_rfl) (by kernel_rfl) (fun _ _ _ h => h) (Or.inl ⟨by rfl, ?hq4007⟩) (by assumption) ?_
          case hq4007 => intro w hSw; (try dsimp only at hSw); go_simp; try (with_reducible rfl)
          (try simp only [Act.put, List.setIfInBounds_toArray, List.set_cons_zero, List.set_cons_succ])
          refine wpAnyH_take (i := 8) (oi := { dst := some 54, op := Op.pick (Operand.tmp 49) (Operand.const (Value.bool true)) (Operand.tmp 53), type := 4, pos := "ref.go:128", after := #[{ on := 3, ground := Ground.data }, { on := 7, ground := Ground.data }], guard := none }) (v := ?vq4008) rfl (by kernel_rfl) (by kernel_rfl) (by kernel_rfl) (fun _ _ _ h => h) (Or.inl ⟨by rfl, ?hq4008⟩) (by assumption) ?_
          case hq4008 => intro w hSw; (try dsimp only at hSw); go_simp; try (with_reducible rfl)
          (try simp only [Act.put, List.setIfInBounds_toArray, List.set_cons_zero, List.set_cons_succ])
          refine wpAnyH_take (i := 9) (oi := { dst := some 55, op := Op.move (Operand.tmp 54), type := 4, pos := "ref.go:128", after := #[{ on := 8, ground := Ground.data }, { on := 6, ground := Ground.chain }], guard := none }) (v := ?vq4009) rfl (by kernel_rfl) (by kernel_rfl) (by kernel_rfl) (fun _ _ _ h => h) (Or.inl ⟨by rfl, ?hq4009⟩) (by assumption) ?_
          case hq4009 => intro w hSw; (try dsimp only at hSw); go_simp; try (with_reducible rfl)
          (try simp only [Act.put, List.setIfInBounds_toArray, List.set_cons_zero, List.set_cons_succ])
          refine wpAnyH_take (i := 10) (oi := { dst := some 56, op := Op.move (Operand.tmp 1), type := 23, pos := "ref.go:128", after := #[{ on := 9, ground := Ground.guard }], guard := some (9, false) }) (v := ?vq4010) rfl (by kernel_rfl) (by kernel_rfl) (by kernel_rfl) (fun _ _ _ h => h) (Or.inl ⟨by rfl, ?hq4010⟩) (by assumption) ?_
          case hq4010 => intro w hSw; (try dsimp only at hSw); go_simp; try (with_reducible rfl)
          (try simp only [Act.put, List.setIfInBounds_toArray, List.set_cons_zero, List.set_cons_succ])
          refine wpAnyH_take (i := 11) (oi := { dst := some 57, op := Op.move (Operand.tmp 2), type := 3, pos := "ref.go:128", after := #[{ on := 9, ground := Ground.guard }], guard := some (9, false) }) (v := ?vq4011) rfl (by kernel_rfl) (by kernel_rfl) (by kernel_rfl) (fun _ _ _ h => h) (Or.inl ⟨by rfl, ?hq4011⟩) (by assumption) ?_
          case hq4011 => intro w hSw; (try dsimp only at hSw); go_simp; try (with_reducible rfl)
          (try simp only [Act.put, List.setIfInBounds_toArray, List.set_cons_zero, List.set_cons_succ])
          refine wpAnyH_take (i := 12) (oi := { dst := some 58, op := Op.indexAddr 23 (Operand.tmp 56) (Operand.tmp 57), type := 0, pos := "ref.go:128", after := #[{ on := 10, ground := Ground.data }, { on := 11, ground := Ground.data }, { on := 9, ground := Ground.guard }], guard := some (9, false) }) (v := ?vq4012) rfl (by kernel_rfl) (by kernel_rfl) (by kernel_rfl) (fun _ _ _ h => h) (Or.inl ⟨by rfl, ?hq4012⟩) (by assumption) ?_
          case hq4012 => intro w hSw; (try dsimp only at hSw); go_simp; try (with_reducible rfl)
          (try simp only [Act.put, List.setIfInBounds_toArray, List.set_cons_zero, List.set_cons_succ])
          refine wpAnyH_take (i := 13) (oi := { dst := some 59, op := Op.load 3 (Operand.tmp 58), type := 3, pos := "ref.go:128", after := #[{ on := 12, ground := Ground.data }, { on := 9, ground := Ground.guard }], guard := some (9, false) }) (v := ?vq4013) rfl (by kernel_rfl) (by kernel_rfl) (by kernel_rfl) (fun _ _ _ h => h) (Or.inl ⟨by rfl, ?hq4013⟩) (by assumption) ?_
          case hq4013 => intro w hSw; (try dsimp only at hSw); go_simp; try (with_reducible rfl)
          (try simp only [Act.put, List.setIfInBounds_toArray, List.set_cons_zero, List.set_cons_succ])
          refine wpAnyH_take (i := 14) (oi := { dst := some 60, op := Op.load 25 (Operand.tmp 9), type := 25, pos := "ref.go:128", after := #[{ on := 9, ground := Ground.guard }], guard := some (9, false) }) (v := ?vq4014) rfl (by kernel_rfl) (by kernel_rfl) (by kernel_rfl) (fun _ _ _ h => h) (Or.inl ⟨by rfl, ?hq4014⟩) (by assumption) ?_
          case hq4014 => intro w hSw; (try dsimp only at hSw); go_simp; try (with_reducible rfl)
          (try simp only [Act.put, List.setIfInBounds_toArray, List.set_cons_zero, List.set_cons_succ])
          refine wpAnyH_ready (rs := [15]) (by kernel_rfl) (by simp) ?_
          refine AllReadyH.cons (o := { dst := some 61, op := Op.call { callee := Callee.value (Operand.func 46), args := #[Operand.tmp 59, Operand.tmp 60], argTypes := #[3, 25] }, type := 4, pos := "ref.go:128", after := #[{ on := 13, ground := Ground.data }, { on := 14, ground := Ground.data }, { on := 9, ground := Ground.chain }, { on := 9, ground := Ground.guard }], guard := some (9, false) }) rfl (fun K hK => ?_) AllReadyH.nil
          go_simp
          (go_at_call 46; refine (hal _).mono ?_; rintro e w5 ⟨rfl, hb5⟩; have B5 : Below w2.heap.size w2 w5 := B4.out.trans (hb5.mono B4.out.size); obtain ⟨bw5, y50, y51, y52, y53, y54⟩ := hkc.out w5 B5; obtain ⟨z50, z51, -, zw5, -, z53⟩ := hpb.out w5 bw5; clear hb5; replace B5 := Lib.hid B5; replace bw5 := Lib.hid bw5; replace zw5 := Lib.hid zw5)
          refine hK.out _ _ ?_ (fun hHeld => ?_)
          · (refine ⟨⟨?_, ?_, ?_⟩, ?_, ?_, ?_, ?_, ?_⟩ <;> assumption)
          clear hK K
          (try simp only [Act.put, List.setIfInBounds_toArray, List.set_cons_zero, List.set_cons_succ])
          refine wpAnyH_take (i := 16) (oi := { dst := some 62, op := Op.unOp UnOp.not 4 (Operand.tmp 61), type := 4, pos := "ref.go:128", after := #[{ on := 15, ground := Ground.data }, { on := 9, ground := Ground.guard }], guard := some (9, false) }) (v := ?vq4016) rfl (by kernel_rfl) (by kernel_rfl) (by kernel_rfl) (fun _ _ _ h => h) (Or.inl ⟨by rfl, ?hq4016⟩) (by assumption) ?_
          case hq4016 => intro w hSw; (try dsimp only at hSw); go_simp; try (with_reducible rfl)
          (try simp only [Act.put, List.setIfInBounds_toArray, List.set_cons_zero, List.set_cons_succ])
          refine wpAnyH_take (i := 17) (oi := { dst := some 63, op := Op.pick (Operand.tmp 55) (Operand.const (Value.bool true)) (Operand.tmp 62), type := 4, pos := "ref.go:128", after := #[{ on := 9, ground := Ground.data }, { on := 16, ground := Ground.data }], guard := none }) (v := ?vq4017) rfl (by kernel_rfl) (by kernel_rfl) (by kernel_rfl) (fun _ _ _ h => h) (Or.inl ⟨by rfl, ?hq4017⟩) (by assumption) ?_
          case hq4017 => intro w hSw; (try dsimp only at hSw); go_simp; try (with_reducible rfl)
          (try simp only [Act.put, List.setIfInBounds_toArray, List.set_cons_zero, List.set_cons_succ])
          refine wpAnyH_take (i := 18) (oi := { dst := some 64, op := Op.move (Operand.tmp 63), type := 4, pos := "ref.go:128", after := #[{ on := 17, ground := Ground.data }, { on := 15, ground := Ground.chain }], guard := none }) (v := ?vq4018) rfl (by kernel_rfl) (by kernel_rfl) (by kernel_rfl) (fun _ _ _ h => h) (Or.inl ⟨by rfl, ?hq4018⟩) (by assumption) ?_
          case hq4018 => intro w hSw; (try dsimp only at hSw); go_simp; try (with_reducible rfl)
          (try simp only [Act.put, List.setIfInBounds_toArray, List.set_cons_zero, List.set_cons_succ])
          refine wpAnyH_take (i := 19) (oi := { dst := some 65, op := Op.move (Operand.tmp 10), type := 3, pos := "ref.go:128", after := #[{ on := 18, ground := Ground.guard }], guard := some (18, false) }) (v := ?vq4019) rfl (by kernel_rfl) (by kernel_rfl) (by kernel_rfl) (fun _ _ _ h => h) (Or.inl ⟨by rfl, ?hq4019⟩) (by assumption) ?_
          case hq4019 => intro w hSw; (try dsimp only at hSw); go_simp; try (with_reducible rfl)
          (try simp only [Act.put, List.setIfInBounds_toArray, List.set_cons_zero, List.set_cons_succ])
          refine wpAnyH_take (i := 20) (oi := { dst := some 66, op := Op.binOp BinOp.geq 3 (Operand.tmp 65) (Operand.const (Value.int IntKind.i64 0)) 3, type := 4, pos := "ref.go:128", after := #[{ on := 19, ground := Ground.data }, { on := 18, ground := Ground.guard }], guard := some (18, false) }) (v := ?vq4020) rfl (by kernel_rfl) (by kernel_rfl) (by kernel_rfl) (fun _ _ _ h => h) (Or.inl ⟨by rfl, ?hq4020⟩) (by assumption) ?_
          case hq4020 => intro w hSw; (try dsimp only at hSw); go_simp; try (with_reducible rfl)
          (try simp only [Act.put, List.setIfInBounds_toArray, List.set_cons_zero, List.set_cons_succ])
          refine wpAnyH_take (i := 21) (oi := { dst := some 67, op := Op.move (Operand.tmp 66), type := 4, pos := "ref.go:128", after := #[{ on := 20, ground := Ground.data }, { on := 18, ground := Ground.chain }, { on := 18, ground := Ground.guard }], guard := some (18, false) }) (v := ?vq4021) rfl (by kernel_rfl) (by kernel_rfl) (by kernel_rfl) (fun _ _ _ h => h) (Or.inl ⟨by rfl, ?hq4021⟩) (by assumption) ?_
          case hq4021 => intro w hSw; (try dsimp only at hSw); go_simp; try (with_reducible rfl)
          (try simp only [Act.put, List.setIfInBounds_toArray, List.set_cons_zero, List.set_cons_succ])
          refine wpAnyH_take (i := 22) (oi := { dst := some 68, op := Op.fieldAddr 25 (Operand.tmp 9) 4, type := 0, pos := "ref.go:128", after := #[{ on := 21, ground := Ground.guard }], guard := some (21, true) }) (v := ?vq4022) rfl (by kernel_rfl) (by kernel_rfl) (by kernel_rfl) (fun _ _ _ h => h) (Or.inl ⟨by rfl, ?hq4022⟩) (by assumption) ?_
          case hq4022 => intro w hSw; (try dsimp only at hSw); go_simp; try (with_reducible rfl)
          (try simp only [Act.put, List.setIfInBounds_toArray, List.set_cons_zero, List.set_cons_succ])
          refine wpAnyH_take (i := 23) (oi := { dst := some 69, op := Op.load 23 (Operand.tmp 68), type := 23, pos := "ref.go:128", after := #[{ on := 22, ground := Ground.data }, { on := 21, ground := Ground.guard }], guard := some (21, true) }) (v := ?vq4023) rfl (by kernel_rfl) (by kernel_rfl) (by kernel_rfl) (fun _ _ _ h => h) (Or.inl ⟨by rfl, ?hq4023⟩) (by assumption) ?_
          case hq4023 => intro w hSw; (try dsimp only at hSw); go_simp; try (with_reducible rfl)
          (try simp only [Act.put, List.setIfInBounds_toArray, List.set_cons_zero, List.set_cons_succ])
          refine wpAnyH_take (i := 24) (oi := { dst := some 70, op := Op.call { callee := Callee.builtin Builtin.len, args := #[Operand.tmp 69], argTypes := #[23] }, type := 3, pos := "ref.go:128", after := #[{ on := 23, ground := Ground.data }, { on := 21, ground := Ground.guard }], guard := some (21, true) }) (v := ?vq4024) rfl (by kernel_rfl) (by kernel_rfl) (by kernel_rfl) (fun _ _ _ h => h) (Or.inl ⟨by rfl, ?hq4024⟩) (by assumption) ?_
          case hq4024 => intro w hSw; (try dsimp only at hSw); go_simp; try (with_reducible rfl)
          (try simp only [Act.put, List.setIfInBounds_toArray, List.set_cons_zero, List.set_cons_succ])
          refine wpAnyH_take (i := 25) (oi := { dst := some 71, op := Op.move (Operand.tmp 10), type := 3, pos := "ref.go:128", after := #[{ on := 21, ground := Ground.guard }], guard := some (21, true) }) (v := ?vq4025) rfl (by kernel_rfl) (by kernel_rfl) (by kernel_rfl) (fun _ _ _ h => h) (Or.inl ⟨by rfl, ?hq4025⟩) (by assumption) ?_
          case hq4025 => intro w hSw; (try dsimp only at hSw); go_simp; try (with_reducible rfl)
          (try simp only [Act.put, List.setIfInBounds_toArray, List.set_cons_zero, List.set_cons_succ])
          refine wpAnyH_take (i := 26) (oi := { dst := some 72, op := Op.binOp BinOp.neq 3 (Operand.tmp 70) (Operand.tmp 71) 3, type := 4, pos := "ref.go:128", after := #[{ on := 24, ground := Ground.data }, { on := 25, ground := Ground.data }, { on := 21, ground := Ground.guard }], guard := some (21, true) }) (v := ?vq4026) rfl (by kernel_rfl) (by kernel_rfl) (by kernel_rfl) (fun _ _ _ h => h) (Or.inl ⟨by rfl, ?hq4026⟩) (by assumption) ?_
          case hq4026 => intro w hSw; (try dsimp only at hSw); go_simp; try (with_reducible rfl)
          (try simp only [Act.put, List.setIfInBounds_toArray, List.set_cons_zero, List.set_cons_succ])
          refine wpAnyH_take (i := 27) (oi := { dst := some 73, op := Op.pick (Operand.tmp 67) (Operand.tmp 72) (Operand.const (Value.bool false)), type := 4, pos := "ref.go:128", after := #[{ on := 21, ground := Ground.data }, { on := 26, ground := Ground.data }, { on := 18, ground := Ground.guard }], guard := some (18, false) }) (v := ?vq4027) rfl (by kernel_rfl) (by kernel_rfl) (by kernel_rfl) (fun _ _ _ h => h) (Or.inl ⟨by rfl, ?hq4027⟩) (by assumption) ?_
          case hq4027 => intro w hSw; (try dsimp only at hSw); go_simp; try (with_reducible rfl)
          (try simp only [Act.put, List.setIfInBounds_toArray, List.set_cons_zero, List.set_cons_succ])
          refine wpAnyH_take (i := 28) (oi := { dst := some 74, op := Op.pick (Operand.tmp 64) (Operand.const (Value.bool true)) (Operand.tmp 73), type := 4, pos := "ref.go:128", after := #[{ on := 18, ground := Ground.data }, { on := 27, ground := Ground.data }], guard := none }) (v := ?vq4028) rfl (by kernel_rfl) (by kernel_rfl) (by kernel_rfl) (fun _ _ _ h => h) (Or.inl ⟨by rfl, ?hq4028⟩) (by assumption) ?_
          case hq4028 => intro w hSw; (try dsimp only at hSw); go_simp; try (with_reducible rfl)
          (try simp only [Act.put, List.setIfInBounds_toArray, List.set_cons_zero, List.set_cons_succ])
          refine wpAnyH_take (i := 29) (oi := { dst := some 75, op := Op.move (Operand.tmp 74), type := 4, pos := "ref.go:128", after := #[{ on := 28, ground := Ground.data }, { on := 21, ground := Ground.chain }], guard := none }) (v := ?vq4029) rfl (by kernel_rfl) (by kernel_rfl) (by kernel_rfl) (fun _ _ _ h => h) (Or.inl ⟨by rfl, ?hq4029⟩) (by assumption) ?_
          case hq4029 => intro w hSw; (try dsimp only at hSw); go_simp; try (with_reducible rfl)
          (try simp only [Act.put, List.setIfInBounds_toArray, List.set_cons_zero, List.set_cons_succ])
          refine wpAnyH_take (i := 30) (oi := { dst := some 76, op := Op.move (Operand.tmp 10), type := 3, pos := "ref.go:128", after := #[{ on := 29, ground := Ground.guard }], guard := some (29, false) }) (v := ?vq4030) rfl (by kernel_rfl) (by kernel_rfl) (by kernel_rfl) (fun _ _ _ h => h) (Or.inl ⟨by rfl, ?hq4030⟩) (by assumption) ?_
          case hq4030 => intro w hSw; (try dsimp only at hSw); go_simp; try (with_reducible rfl)
          (try simp only [Act.put, List.setIfInBounds_toArray, List.set_cons_zero, List.set_cons_succ])
          refine wpAnyH_take (i := 31) (oi := { dst := some 77, op := Op.binOp BinOp.lss 3 (Operand.tmp 76) (Operand.const (Value.int IntKind.i64 0)) 3, type := 4, pos := "ref.go:128", after := #[{ on := 30, ground := Ground.data }, { on := 29, ground := Ground.guard }], guard := some (29, false) }) (v := ?vq4031) rfl (by kernel_rfl) (by kernel_rfl) (by kernel_rfl) (fun _ _ _ h => h) (Or.inl ⟨by rfl, ?hq4031⟩) (by assumption) ?_
          case hq4031 => intro w hSw; (try dsimp only at hSw); go_simp; try (with_reducible rfl)
          (try simp only [Act.put, List.setIfInBounds_toArray, List.set_cons_zero, List.set_cons_succ])
          refine wpAnyH_take (i := 32) (oi := { dst := some 78, op := Op.move (Operand.tmp 77), type := 4, pos := "ref.go:128", after := #[{ on := 31, ground := Ground.data }, { on := 29, ground := Ground.chain }, { on := 29, ground := Ground.guard }], guard := some (29, false) }) (v := ?vq4032) rfl (by kernel_rfl) (by kernel_rfl) (by kernel_rfl) (fun _ _ _ h => h) (Or.inl ⟨by rfl, ?hq4032⟩) (by assumption) ?_
          case hq4032 => intro w hSw; (try dsimp only at hSw); go_simp; try (with_reducible rfl)
          (try simp only [Act.put, List.setIfInBounds_toArray, List.set_cons_zero, List.set_cons_succ])
          refine wpAnyH_take (i := 33) (oi := { dst := some 79, op := Op.fieldAddr 25 (Operand.tmp 9) 4, type := 0, pos := "ref.go:128", after := #[{ on := 32, ground := Ground.guard }], guard := some (32, true) }) (v := undef) rfl (by kernel_rfl) (by kernel_rfl) (by kernel_rfl) (fun _ _ _ h => h) (Or.inr ⟨by rfl, rfl⟩) (by assumption) ?_
          (try simp only [Act.put, List.setIfInBounds_toArray, List.set_cons_zero, List.set_cons_succ])
          refine wpAnyH_take (i := 34) (oi := { dst := some 80, op := Op.load 23 (Operand.tmp 79), type := 23, pos := "ref.go:128", after := #[{ on := 33, ground := Ground.data }, { on := 32, ground := Ground.guard }], guard := some (32, true) }) (v := undef) rfl (by kernel_rfl) (by kernel_rfl) (by kernel_rfl) (fun _ _ _ h => h) (Or.inr ⟨by rfl, rfl⟩) (by assumption) ?_
          (try simp only [Act.put, List.setIfInBounds_toArray, List.set_cons_zero, List.set_cons_succ])
          refine wpAnyH_take (i := 35) (oi := { dst := some 81, op := Op.call { callee := Callee.builtin Builtin.len, args := #[Operand.tmp 80], argTypes := #[23] }, type := 3, pos := "ref.go:128", after := #[{ on := 34, ground := Ground.data }, { on := 32, ground := Ground.guard }], guard := some (32, true) }) (v := undef) rfl (by kernel_rfl) (by kernel_rfl) (by kernel_rfl) (fun _ _ _ h => h) (Or.inr ⟨by rfl, rfl⟩) (by assumption) ?_
          (try simp only [Act.put, List.setIfInBounds_toArray, List.set_cons_zero, List.set_cons_succ])
          refine wpAnyH_take (i := 36) (oi := { dst := some 82, op := Op.binOp BinOp.lss 3 (Operand.tmp 81) (Operand.const (Value.int IntKind.i64 1)) 3, type := 4, pos := "ref.go:128", after := #[{ on := 35, ground := Ground.data }, { on := 32, ground := Ground.guard }], guard := some (32, true) }) (v := undef) rfl (by kernel_rfl) (by kernel_rfl) (by kernel_rfl) (fun _ _ _ h => h) (Or.inr ⟨by rfl, rfl⟩) (by assumption) ?_
          (try simp only [Act.put, List.setIfInBounds_toArray, List.set_cons_zero, List.set_cons_succ])
          refine wpAnyH_take (i := 37) (oi := { dst := some 83, op := Op.pick (Operand.tmp 78) (Operand.tmp 82) (Operand.const (Value.bool false)), type := 4, pos := "ref.go:128", after := #[{ on := 32, ground := Ground.data }, { on := 36, ground := Ground.data }, { on := 29, ground := Ground.guard }], guard := some (29, false) }) (v := ?vq4037) rfl (by kernel_rfl) (by kernel_rfl) (by kernel_rfl) (fun _ _ _ h => h) (Or.inl ⟨by rfl, ?hq4037⟩) (by assumption) ?_
          case hq4037 => intro w hSw; (try dsimp only at hSw); go_simp; try (with_reducible rfl)
          (try simp only [Act.put, List.setIfInBounds_toArray, List.set_cons_zero, List.set_cons_succ])
          refine wpAnyH_take (i := 38) (oi := { dst := some 84, op := Op.pick (Operand.tmp 75) (Operand.const (Value.bool true)) (Operand.tmp 83), type := 4, pos := "ref.go:128", after := #[{ on := 29, ground := Ground.data }, { on := 37, ground := Ground.data }], guard := none }) (v := ?vq4038) rfl (by kernel_rfl) (by kernel_rfl) (by kernel_rfl) (fun _ _ _ h => h) (Or.inl ⟨by rfl, ?hq4038⟩) (by assumption) ?_
          case hq4038 => intro w hSw; (try dsimp only at hSw); go_simp; try (with_reducible rfl)
          (try simp only [Act.put, List.setIfInBounds_toArray, List.set_cons_zero, List.set_cons_succ])
          refine wpAnyH_done (by kernel_rfl) ?_ _
          have hlc := Lib.hid (show labC (labN x.op) x.l.length = true by rw [← hN.out]; exact hlc0)
          clear hlc0
          have hkd : Hid (∀ w', Below w5.heap.size w5 w' → w'.cell? ⟨bx, 0, none⟩ = some (.int .i64 x.op) ∧ w'.cell? ⟨bx, 2, none⟩ = some (.int .i64 x.b) ∧ w'.cell? ⟨bx, 4, none⟩ = some (.slice oal x.l.length capl) ∧ Below W.heap.size W w' ∧ Below w.heap.size w w') := Lib.hid fun w' h => by
            have h1 := hkc.out w' (B5.out.trans (h.mono B5.out.size))
            exact ⟨h1.2.1, h1.2.2.2.1, h1.2.2.2.2.2, h1.1, (hpb.out w' h1.1).2.2.2.1⟩
          obtain ⟨yy0, yy2, yy4, -, -⟩ := hkd.out w5 (Below.refl _ _)
          clear y0 y1 y2 y3 y4 z0 z1 z3 y30 y31 y32 y33 y34 y40 y41 y42 y43 y44 y50 y51 y52 y53 y54 z30 z31 z33 z40 z41 z43 z50 z51 z53 B3 B4 B5 bw3 bw4 bw5 zw3 zw4 zw5
          go_wp2_with fail
          go_loopw [11] (fun u wr => ∃ m : Nat, m ≤ x.l.length ∧ u = .int .i64 m ∧ (∀ q z, q < m → x.l[q]? = some z → 0 ≤ z ∧ z < (n : Int) + 1) ∧ Below w5.heap.size w5 wr) (fun u _ => x.l.length - (intOf u).toNat)
          case atStart => exact ⟨0, by omega, rfl, fun q z h => absurd h (Nat.not_lt_zero _), Below.refl _ _⟩
          case round =>
            clear yy0 yy2 yy4
            obtain ⟨m, hm, rfl, hso, hbl⟩ := hrel
            obtain ⟨yy0, yy2, yy4, bww, bw0⟩ := hkd.out wr hbl
            replace hso := Lib.hid hso
            replace hbl := Lib.hid hbl
            replace bww := Lib.hid bww
            replace bw0 := Lib.hid bw0
            by_cases hml : m < x.l.length
            · have t5 : decide ((m : Int) < x.l.length) = true := by simp; omega
              obtain ⟨z, hz⟩ : ∃ z, x.l[m]? = some z := ⟨_, List.getElem?_eq_getElem hml⟩
              obtain ⟨rfl, hz2⟩ := HLB.out m z hz
              obtain ⟨cz, hblw⟩ := hz2 wr bw0.out
              have HZ := Lib.hid hz
              clear hz hz2
              by_cases hz0 : z < 0
              · have t6 : decide (z < 0) = true := by simpa using hz0
                have hno := Lib.hid (show ¬ ShOk p.cs.length ks k f from fun h => by
                  have h1 := h.ins x (List.mem_of_getElem? HX.out)
                  rw [instr_ref HKL.out HK.out, HN.out] at h1
                  have := h1.2.2.2.1 z (List.mem_of_getElem? HZ.out)
                  omega)
                go_wp2
                go_returns
                first | exact ⟨false, rfl, ⟨fun h => (by cases h), fun h => absurd h hno.out⟩, bw0.out⟩ | exact Or.inl ⟨rfl, hno.out, bw0.out⟩
              · have t6 : decide (z < 0) = false := by simp; omega
                by_cases hz1 : z ≥ (n : Int) + 1
                · have t7 : decide (z ≥ (n : Int) + 1) = true := by simpa using hz1
                  have hno := Lib.hid (show ¬ ShOk p.cs.length ks k f from fun h => by
                    have h1 := h.ins x (List.mem_of_getElem? HX.out)
                    rw [instr_ref HKL.out HK.out, HN.out] at h1
                    have := h1.2.2.2.1 z (List.mem_of_getElem? HZ.out)
                    omega)
                  go_wp2
                  go_returns
                  first | exact ⟨false, rfl, ⟨fun h => (by cases h), fun h => absurd h hno.out⟩, bw0.out⟩ | exact Or.inl ⟨rfl, hno.out, bw0.out⟩
                · have t7 : decide (z ≥ (n : Int) + 1) = false := by simp; omega
                  have hzz : Hid (0 ≤ z ∧ z < (n : Int) + 1) := Lib.hid (by omega)
                  clear hz0 hz1
                  go_wp2
                  go_roundw
                  case rel =>
                    refine ⟨m + 1, by omega, by go_num, fun q z2 hq hz2 => ?_, hbl.out⟩
                    by_cases e : q = m
                    · subst e; rw [HZ.out] at hz2; cases hz2; exact hzz.out
                    · exact hso.out q z2 (by omega) hz2
                  case measure => simp [intOf]; omega
            · have t5 : decide ((m : Int) < x.l.length) = false := by simp; omega
              obtain rfl : m = x.l.length := by omega
              have hall := Lib.hid (show ∀ l ∈ x.l, 0 ≤ l ∧ l < (f.length : Int) from fun l hl => by
                obtain ⟨q, hq⟩ := List.getElem?_of_mem hl
                have := hso.out q l (List.getElem?_eq_some_iff.1 hq).1 hq
                rw [HN.out]; omega)
              clear t5
              by_cases h26 : x.op = 26
              · have t8 : (x.op == 26) = true := by simpa using h26
                obtain ⟨hb0, hb1⟩ := hb26.out h26
                obtain ⟨bz, hbz⟩ : ∃ bz : Nat, x.b = bz := ⟨x.b.toNat, by omega⟩
                obtain ⟨kz, hkz⟩ : ∃ kz, ks[bz]? = some kz := ⟨_, List.getElem?_eq_getElem (by have := HKL.out; omega)⟩
                have ck := (bw0.out.cell (p := ⟨bk, offk + bz, none⟩) hbk).trans (hk4.out bz kz hkz)
                have hbkw : bk < wr.heap.size := Nat.lt_of_lt_of_le hbk bw0.out.size
                have hkz2 := Lib.hid (show ks.getD x.b.toNat 0 = kz by rw [hbz, Int.toNat_natCast, List.getD_eq_getElem?_getD, hkz]; rfl)
                have hbl2 : bz < ks.length := (List.getElem?_eq_some_iff.1 hkz).1
                rw [hbz] at yy2 hb1
                replace h26 := Lib.hid h26
                clear hkz hb0 hbz
                by_cases hkk : kz = 0
                · have t9 : (kz != 0) = false := by simp [hkk]
                  replace hkk := Lib.hid hkk
                  go_wp2
                  go_roundw
                  case rel =>
                    refine ⟨j + 1, by omega, by go_num, fun q y hq hy => ?_, bww.out⟩
                    by_cases e : q = j
                    · subst e; rw [HX.out] at hy; cases hy; exact (instr_ref HKL.out HK.out).2 ⟨HF.out, HA.out, hlc.out, hall.out, fun _ => by rw [hkz2.out, hkk.out]⟩
                    · exact HSO.out q y (by omega) hy
                  case measure => simp [intOf]; omega
                · have t9 : (kz != 0) = true := by simp [hkk]
                  replace hkk := Lib.hid hkk
                  have hno := Lib.hid (show ¬ ShOk p.cs.length ks k f from fun h => by
                    have h1 := h.ins x (List.mem_of_getElem? HX.out)
                    rw [instr_ref HKL.out HK.out] at h1
                    exact hkk.out (hkz2.out.symm.trans (h1.2.2.2.2 h26.out)))
                  go_wp2
                  go_returns
                  first | exact ⟨false, rfl, ⟨fun h => (by cases h), fun h => absurd h hno.out⟩, bw0.out⟩ | exact Or.inl ⟨rfl, hno.out, bw0.out⟩
              · have t8 : (x.op == 26) = false := by simpa using h26
                replace h26 := Lib.hid h26
                go_wp2
                go_roundw
                case rel =>
                  refine ⟨j + 1, by omega, by go_num, fun q y hq hy => ?_, bww.out⟩
                  by_cases e : q = j
                  · subst e; rw [HX.out] at hy; cases hy; exact (instr_ref HKL.out HK.out).2 ⟨HF.out, HA.out, hlc.out, hall.out, fun h => absurd h h26.out⟩
                  · exact HSO.out q y (by omega) hy
                case measure => simp [intOf]; omega
        · have t5 : ((x.l.length : Int) != N) = true := by simpa using hl
          go_wp2_with fail
          refine wp_region_held_drew (S := (fun w' => (w'.cell? ⟨w.heap.size, 0, none⟩ = some (.slice (some ⟨bf, off, none⟩) p.fs.length capf) ∧ w'.cell? ⟨w.heap.size, 1, none⟩ = some (.slice oac p.cs.length capc) ∧ w'.cell? ⟨bk, offk + i, none⟩ = some (.int .i64 k)) ∧ w'.cell? ⟨bx, 0, none⟩ = some (.int .i64 x.op) ∧ w'.cell? ⟨bx, 1, none⟩ = some (.int .i64 x.a) ∧ w'.cell? ⟨bx, 2, none⟩ = some (.int .i64 x.b) ∧ w'.cell? ⟨bx, 3, none⟩ = some (.int .i64 x.c) ∧ w'.cell? ⟨bx, 4, none⟩ = some (.slice oal x.l.length capl))) (by kernel_rfl) ?_ (fun hHeld => ?_)
          · exact ⟨⟨z0, z1, z3⟩, y0, y1, y2, y3, y4⟩
          refine wpAnyH_take (i := 0) (oi := { dst := some 46, op := Op.load 25 (Operand.tmp 9), type := 25, pos := "ref.go:128", after := #[], guard := none }) (v := ?vq5000) rfl (by kernel_rfl) (by kernel_rfl) (by kernel_rfl) (fun _ _ _ h => h) (Or.inl ⟨by rfl, ?hq5000⟩) (by assumption) ?_
          case hq5000 => intro w hSw; (try dsimp only at hSw); go_simp; try (with_reducible rfl)
          (try simp only [Act.put, List.setIfInBounds_toArray, List.set_cons_zero, List.set_cons_succ])
          refine wpAnyH_ready (rs := [1]) (by kernel_rfl) (by simp) ?_
          refine AllReadyH.cons (o := { dst := some 47, op := Op.call { callee := Callee.value (Operand.func 29), args := #[Operand.tmp 46], argTypes := #[25] }, type := 4, pos := "ref.go:128", after := #[{ on := 0, ground := Ground.data }], guard := none }) rfl (fun K hK => ?_) AllReadyH.nil
          go_simp
          (go_at_call 29; refine (hkn _).mono ?_; rintro e w3 ⟨rfl, hb3⟩; have B3 : Below w2.heap.size w2 w3 := undrew2 hb3; obtain ⟨bw3, y30, y31, y32, y33, y34⟩ := hkc.out w3 B3; obtain ⟨z30, z31, -, zw3, -, z33⟩ := hpb.out w3 bw3; clear hb3; replace B3 := Lib.hid B3; replace bw3 := Lib.hid bw3; replace zw3 := Lib.hid zw3)
          refine hK.out _ _ ?_ (fun hHeld => ?_)
          · (refine ⟨⟨?_, ?_, ?_⟩, ?_, ?_, ?_, ?_, ?_⟩ <;> assumption)
          clear hK K
          (try simp only [Act.put, List.setIfInBounds_toArray, List.set_cons_zero, List.set_cons_succ])
          refine wpAnyH_take (i := 2) (oi := { dst := some 48, op := Op.unOp UnOp.not 4 (Operand.tmp 47), type := 4, pos := "ref.go:128", after := #[{ on := 1, ground := Ground.data }], guard := none }) (v := ?vq5002) rfl (by kernel_rfl) (by kernel_rfl) (by kernel_rfl) (fun _ _ _ h => h) (Or.inl ⟨by rfl, ?hq5002⟩) (by assumption) ?_
          case hq5002 => intro w hSw; (try dsimp only at hSw); go_simp; try (with_reducible rfl)
          (try simp only [Act.put, List.setIfInBounds_toArray, List.set_cons_zero, List.set_cons_succ])
          refine wpAnyH_take (i := 3) (oi := { dst := some 49, op := Op.move (Operand.tmp 48), type := 4, pos := "ref.go:128", after := #[{ on := 2, ground := Ground.data }, { on := 1, ground := Ground.chain }], guard := none }) (v := ?vq5003) rfl (by kernel_rfl) (by kernel_rfl) (by kernel_rfl) (fun _ _ _ h => h) (Or.inl ⟨by rfl, ?hq5003⟩) (by assumption) ?_
          case hq5003 => intro w hSw; (try dsimp only at hSw); go_simp; try (with_reducible rfl)
          (try simp only [Act.put, List.setIfInBounds_toArray, List.set_cons_zero, List.set_cons_succ])
          refine wpAnyH_take (i := 4) (oi := { dst := some 50, op := Op.load 35 (Operand.tmp 3), type := 35, pos := "ref.go:128", after := #[{ on := 3, ground := Ground.guard }], guard := some (3, false) }) (v := ?vq5004) rfl (by kernel_rfl) (by kernel_rfl) (by kernel_rfl) (fun _ _ _ h => h) (Or.inl ⟨by rfl, ?hq5004⟩) (by assumption) ?_
          case hq5004 => intro w hSw; (try dsimp only at hSw); go_simp; try (with_reducible rfl)
          (try simp only [Act.put, List.setIfInBounds_toArray, List.set_cons_zero, List.set_cons_succ])
          refine wpAnyH_take (i := 5) (oi := { dst := some 51, op := Op.load 25 (Operand.tmp 9), type := 25, pos := "ref.go:128", after := #[{ on := 3, ground := Ground.guard }], guard := some (3, false) }) (v := ?vq5005) rfl (by kernel_rfl) (by kernel_rfl) (by kernel_rfl) (fun _ _ _ h => h) (Or.inl ⟨by rfl, ?hq5005⟩) (by assumption) ?_
          case hq5005 => intro w hSw; (try dsimp only at hSw); go_simp; try (with_reducible rfl)
          (try simp only [Act.put, List.setIfInBounds_toArray, List.set_cons_zero, List.set_cons_succ])
          refine wpAnyH_ready (rs := [6]) (by kernel_rfl) (by simp) ?_
          refine AllReadyH.cons (o := { dst := some 52, op := Op.call { callee := Callee.value (Operand.func 45), args := #[Operand.tmp 50, Operand.tmp 51], argTypes := #[35, 25] }, type := 4, pos := "ref.go:128", after := #[{ on := 4, ground := Ground.data }, { on := 5, ground := Ground.data }, { on := 3, ground := Ground.chain }, { on := 3, ground := Ground.guard }], guard := some (3, false) }) rfl (fun K hK => ?_) AllReadyH.nil
          go_simp
          (go_at_call 45; refine (hfl2 _).mono ?_; rintro e w4 ⟨rfl, hb4⟩; have B4 : Below w2.heap.size w2 w4 := B3.out.trans (hb4.mono B3.out.size); obtain ⟨bw4, y40, y41, y42, y43, y44⟩ := hkc.out w4 B4; obtain ⟨z40, z41, -, zw4, -, z43⟩ := hpb.out w4 bw4; clear hb4; replace B4 := Lib.hid B4; replace bw4 := Lib.hid bw4; replace zw4 := Lib.hid zw4)
          refine hK.out _ _ ?_ (fun hHeld => ?_)
          · (refine ⟨⟨?_, ?_, ?_⟩, ?_, ?_, ?_, ?_, ?_⟩ <;> assumption)
          clear hK K
          (try simp only [Act.put, List.setIfInBounds_toArray, List.set_cons_zero, List.set_cons_succ])
          refine wpAnyH_take (i := 7) (oi := { dst := some 53, op := Op.unOp UnOp.not 4 (Operand.tmp 52), type := 4, pos := "ref.go:128", after := #[{ on := 6, ground := Ground.data }, { on := 3, ground := Ground.guard }], guard := some (3, false) }) (v := ?vq5007) rfl (by kernel_rfl) (by kernel_rfl) (by kernel_rfl) (fun _ _ _ h => h) (Or.inl ⟨by rfl, ?hq5007⟩) (by assumption) ?_
          case hq5007 => intro w hSw; (try dsimp only at hSw); go_simp; try (with_reducible rfl)
          (try simp only [Act.put, List.setIfInBounds_toArray, List.set_cons_zero, List.set_cons_succ])
          refine wpAnyH_take (i := 8) (oi := { dst := some 54, op := Op.pick (Operand.tmp 49) (Operand.const (Value.bool true)) (Operand.tmp 53), type := 4, pos := "ref.go:128", after := #[{ on := 3, ground := Ground.data }, { on := 7, ground := Ground.data }], guard := none }) (v := ?vq5008) rfl (by kernel_rfl) (by kernel_rfl) (by kernel_rfl) (fun _ _ _ h => h) (Or.inl ⟨by rfl, ?hq5008⟩) (by assumption) ?_
          case hq5008 => intro w hSw; (try dsimp only at hSw); go_simp; try (with_reducible rfl)
          (try simp only [Act.put, List.setIfInBounds_toArray, List.set_cons_zero, List.set_cons_succ])
          refine wpAnyH_take (i := 9) (oi := { dst := some 55, op := Op.move (Operand.tmp 54), type := 4, pos := "ref.go:128", after := #[{ on := 8, ground := Ground.data }, { on := 6, ground := Ground.chain }], guard := none }) (v := ?vq5009) rfl (by kernel_rfl) (by kernel_rfl) (by kernel_rfl) (fun _ _ _ h => h) (Or.inl ⟨by rfl, ?hq5009⟩) (by assumption) ?_
          case hq5009 => intro w hSw; (try dsimp only at hSw); go_simp; try (with_reducible rfl)
          (try simp only [Act.put, List.setIfInBounds_toArray, List.set_cons_zero, List.set_cons_succ])
          refine wpAnyH_take (i := 10) (oi := { dst := some 56, op := Op.move (Operand.tmp 1), type := 23, pos := "ref.go:128", after := #[{ on := 9, ground := Ground.guard }], guard := some (9, false) }) (v := ?vq5010) rfl (by kernel_rfl) (by kernel_rfl) (by kernel_rfl) (fun _ _ _ h => h) (Or.inl ⟨by rfl, ?hq5010⟩) (by assumption) ?_
          case hq5010 => intro w hSw; (try dsimp only at hSw); go_simp; try (with_reducible rfl)
          (try simp only [Act.put, List.setIfInBounds_toArray, List.set_cons_zero, List.set_cons_succ])
          refine wpAnyH_take (i := 11) (oi := { dst := some 57, op := Op.move (Operand.tmp 2), type := 3, pos := "ref.go:128", after := #[{ on := 9, ground := Ground.guard }], guard := some (9, false) }) (v := ?vq5011) rfl (by kernel_rfl) (by kernel_rfl) (by kernel_rfl) (fun _ _ _ h => h) (Or.inl ⟨by rfl, ?hq5011⟩) (by assumption) ?_
          case hq5011 => intro w hSw; (try dsimp only at hSw); go_simp; try (with_reducible rfl)
          (try simp only [Act.put, List.setIfInBounds_toArray, List.set_cons_zero, List.set_cons_succ])
          refine wpAnyH_take (i := 12) (oi := { dst := some 58, op := Op.indexAddr 23 (Operand.tmp 56) (Operand.tmp 57), type := 0, pos := "ref.go:128", after := #[{ on := 10, ground := Ground.data }, { on := 11, ground := Ground.data }, { on := 9, ground := Ground.guard }], guard := some (9, false) }) (v := ?vq5012) rfl (by kernel_rfl) (by kernel_rfl) (by kernel_rfl) (fun _ _ _ h => h) (Or.inl ⟨by rfl, ?hq5012⟩) (by assumption) ?_
          case hq5012 => intro w hSw; (try dsimp only at hSw); go_simp; try (with_reducible rfl)
          (try simp only [Act.put, List.setIfInBounds_toArray, List.set_cons_zero, List.set_cons_succ])
          refine wpAnyH_take (i := 13) (oi := { dst := some 59, op := Op.load 3 (Operand.tmp 58), type := 3, pos := "ref.go:128", after := #[{ on := 12, ground := Ground.data }, { on := 9, ground := Ground.guard }], guard := some (9, false) }) (v := ?vq5013) rfl (by kernel_rfl) (by kernel_rfl) (by kernel_rfl) (fun _ _ _ h => h) (Or.inl ⟨by rfl, ?hq5013⟩) (by assumption) ?_
          case hq5013 => intro w hSw; (try dsimp only at hSw); go_simp; try (with_reducible rfl)
          (try simp only [Act.put, List.setIfInBounds_toArray, List.set_cons_zero, List.set_cons_succ])
          refine wpAnyH_take (i := 14) (oi := { dst := some 60, op := Op.load 25 (Operand.tmp 9), type := 25, pos := "ref.go:128", after := #[{ on := 9, ground := Ground.guard }], guard := some (9, false) }) (v := ?vq5014) rfl (by kernel_rfl) (by kernel_rfl) (by kernel_rfl) (fun _ _ _ h => h) (Or.inl ⟨by rfl, ?hq5014⟩) (by assumption) ?_
          case hq5014 => intro w hSw; (try dsimp only at hSw); go_simp; try (with_reducible rfl)
          (try simp only [Act.put, List.setIfInBounds_toArray, List.set_cons_zero, List.set_cons_succ])
          refine wpAnyH_ready (rs := [15]) (by kernel_rfl) (by simp) ?_
          refine AllReadyH.cons (o := { dst := some 61, op := Op.call { callee := Callee.value (Operand.func 46), args := #[Operand.tmp 59, Operand.tmp 60], argTypes := #[3, 25] }, type := 4, pos := "ref.go:128", after := #[{ on := 13, ground := Ground.data }, { on := 14, ground := Ground.data }, { on := 9, ground := Ground.chain }, { on := 9, ground := Ground.guard }], guard := some (9, false) }) rfl (fun K hK => ?_) AllReadyH.nil
          go_simp
          (go_at_call 46; refine (hal _).mono ?_; rintro e w5 ⟨rfl, hb5⟩; have B5 : Below w2.heap.size w2 w5 := B4.out.trans (hb5.mono B4.out.size); obtain ⟨bw5, y50, y51, y52, y53, y54⟩ := hkc.out w5 B5; obtain ⟨z50, z51, -, zw5, -, z53⟩ := hpb.out w5 bw5; clear hb5; replace B5 := Lib.hid B5; replace bw5 := Lib.hid bw5; replace zw5 := Lib.hid zw5)
          refine hK.out _ _ ?_ (fun hHeld => ?_)
          · (refine ⟨⟨?_, ?_, ?_⟩, ?_, ?_, ?_, ?_, ?_⟩ <;> assumption)
          clear hK K
          (try simp only [Act.put, List.setIfInBounds_toArray, List.set_cons_zero, List.set_cons_succ])
          refine wpAnyH_take (i := 16) (oi := { dst := some 62, op := Op.unOp UnOp.not 4 (Operand.tmp 61), type := 4, pos := "ref.go:128", after := #[{ on := 15, ground := Ground.data }, { on := 9, ground := Ground.guard }], guard := some (9, false) }) (v := ?vq5016) rfl (by kernel_rfl) (by kernel_rfl) (by kernel_rfl) (fun _ _ _ h => h) (Or.inl ⟨by rfl, ?hq5016⟩) (by assumption) ?_
          case hq5016 => intro w hSw; (try dsimp only at hSw); go_simp; try (with_reducible rfl)
          (try simp only [Act.put, List.setIfInBounds_toArray, List.set_cons_zero, List.set_cons_succ])
          refine wpAnyH_take (i := 17) (oi := { dst := some 63, op := Op.pick (Operand.tmp 55) (Operand.const (Value.bool true)) (Operand.tmp 62), type := 4, pos := "ref.go:128", after := #[{ on := 9, ground := Ground.data }, { on := 16, ground := Ground.data }], guard := none }) (v := ?vq5017) rfl (by kernel_rfl) (by kernel_rfl) (by kernel_rfl) (fun _ _ _ h => h) (Or.inl ⟨by rfl, ?hq5017⟩) (by assumption) ?_
          case hq5017 => intro w hSw; (try dsimp only at hSw); go_simp; try (with_reducible rfl)
          (try simp only [Act.put, List.setIfInBounds_toArray, List.set_cons_zero, List.set_cons_succ])
          refine wpAnyH_take (i := 18) (oi := { dst := some 64, op := Op.move (Operand.tmp 63), type := 4, pos := "ref.go:128", after := #[{ on := 17, ground := Ground.data }, { on := 15, ground := Ground.chain }], guard := none }) (v := ?vq5018) rfl (by kernel_rfl) (by kernel_rfl) (by kernel_rfl) (fun _ _ _ h => h) (Or.inl ⟨by rfl, ?hq5018⟩) (by assumption) ?_
          case hq5018 => intro w hSw; (try dsimp only at hSw); go_simp; try (with_reducible rfl)
          (try simp only [Act.put, List.setIfInBounds_toArray, List.set_cons_zero, List.set_cons_succ])
          refine wpAnyH_take (i := 19) (oi := { dst := some 65, op := Op.move (Operand.tmp 10), type := 3, pos := "ref.go:128", after := #[{ on := 18, ground := Ground.guard }], guard := some (18, false) }) (v := ?vq5019) rfl (by kernel_rfl) (by kernel_rfl) (by kernel_rfl) (fun _ _ _ h => h) (Or.inl ⟨by rfl, ?hq5019⟩) (by assumption) ?_
          case hq5019 => intro w hSw; (try dsimp only at hSw); go_simp; try (with_reducible rfl)
          (try simp only [Act.put, List.setIfInBounds_toArray, List.set_cons_zero, List.set_cons_succ])
          refine wpAnyH_take (i := 20) (oi := { dst := some 66, op := Op.binOp BinOp.geq 3 (Operand.tmp 65) (Operand.const (Value.int IntKind.i64 0)) 3, type := 4, pos := "ref.go:128", after := #[{ on := 19, ground := Ground.data }, { on := 18, ground := Ground.guard }], guard := some (18, false) }) (v := ?vq5020) rfl (by kernel_rfl) (by kernel_rfl) (by kernel_rfl) (fun _ _ _ h => h) (Or.inl ⟨by rfl, ?hq5020⟩) (by assumption) ?_
          case hq5020 => intro w hSw; (try dsimp only at hSw); go_simp; try (with_reducible rfl)
          (try simp only [Act.put, List.setIfInBounds_toArray, List.set_cons_zero, List.set_cons_succ])
          refine wpAnyH_take (i := 21) (oi := { dst := some 67, op := Op.move (Operand.tmp 66), type := 4, pos := "ref.go:128", after := #[{ on := 20, ground := Ground.data }, { on := 18, ground := Ground.chain }, { on := 18, ground := Ground.guard }], guard := some (18, false) }) (v := ?vq5021) rfl (by kernel_rfl) (by kernel_rfl) (by kernel_rfl) (fun _ _ _ h => h) (Or.inl ⟨by rfl, ?hq5021⟩) (by assumption) ?_
          case hq5021 => intro w hSw; (try dsimp only at hSw); go_simp; try (with_reducible rfl)
          (try simp only [Act.put, List.setIfInBounds_toArray, List.set_cons_zero, List.set_cons_succ])
          refine wpAnyH_take (i := 22) (oi := { dst := some 68, op := Op.fieldAddr 25 (Operand.tmp 9) 4, type := 0, pos := "ref.go:128", after := #[{ on := 21, ground := Ground.guard }], guard := some (21, true) }) (v := ?vq5022) rfl (by kernel_rfl) (by kernel_rfl) (by kernel_rfl) (fun _ _ _ h => h) (Or.inl ⟨by rfl, ?hq5022⟩) (by assumption) ?_
          case hq5022 => intro w hSw; (try dsimp only at hSw); go_simp; try (with_reducible rfl)
          (try simp only [Act.put, List.setIfInBounds_toArray, List.set_cons_zero, List.set_cons_succ])
          refine wpAnyH_take (i := 23) (oi := { dst := some 69, op := Op.load 23 (Operand.tmp 68), type := 23, pos := "ref.go:128", after := #[{ on := 22, ground := Ground.data }, { on := 21, ground := Ground.guard }], guard := some (21, true) }) (v := ?vq5023) rfl (by kernel_rfl) (by kernel_rfl) (by kernel_rfl) (fun _ _ _ h => h) (Or.inl ⟨by rfl, ?hq5023⟩) (by assumption) ?_
          case hq5023 => intro w hSw; (try dsimp only at hSw); go_simp; try (with_reducible rfl)
          (try simp only [Act.put, List.setIfInBounds_toArray, List.set_cons_zero, List.set_cons_succ])
          refine wpAnyH_take (i := 24) (oi := { dst := some 70, op := Op.call { callee := Callee.builtin Builtin.len, args := #[Operand.tmp 69], argTypes := #[23] }, type := 3, pos := "ref.go:128", after := #[{ on := 23, ground := Ground.data }, { on := 21, ground := Ground.guard }], guard := some (21, true) }) (v := ?vq5024) rfl (by kernel_rfl) (by kernel_rfl) (by kernel_rfl) (fun _ _ _ h => h) (Or.inl ⟨by rfl, ?hq5024⟩) (by assumption) ?_
          case hq5024 => intro w hSw; (try dsimp only at hSw); go_simp; try (with_reducible rfl)
          (try simp only [Act.put, List.setIfInBounds_toArray, List.set_cons_zero, List.set_cons_succ])
          refine wpAnyH_take (i := 25) (oi := { dst := some 71, op := Op.move (Operand.tmp 10), type := 3, pos := "ref.go:128", after := #[{ on := 21, ground := Ground.guard }], guard := some (21, true) }) (v := ?vq5025) rfl (by kernel_rfl) (by kernel_rfl) (by kernel_rfl) (fun _ _ _ h => h) (Or.inl ⟨by rfl, ?hq5025⟩) (by assumption) ?_
          case hq5025 => intro w hSw; (try dsimp only at hSw); go_simp; try (with_reducible rfl)
          (try simp only [Act.put, List.setIfInBounds_toArray, List.set_cons_zero, List.set_cons_succ])
          refine wpAnyH_take (i := 26) (oi := { dst := some 72, op := Op.binOp BinOp.neq 3 (Operand.tmp 70) (Operand.tmp 71) 3, type := 4, pos := "ref.go:128", after := #[{ on := 24, ground := Ground.data }, { on := 25, ground := Ground.data }, { on := 21, ground := Ground.guard }], guard := some (21, true) }) (v := ?vq5026) rfl (by kernel_rfl) (by kernel_rfl) (by kernel_rfl) (fun _ _ _ h => h) (Or.inl ⟨by rfl, ?hq5026⟩) (by assumption) ?_
          case hq5026 => intro w hSw; (try dsimp only at hSw); go_simp; try (with_reducible rfl)
          (try simp only [Act.put, List.setIfInBounds_toArray, List.set_cons_zero, List.set_cons_succ])
          refine wpAnyH_take (i := 27) (oi := { dst := some 73, op := Op.pick (Operand.tmp 67) (Operand.tmp 72) (Operand.const (Value.bool false)), type := 4, pos := "ref.go:128", after := #[{ on := 21, ground := Ground.data }, { on := 26, ground := Ground.data }, { on := 18, ground := Ground.guard }], guard := some (18, false) }) (v := ?vq5027) rfl (by kernel_rfl) (by kernel_rfl) (by kernel_rfl) (fun _ _ _ h => h) (Or.inl ⟨by rfl, ?hq5027⟩) (by assumption) ?_
          case hq5027 => intro w hSw; (try dsimp only at hSw); go_simp; try (with_reducible rfl)
          (try simp only [Act.put, List.setIfInBounds_toArray, List.set_cons_zero, List.set_cons_succ])
          refine wpAnyH_take (i := 28) (oi := { dst := some 74, op := Op.pick (Operand.tmp 64) (Operand.const (Value.bool true)) (Operand.tmp 73), type := 4, pos := "ref.go:128", after := #[{ on := 18, ground := Ground.data }, { on := 27, ground := Ground.data }], guard := none }) (v := ?vq5028) rfl (by kernel_rfl) (by kernel_rfl) (by kernel_rfl) (fun _ _ _ h => h) (Or.inl ⟨by rfl, ?hq5028⟩) (by assumption) ?_
          case hq5028 => intro w hSw; (try dsimp only at hSw); go_simp; try (with_reducible rfl)
          (try simp only [Act.put, List.setIfInBounds_toArray, List.set_cons_zero, List.set_cons_succ])
          refine wpAnyH_take (i := 29) (oi := { dst := some 75, op := Op.move (Operand.tmp 74), type := 4, pos := "ref.go:128", after := #[{ on := 28, ground := Ground.data }, { on := 21, ground := Ground.chain }], guard := none }) (v := ?vq5029) rfl (by kernel_rfl) (by kernel_rfl) (by kernel_rfl) (fun _ _ _ h => h) (Or.inl ⟨by rfl, ?hq5029⟩) (by assumption) ?_
          case hq5029 => intro w hSw; (try dsimp only at hSw); go_simp; try (with_reducible rfl)
          (try simp only [Act.put, List.setIfInBounds_toArray, List.set_cons_zero, List.set_cons_succ])
          refine wpAnyH_take (i := 30) (oi := { dst := some 76, op := Op.move (Operand.tmp 10), type := 3, pos := "ref.go:128", after := #[{ on := 29, ground := Ground.guard }], guard := some (29, false) }) (v := undef) rfl (by kernel_rfl) (by kernel_rfl) (by kernel_rfl) (fun _ _ _ h => h) (Or.inr ⟨by rfl, rfl⟩) (by assumption) ?_
          (try simp only [Act.put, List.setIfInBounds_toArray, List.set_cons_zero, List.set_cons_succ])
          refine wpAnyH_take (i := 31) (oi := { dst := some 77, op := Op.binOp BinOp.lss 3 (Operand.tmp 76) (Operand.const (Value.int IntKind.i64 0)) 3, type := 4, pos := "ref.go:128", after := #[{ on := 30, ground := Ground.data }, { on := 29, ground := Ground.guard }], guard := some (29, false) }) (v := undef) rfl (by kernel_rfl) (by kernel_rfl) (by kernel_rfl) (fun _ _ _ h => h) (Or.inr ⟨by rfl, rfl⟩) (by assumption) ?_
          (try simp only [Act.put, List.setIfInBounds_toArray, List.set_cons_zero, List.set_cons_succ])
          refine wpAnyH_take (i := 32) (oi := { dst := some 78, op := Op.move (Operand.tmp 77), type := 4, pos := "ref.go:128", after := #[{ on := 31, ground := Ground.data }, { on := 29, ground := Ground.chain }, { on := 29, ground := Ground.guard }], guard := some (29, false) }) (v := undef) rfl (by kernel_rfl) (by kernel_rfl) (by kernel_rfl) (fun _ _ _ h => h) (Or.inr ⟨by rfl, rfl⟩) (by assumption) ?_
          (try simp only [Act.put, List.setIfInBounds_toArray, List.set_cons_zero, List.set_cons_succ])
          refine wpAnyH_take (i := 33) (oi := { dst := some 79, op := Op.fieldAddr 25 (Operand.tmp 9) 4, type := 0, pos := "ref.go:128", after := #[{ on := 32, ground := Ground.guard }], guard := some (32, true) }) (v := undef) rfl (by kernel_rfl) (by kernel_rfl) (by kernel_rfl) (fun _ _ _ h => h) (Or.inr ⟨by rfl, rfl⟩) (by assumption) ?_
          (try simp only [Act.put, List.setIfInBounds_toArray, List.set_cons_zero, List.set_cons_succ])
          refine wpAnyH_take (i := 34) (oi := { dst := some 80, op := Op.load 23 (Operand.tmp 79), type := 23, pos := "ref.go:128", after := #[{ on := 33, ground := Ground.data }, { on := 32, ground := Ground.guard }], guard := some (32, true) }) (v := undef) rfl (by kernel_rfl) (by kernel_rfl) (by kernel_rfl) (fun _ _ _ h => h) (Or.inr ⟨by rfl, rfl⟩) (by assumption) ?_
          (try simp only [Act.put, List.setIfInBounds_toArray, List.set_cons_zero, List.set_cons_succ])
          refine wpAnyH_take (i := 35) (oi := { dst := some 81, op := Op.call { callee := Callee.builtin Builtin.len, args := #[Operand.tmp 80], argTypes := #[23] }, type := 3, pos := "ref.go:128", after := #[{ on := 34, ground := Ground.data }, { on := 32, ground := Ground.guard }], guard := some (32, true) }) (v := undef) rfl (by kernel_rfl) (by kernel_rfl) (by kernel_rfl) (fun _ _ _ h => h) (Or.inr ⟨by rfl, rfl⟩) (by assumption) ?_
          (try simp only [Act.put, List.setIfInBounds_toArray, List.set_cons_zero, List.set_cons_succ])
          refine wpAnyH_take (i := 36) (oi := { dst := some 82, op := Op.binOp BinOp.lss 3 (Operand.tmp 81) (Operand.const (Value.int IntKind.i64 1)) 3, type := 4, pos := "ref.go:128", after := #[{ on := 35, ground := Ground.data }, { on := 32, ground := Ground.guard }], guard := some (32, true) }) (v := undef) rfl (by kernel_rfl) (by kernel_rfl) (by kernel_rfl) (fun _ _ _ h => h) (Or.inr ⟨by rfl, rfl⟩) (by assumption) ?_
          (try simp only [Act.put, List.setIfInBounds_toArray, List.set_cons_zero, List.set_cons_succ])
          refine wpAnyH_take (i := 37) (oi := { dst := some 83, op := Op.pick (Operand.tmp 78) (Operand.tmp 82) (Operand.const (Value.bool false)), type := 4, pos := "ref.go:128", after := #[{ on := 32, ground := Ground.data }, { on := 36, ground := Ground.data }, { on := 29, ground := Ground.guard }], guard := some (29, false) }) (v := undef) rfl (by kernel_rfl) (by kernel_rfl) (by kernel_rfl) (fun _ _ _ h => h) (Or.inr ⟨by rfl, rfl⟩) (by assumption) ?_
          (try simp only [Act.put, List.setIfInBounds_toArray, List.set_cons_zero, List.set_cons_succ])
          refine wpAnyH_take (i := 38) (oi := { dst := some 84, op := Op.pick (Operand.tmp 75) (Operand.const (Value.bool true)) (Operand.tmp 83), type := 4, pos := "ref.go:128", after := #[{ on := 29, ground := Ground.data }, { on := 37, ground := Ground.data }], guard := none }) (v := ?vq5038) rfl (by kernel_rfl) (by kernel_rfl) (by kernel_rfl) (fun _ _ _ h => h) (Or.inl ⟨by rfl, ?hq5038⟩) (by assumption) ?_
          case hq5038 => intro w hSw; (try dsimp only at hSw); go_simp; try (with_reducible rfl)
          (try simp only [Act.put, List.setIfInBounds_toArray, List.set_cons_zero, List.set_cons_succ])
          refine wpAnyH_done (by kernel_rfl) ?_ _
          go_wp2
          go_returns
          exact ⟨false, rfl, ⟨fun h => (by cases h), fun h => by have := h.ins x (List.mem_of_getElem? HX.out); rw [instr_ref HKL.out HK.out, ← hN.out] at this; have h3 := this.2.2.1; rw [labC, if_pos hN0] at h3; exact absurd (by simpa using h3) hl⟩, zw5.out⟩
      · have t3 : decide (N ≥ 0) = false := by simp; omega
        have t4 : decide (N < 0) = true := by simp; omega
        by_cases hl : x.l.length < 1
        · have t5 : decide ((x.l.length : Int) < 1) = true := by simp; omega
          go_wp2_with fail
          refine wp_region_held_drew (S := (fun w' => (w'.cell? ⟨w.heap.size, 0, none⟩ = some (.slice (some ⟨bf, off, none⟩) p.fs.length capf) ∧ w'.cell? ⟨w.heap.size, 1, none⟩ = some (.slice oac p.cs.length capc) ∧ w'.cell? ⟨bk, offk + i, none⟩ = some (.int .i64 k)) ∧ w'.cell? ⟨bx, 0, none⟩ = some (.int .i64 x.op) ∧ w'.cell? ⟨bx, 1, none⟩ = some (.int .i64 x.a) ∧ w'.cell? ⟨bx, 2, none⟩ = some (.int .i64 x.b) ∧ w'.cell? ⟨bx, 3, none⟩ = some (.int .i64 x.c) ∧ w'.cell? ⟨bx, 4, none⟩ = some (.slice oal x.l.length capl))) (by kernel_rfl) ?_ (fun hHeld => ?_)
          · exact ⟨⟨z0, z1, z3⟩, y0, y1, y2, y3, y4⟩
          refine wpAnyH_take (i := 0) (oi := { dst := some 46, op := Op.load 25 (Operand.tmp 9), type := 25, pos := "ref.go:128", after := #[], guard := none }) (v := ?vq6000) rfl (by kernel_rfl) (by kernel_rfl) (by kernel_rfl) (fun _ _ _ h => h) (Or.inl ⟨by rfl, ?hq6000⟩) (by assumption) ?_
          case hq6000 => intro w hSw; (try dsimp only at hSw); go_simp; try (with_reducible rfl)
          (try simp only [Act.put, List.setIfInBounds_toArray, List.set_cons_zero, List.set_cons_succ])
          refine wpAnyH_ready (rs := [1]) (by kernel_rfl) (by simp) ?_
          refine AllReadyH.cons (o := { dst := some 47, op := Op.call { callee := Callee.value (Operand.func 29), args := #[Operand.tmp 46], argTypes := #[25] }, type := 4, pos := "ref.go:128", after := #[{ on := 0, ground := Ground.data }], guard := none }) rfl (fun K hK => ?_) AllReadyH.nil
          go_simp
          (go_at_call 29; refine (hkn _).mono ?_; rintro e w3 ⟨rfl, hb3⟩; have B3 : Below w2.heap.size w2 w3 := undrew2 hb3; obtain ⟨bw3, y30, y31, y32, y33, y34⟩ := hkc.out w3 B3; obtain ⟨z30, z31, -, zw3, -, z33⟩ := hpb.out w3 bw3; clear hb3; replace B3 := Lib.hid B3; replace bw3 := Lib.hid bw3; replace zw3 := Lib.hid zw3)
          refine hK.out _ _ ?_ (fun hHeld => ?_)
          · (refine ⟨⟨?_, ?_, ?_⟩, ?_, ?_, ?_, ?_, ?_⟩ <;> assumption)
          clear hK K
          (try simp only [Act.put, List.setIfInBounds_toArray, List.set_cons_zero, List.set_cons_succ])
          refine wpAnyH_take (i := 2) (oi := { dst := some 48, op := Op.unOp UnOp.not 4 (Operand.tmp 47), type := 4, pos := "ref.go:128", after := #[{ on := 1, ground := Ground.data }], guard := none }) (v := ?vq6002) rfl (by kernel_rfl) (by kernel_rfl) (by kernel_rfl) (fun _ _ _ h => h) (Or.inl ⟨by rfl, ?hq6002⟩) (by assumption) ?_
          case hq6002 => intro w hSw; (try dsimp only at hSw); go_simp; try (with_reducible rfl)
          (try simp only [Act.put, List.setIfInBounds_toArray, List.set_cons_zero, List.set_cons_succ])
          refine wpAnyH_take (i := 3) (oi := { dst := some 49, op := Op.move (Operand.tmp 48), type := 4, pos := "ref.go:128", after := #[{ on := 2, ground := Ground.data }, { on := 1, ground := Ground.chain }], guard := none }) (v := ?vq6003) rfl (by kernel_rfl) (by kernel_rfl) (by kernel_rfl) (fun _ _ _ h => h) (Or.inl ⟨by rfl, ?hq6003⟩) (by assumption) ?_
          case hq6003 => intro w hSw; (try dsimp only at hSw); go_simp; try (with_reducible rfl)
          (try simp only [Act.put, List.setIfInBounds_toArray, List.set_cons_zero, List.set_cons_succ])
          refine wpAnyH_take (i := 4) (oi := { dst := some 50, op := Op.load 35 (Operand.tmp 3), type := 35, pos := "ref.go:128", after := #[{ on := 3, ground := Ground.guard }], guard := some (3, false) }) (v := ?vq6004) rfl (by kernel_rfl) (by kernel_rfl) (by kernel_rfl) (fun _ _ _ h => h) (Or.inl ⟨by rfl, ?hq6004⟩) (by assumption) ?_
          case hq6004 => intro w hSw; (try dsimp only at hSw); go_simp; try (with_reducible rfl)
          (try simp only [Act.put, List.setIfInBounds_toArray, List.set_cons_zero, List.set_cons_succ])
          refine wpAnyH_take (i := 5) (oi := { dst := some 51, op := Op.load 25 (Operand.tmp 9), type := 25, pos := "ref.go:128", after := #[{ on := 3, ground := Ground.guard }], guard := some (3, false) }) (v := ?vq6005) rfl (by kernel_rfl) (by kernel_rfl) (by kernel_rfl) (fun _ _ _ h => h) (Or.inl ⟨by rfl, ?hq6005⟩) (by assumption) ?_
          case hq6005 => intro w hSw; (try dsimp only at hSw); go_simp; try (with_reducible rfl)
          (try simp only [Act.put, List.setIfInBounds_toArray, List.set_cons_zero, List.set_cons_succ])
          refine wpAnyH_ready (rs := [6]) (by kernel_rfl) (by simp) ?_
          refine AllReadyH.cons (o := { dst := some 52, op := Op.call { callee := Callee.value (Operand.func 45), args := #[Operand.tmp 50, Operand.tmp 51], argTypes := #[35, 25] }, type := 4, pos := "ref.go:128", after := #[{ on := 4, ground := Ground.data }, { on := 5, ground := Ground.data }, { on := 3, ground := Ground.chain }, { on := 3, ground := Ground.guard }], guard := some (3, false) }) rfl (fun K hK => ?_) AllReadyH.nil
          go_simp
          (go_at_call 45; refine (hfl2 _).mono ?_; rintro e w4 ⟨rfl, hb4⟩; have B4 : Below w2.heap.size w2 w4 := B3.out.trans (hb4.mono B3.out.size); obtain ⟨bw4, y40, y41, y42, y43, y44⟩ := hkc.out w4 B4; obtain ⟨z40, z41, -, zw4, -, z43⟩ := hpb.out w4 bw4; clear hb4; replace B4 := Lib.hid B4; replace bw4 := Lib.hid bw4; replace zw4 := Lib.hid zw4)
          refine hK.out _ _ ?_ (fun hHeld => ?_)
          · (refine ⟨⟨?_, ?_, ?_⟩, ?_, ?_, ?_, ?_, ?_⟩ <;> assumption)
          clear hK K
          (try simp only [Act.put, List.setIfInBounds_toArray, List.set_cons_zero, List.set_cons_succ])
          refine wpAnyH_take (i := 7) (oi := { dst := some 53, op := Op.unOp UnOp.not 4 (Operand.tmp 52), type := 4, pos := "ref.go:128", after := #[{ on := 6, ground := Ground.data }, { on := 3, ground := Ground.guard }], guard := some (3, false) }) (v := ?vq6007) rfl (by kernel_rfl) (by kernel_rfl) (by kernel_rfl) (fun _ _ _ h => h) (Or.inl ⟨by rfl, ?hq6007⟩) (by assumption) ?_
          case hq6007 => intro w hSw; (try dsimp only at hSw); go_simp; try (with_reducible rfl)
          (try simp only [Act.put, List.setIfInBounds_toArray, List.set_cons_zero, List.set_cons_succ])
          refine wpAnyH_take (i := 8) (oi := { dst := some 54, op := Op.pick (Operand.tmp 49) (Operand.const (Value.bool true)) (Operand.tmp 53), type := 4, pos := "ref.go:128", after := #[{ on := 3, ground := Ground.data }, { on := 7, ground := Ground.data }], guard := none }) (v := ?vq6008) rfl (by kernel_rfl) (by kernel_rfl) (by kernel_rfl) (fun _ _ _ h => h) (Or.inl ⟨by rfl, ?hq6008⟩) (by assumption) ?_
          case hq6008 => intro w hSw; (try dsimp only at hSw); go_simp; try (with_reducible rfl)
          (try simp only [Act.put, List.setIfInBounds_toArray, List.set_cons_zero, List.set_cons_succ])
          refine wpAnyH_take (i := 9) (oi := { dst := some 55, op := Op.move (Operand.tmp 54), type := 4, pos := "ref.go:128", after := #[{ on := 8, ground := Ground.data }, { on := 6, ground := Ground.chain }], guard := none }) (v := ?vq6009) rfl (by kernel_rfl) (by kernel_rfl) (by kernel_rfl) (fun _ _ _ h => h) (Or.inl ⟨by rfl, ?hq6009⟩) (by assumption) ?_
          case hq6009 => intro w hSw; (try dsimp only at hSw); go_simp; try (with_reducible rfl)
          (try simp only [Act.put, List.setIfInBounds_toArray, List.set_cons_zero, List.set_cons_succ])
          refine wpAnyH_take (i := 10) (oi := { dst := some 56, op := Op.move (Operand.tmp 1), type := 23, pos := "ref.go:128", after := #[{ on := 9, ground := Ground.guard }], guard := some (9, false) }) (v := ?vq6010) rfl (by kernel_rfl) (by kernel_rfl) (by kernel_rfl) (fun _ _ _ h => h) (Or.inl ⟨by rfl, ?hq6010⟩) (by assumption) ?_
          case hq6010 => intro w hSw; (try dsimp only at hSw); go_simp; try (with_reducible rfl)
          (try simp only [Act.put, List.setIfInBounds_toArray, List.set_cons_zero, List.set_cons_succ])
          refine wpAnyH_take (i := 11) (oi := { dst := some 57, op := Op.move (Operand.tmp 2), type := 3, pos := "ref.go:128", after := #[{ on := 9, ground := Ground.guard }], guard := some (9, false) }) (v := ?vq6011) rfl (by kernel_rfl) (by kernel_rfl) (by kernel_rfl) (fun _ _ _ h => h) (Or.inl ⟨by rfl, ?hq6011⟩) (by assumption) ?_
          case hq6011 => intro w hSw; (try dsimp only at hSw); go_simp; try (with_reducible rfl)
          (try simp only [Act.put, List.setIfInBounds_toArray, List.set_cons_zero, List.set_cons_succ])
          refine wpAnyH_take (i := 12) (oi := { dst := some 58, op := Op.indexAddr 23 (Operand.tmp 56) (Operand.tmp 57), type := 0, pos := "ref.go:128", after := #[{ on := 10, ground := Ground.data }, { on := 11, ground := Ground.data }, { on := 9, ground := Ground.guard }], guard := some (9, false) }) (v := ?vq6012) rfl (by kernel_rfl) (by kernel_rfl) (by kernel_rfl) (fun _ _ _ h => h) (Or.inl ⟨by rfl, ?hq6012⟩) (by assumption) ?_
          case hq6012 => intro w hSw; (try dsimp only at hSw); go_simp; try (with_reducible rfl)
          (try simp only [Act.put, List.setIfInBounds_toArray, List.set_cons_zero, List.set_cons_succ])
          refine wpAnyH_take (i := 13) (oi := { dst := some 59, op := Op.load 3 (Operand.tmp 58), type := 3, pos := "ref.go:128", after := #[{ on := 12, ground := Ground.data }, { on := 9, ground := Ground.guard }], guard := some (9, false) }) (v := ?vq6013) rfl (by kernel_rfl) (by kernel_rfl) (by kernel_rfl) (fun _ _ _ h => h) (Or.inl ⟨by rfl, ?hq6013⟩) (by assumption) ?_
          case hq6013 => intro w hSw; (try dsimp only at hSw); go_simp; try (with_reducible rfl)
          (try simp only [Act.put, List.setIfInBounds_toArray, List.set_cons_zero, List.set_cons_succ])
          refine wpAnyH_take (i := 14) (oi := { dst := some 60, op := Op.load 25 (Operand.tmp 9), type := 25, pos := "ref.go:128", after := #[{ on := 9, ground := Ground.guard }], guard := some (9, false) }) (v := ?vq6014) rfl (by kernel_rfl) (by kernel_rfl) (by kernel_rfl) (fun _ _ _ h => h) (Or.inl ⟨by rfl, ?hq6014⟩) (by assumption) ?_
          case hq6014 => intro w hSw; (try dsimp only at hSw); go_simp; try (with_reducible rfl)
          (try simp only [Act.put, List.setIfInBounds_toArray, List.set_cons_zero, List.set_cons_succ])
          refine wpAnyH_ready (rs := [15]) (by kernel_rfl) (by simp) ?_
          refine AllReadyH.cons (o := { dst := some 61, op := Op.call { callee := Callee.value (Operand.func 46), args := #[Operand.tmp 59, Operand.tmp 60], argTypes := #[3, 25] }, type := 4, pos := "ref.go:128", after := #[{ on := 13, ground := Ground.data }, { on := 14, ground := Ground.data }, { on := 9, ground := Ground.chain }, { on := 9, ground := Ground.guard }], guard := some (9, false) }) rfl (fun K hK => ?_) AllReadyH.nil
          go_simp
          (go_at_call 46; refine (hal _).mono ?_; rintro e w5 ⟨rfl, hb5⟩; have B5 : Below w2.heap.size w2 w5 := B4.out.trans (hb5.mono B4.out.size); obtain ⟨bw5, y50, y51, y52, y53, y54⟩ := hkc.out w5 B5; obtain ⟨z50, z51, -, zw5, -, z53⟩ := hpb.out w5 bw5; clear hb5; replace B5 := Lib.hid B5; replace bw5 := Lib.hid bw5; replace zw5 := Lib.hid zw5)
          refine hK.out _ _ ?_ (fun hHeld => ?_)
          · (refine ⟨⟨?_, ?_, ?_⟩, ?_, ?_, ?_, ?_, ?_⟩ <;> assumption)
          clear hK K
          (try simp only [Act.put, List.setIfInBounds_toArray, List.set_cons_zero, List.set_cons_succ])
          refine wpAnyH_take (i := 16) (oi := { dst := some 62, op := Op.unOp UnOp.not 4 (Operand.tmp 61), type := 4, pos := "ref.go:128", after := #[{ on := 15, ground := Ground.data }, { on := 9, ground := Ground.guard }], guard := some (9, false) }) (v := ?vq6016) rfl (by kernel_rfl) (by kernel_rfl) (by kernel_rfl) (fun _ _ _ h => h) (Or.inl ⟨by rfl, ?hq6016⟩) (by assumption) ?_
          case hq6016 => intro w hSw; (try dsimp only at hSw); go_simp; try (with_reducible rfl)
          (try simp only [Act.put, List.setIfInBounds_toArray, List.set_cons_zero, List.set_cons_succ])
          refine wpAnyH_take (i := 17) (oi := { dst := some 63, op := Op.pick (Operand.tmp 55) (Operand.const (Value.bool true)) (Operand.tmp 62), type := 4, pos := "ref.go:128", after := #[{ on := 9, ground := Ground.data }, { on := 16, ground := Ground.data }], guard := none }) (v := ?vq6017) rfl (by kernel_rfl) (by kernel_rfl) (by kernel_rfl) (fun _ _ _ h => h) (Or.inl ⟨by rfl, ?hq6017⟩) (by assumption) ?_
          case hq6017 => intro w hSw; (try dsimp only at hSw); go_simp; try (with_reducible rfl)
          (try simp only [Act.put, List.setIfInBounds_toArray, List.set_cons_zero, List.set_cons_succ])
          refine wpAnyH_take (i := 18) (oi := { dst := some 64, op := Op.move (Operand.tmp 63), type := 4, pos := "ref.go:128", after := #[{ on := 17, ground := Ground.data }, { on := 15, ground := Ground.chain }], guard := none }) (v := ?vq6018) rfl (by kernel_rfl) (by kernel_rfl) (by kernel_rfl) (fun _ _ _ h => h) (Or.inl ⟨by rfl, ?hq6018⟩) (by assumption) ?_
          case hq6018 => intro w hSw; (try dsimp only at hSw); go_simp; try (with_reducible rfl)
          (try simp only [Act.put, List.setIfInBounds_toArray, List.set_cons_zero, List.set_cons_succ])
          refine wpAnyH_take (i := 19) (oi := { dst := some 65, op := Op.move (Operand.tmp 10), type := 3, pos := "ref.go:128", after := #[{ on := 18, ground := Ground.guard }], guard := some (18, false) }) (v := ?vq6019) rfl (by kernel_rfl) (by kernel_rfl) (by kernel_rfl) (fun _ _ _ h => h) (Or.inl ⟨by rfl, ?hq6019⟩) (by assumption) ?_
          case hq6019 => intro w hSw; (try dsimp only at hSw); go_simp; try (with_reducible rfl)
          (try simp only [Act.put, List.setIfInBounds_toArray, List.set_cons_zero, List.set_cons_succ])
          refine wpAnyH_take (i := 20) (oi := { dst := some 66, op := Op.binOp BinOp.geq 3 (Operand.tmp 65) (Operand.const (Value.int IntKind.i64 0)) 3, type := 4, pos := "ref.go:128", after := #[{ on := 19, ground := Ground.data }, { on := 18, ground := Ground.guard }], guard := some (18, false) }) (v := ?vq6020) rfl (by kernel_rfl) (by kernel_rfl) (by kernel_rfl) (fun _ _ _ h => h) (Or.inl ⟨by rfl, ?hq6020⟩) (by assumption) ?_
          case hq6020 => intro w hSw; (try dsimp only at hSw); go_simp; try (with_reducible rfl)
          (try simp only [Act.put, List.setIfInBounds_toArray, List.set_cons_zero, List.set_cons_succ])
          refine wpAnyH_take (i := 21) (oi := { dst := some 67, op := Op.move (Operand.tmp 66), type := 4, pos := "ref.go:128", after := #[{ on := 20, ground := Ground.data }, { on := 18, ground := Ground.chain }, { on := 18, ground := Ground.guard }], guard := some (18, false) }) (v := ?vq6021) rfl (by kernel_rfl) (by kernel_rfl) (by kernel_rfl) (fun _ _ _ h => h) (Or.inl ⟨by rfl, ?hq6021⟩) (by assumption) ?_
          case hq6021 => intro w hSw; (try dsimp only at hSw); go_simp; try (with_reducible rfl)
          (try simp only [Act.put, List.setIfInBounds_toArray, List.set_cons_zero, List.set_cons_succ])
          refine wpAnyH_take (i := 22) (oi := { dst := some 68, op := Op.fieldAddr 25 (Operand.tmp 9) 4, type := 0, pos := "ref.go:128", after := #[{ on := 21, ground := Ground.guard }], guard := some (21, true) }) (v := undef) rfl (by kernel_rfl) (by kernel_rfl) (by kernel_rfl) (fun _ _ _ h => h) (Or.inr ⟨by rfl, rfl⟩) (by assumption) ?_
          (try simp only [Act.put, List.setIfInBounds_toArray, List.set_cons_zero, List.set_cons_succ])
          refine wpAnyH_take (i := 23) (oi := { dst := some 69, op := Op.load 23 (Operand.tmp 68), type := 23, pos := "ref.go:128", after := #[{ on := 22, ground := Ground.data }, { on := 21, ground := Ground.guard }], guard := some (21, true) }) (v := undef) rfl (by kernel_rfl) (by kernel_rfl) (by kernel_rfl) (fun _ _ _ h => h) (Or.inr ⟨by rfl, rfl⟩) (by assumption) ?_
          (try simp only [Act.put, List.setIfInBounds_toArray, List.set_cons_zero, List.set_cons_succ])
          refine wpAnyH_take (i := 24) (oi := { dst := some 70, op := Op.call { callee := Callee.builtin Builtin.len, args := #[Operand.tmp 69], argTypes := #[23] }, type := 3, pos := "ref.go:128", after := #[{ on := 23, ground := Ground.data }, { on := 21, ground := Ground.guard }], guard := some (21, true) }) (v := undef) rfl (by kernel_rfl) (by kernel_rfl) (by kernel_rfl) (fun _ _ _ h => h) (Or.inr ⟨by rfl, rfl⟩) (by assumption) ?_
          (try simp only [Act.put, List.setIfInBounds_toArray, List.set_cons_zero, List.set_cons_succ])
          refine wpAnyH_take (i := 25) (oi := { dst := some 71, op := Op.move (Operand.tmp 10), type := 3, pos := "ref.go:128", after := #[{ on := 21, ground := Ground.guard }], guard := some (21, true) }) (v := undef) rfl (by kernel_rfl) (by kernel_rfl) (by kernel_rfl) (fun _ _ _ h => h) (Or.inr ⟨by rfl, rfl⟩) (by assumption) ?_
          (try simp only [Act.put, List.setIfInBounds_toArray, List.set_cons_zero, List.set_cons_succ])
          refine wpAnyH_take (i := 26) (oi := { dst := some 72, op := Op.binOp BinOp.neq 3 (Operand.tmp 70) (Operand.tmp 71) 3, type := 4, pos := "ref.go:128", after := #[{ on := 24, ground := Ground.data }, { on := 25, ground := Ground.data }, { on := 21, ground := Ground.guard }], guard := some (21, true) }) (v := undef) rfl (by kernel_rfl) (by kernel_rfl) (by kernel_rfl) (fun _ _ _ h => h) (Or.inr ⟨by rfl, rfl⟩) (by assumption) ?_
          (try simp only [Act.put, List.setIfInBounds_toArray, List.set_cons_zero, List.set_cons_succ])
          refine wpAnyH_take (i := 27) (oi := { dst := some 73, op := Op.pick (Operand.tmp 67) (Operand.tmp 72) (Operand.const (Value.bool false)), type := 4, pos := "ref.go:128", after := #[{ on := 21, ground := Ground.data }, { on := 26, ground := Ground.data }, { on := 18, ground := Ground.guard }], guard := some (18, false) }) (v := ?vq6027) rfl (by kernel_rfl) (by kernel_rfl) (by kernel_rfl) (fun _ _ _ h => h) (Or.inl ⟨by rfl, ?hq6027⟩) (by assumption) ?_
          case hq6027 => intro w hSw; (try dsimp only at hSw); go_simp; try (with_reducible rfl)
          (try simp only [Act.put, List.setIfInBounds_toArray, List.set_cons_zero, List.set_cons_succ])
          refine wpAnyH_take (i := 28) (oi := { dst := some 74, op := Op.pick (Operand.tmp 64) (Operand.const (Value.bool true)) (Operand.tmp 73), type := 4, pos := "ref.go:128", after := #[{ on := 18, ground := Ground.data }, { on := 27, ground := Ground.data }], guard := none }) (v := ?vq6028) rfl (by kernel_rfl) (by kernel_rfl) (by kernel_rfl) (fun _ _ _ h => h) (Or.inl ⟨by rfl, ?hq6028⟩) (by assumption) ?_
          case hq6028 => intro w hSw; (try dsimp only at hSw); go_simp; try (with_reducible rfl)
          (try simp only [Act.put, List.setIfInBounds_toArray, List.set_cons_zero, List.set_cons_succ])
          refine wpAnyH_take (i := 29) (oi := { dst := some 75, op := Op.move (Operand.tmp 74), type := 4, pos := "ref.go:128", after := #[{ on := 28, ground := Ground.data }, { on := 21, ground := Ground.chain }], guard := none }) (v := ?vq6029) rfl (by kernel_rfl) (by kernel_rfl) (by kernel_rfl) (fun _ _ _ h => h) (Or.inl ⟨by rfl, ?hq6029⟩) (by assumption) ?_
          case hq6029 => intro w hSw; (try dsimp only at hSw); go_simp; try (with_reducible rfl)
          (try simp only [Act.put, List.setIfInBounds_toArray, List.set_cons_zero, List.set_cons_succ])
          refine wpAnyH_take (i := 30) (oi := { dst := some 76, op := Op.move (Operand.tmp 10), type := 3, pos := "ref.go:128", after := #[{ on := 29, ground := Ground.guard }], guard := some (29, false) }) (v := ?vq6030) rfl (by kernel_rfl) (by kernel_rfl) (by kernel_rfl) (fun _ _ _ h => h) (Or.inl ⟨by rfl, ?hq6030⟩) (by assumption) ?_
          case hq6030 => intro w hSw; (try dsimp only at hSw); go_simp; try (with_reducible rfl)
          (try simp only [Act.put, List.setIfInBounds_toArray, List.set_cons_zero, List.set_cons_succ])
          refine wpAnyH_take (i := 31) (oi := { dst := some 77, op := Op.binOp BinOp.lss 3 (Operand.tmp 76) (Operand.const (Value.int IntKind.i64 0)) 3, type := 4, pos := "ref.go:128", after := #[{ on := 30, ground := Ground.data }, { on := 29, ground := Ground.guard }], guard := some (29, false) }) (v := ?vq6031) rfl (by kernel_rfl) (by kernel_rfl) (by kernel_rfl) (fun _ _ _ h => h) (Or.inl ⟨by rfl, ?hq6031⟩) (by assumption) ?_
          case hq6031 => intro w hSw; (try dsimp only at hSw); go_simp; try (with_reducible rfl)
          (try simp only [Act.put, List.setIfInBounds_toArray, List.set_cons_zero, List.set_cons_succ])
          refine wpAnyH_take (i := 32) (oi := { dst := some 78, op := Op.move (Operand.tmp 77), type := 4, pos := "ref.go:128", after := #[{ on := 31, ground := Ground.data }, { on := 29, ground := Ground.chain }, { on := 29, ground := Ground.guard }], guard := some (29, false) }) (v := ?vq6032) rfl (by kernel_rfl) (by kernel_rfl) (by kernel_rfl) (fun _ _ _ h => h) (Or.inl ⟨by rfl, ?hq6032⟩) (by assumption) ?_
          case hq6032 => intro w hSw; (try dsimp only at hSw); go_simp; try (with_reducible rfl)
          (try simp only [Act.put, List.setIfInBounds_toArray, List.set_cons_zero, List.set_cons_succ])
          refine wpAnyH_take (i := 33) (oi := { dst := some 79, op := Op.fieldAddr 25 (Operand.tmp 9) 4, type := 0, pos := "ref.go:128", after := #[{ on := 32, ground := Ground.guard }], guard := some (32, true) }) (v := ?vq6033) rfl (by kernel_rfl) (by kernel_rfl) (by kernel_rfl) (fun _ _ _ h => h) (Or.inl ⟨by rfl, ?hq6033⟩) (by assumption) ?_
          case hq6033 => intro w hSw; (try dsimp only at hSw); go_simp; try (with_reducible rfl)
          (try simp only [Act.put, List.setIfInBounds_toArray, List.set_cons_zero, List.set_cons_succ])
          refine wpAnyH_take (i := 34) (oi := { dst := some 80, op := Op.load 23 (Operand.tmp 79), type := 23, pos := "ref.go:128", after := #[{ on := 33, ground := Ground.data }, { on := 32, ground := Ground.guard }], guard := some (32, true) }) (v := ?vq6034) rfl (by kernel_rfl) (by kernel_rfl) (by kernel_rfl) (fun _ _ _ h => h) (Or.inl ⟨by rfl, ?hq6034⟩) (by assumption) ?_
          case hq6034 => intro w hSw; (try dsimp only at hSw); go_simp; try (with_reducible rfl)
          (try simp only [Act.put, List.setIfInBounds_toArray, List.set_cons_zero, List.set_cons_succ])
          refine wpAnyH_take (i := 35) (oi := { dst := some 81, op := Op.call { callee := Callee.builtin Builtin.len, args := #[Operand.tmp 80], argTypes := #[23] }, type := 3, pos := "ref.go:128", after := #[{ on := 34, ground := Ground.data }, { on := 32, ground := Ground.guard }], guard := some (32, true) }) (v := ?vq6035) rfl (by kernel_rfl) (by kernel_rfl) (by kernel_rfl) (fun _ _ _ h => h) (Or.inl ⟨by rfl, ?hq6035⟩) (by assumption) ?_
          case hq6035 => intro w hSw; (try dsimp only at hSw); go_simp; try (with_reducible rfl)
          (try simp only [Act.put, List.setIfInBounds_toArray, List.set_cons_zero, List.set_cons_succ])
          refine wpAnyH_take (i := 36) (oi := { dst := some 82, op := Op.binOp BinOp.lss 3 (Operand.tmp 81) (Operand.const (Value.int IntKind.i64 1)) 3, type := 4, pos := "ref.go:128", after := #[{ on := 35, ground := Ground.data }, { on := 32, ground := Ground.guard }], guard := some (32, true) }) (v := ?vq6036) rfl (by kernel_rfl) (by kernel_rfl) (by kernel_rfl) (fun _ _ _ h => h) (Or.inl ⟨by rfl, ?hq6036⟩) (by assumption) ?_
          case hq6036 => intro w hSw; (try dsimp only at hSw); go_simp; try (with_reducible rfl)
          (try simp only [Act.put, List.setIfInBounds_toArray, List.set_cons_zero, List.set_cons_succ])
          refine wpAnyH_take (i := 37) (oi := { dst := some 83, op := Op.pick (Operand.tmp 78) (Operand.tmp 82) (Operand.const (Value.bool false)), type := 4, pos := "ref.go:128", after := #[{ on := 32, ground := Ground.data }, { on := 36, ground := Ground.data }, { on := 29, ground := Ground.guard }], guard := some (29, false) }) (v := ?vq6037) rfl (by kernel_rfl) (by kernel_rfl) (by kernel_rfl) (fun _ _ _ h => h) (Or.inl ⟨by rfl, ?hq6037⟩) (by assumption) ?_
          case hq6037 => intro w hSw; (try dsimp only at hSw); go_simp; try (with_reducible rfl)
          (try simp only [Act.put, List.setIfInBounds_toArray, List.set_cons_zero, List.set_cons_succ])
          refine wpAnyH_take (i := 38) (oi := { dst := some 84, op := Op.pick (Operand.tmp 75) (Operand.const (Value.bool true)) (Operand.tmp 83), type := 4, pos := "ref.go:128", after := #[{ on := 29, ground := Ground.data }, { on := 37, ground := Ground.data }], guard := none }) (v := ?vq6038) rfl (by kernel_rfl) (by kernel_rfl) (by kernel_rfl) (fun _ _ _ h => h) (Or.inl ⟨by rfl, ?hq6038⟩) (by assumption) ?_
          case hq6038 => intro w hSw; (try dsimp only at hSw); go_simp; try (with_reducible rfl)
          (try simp only [Act.put, List.setIfInBounds_toArray, List.set_cons_zero, List.set_cons_succ])
          refine wpAnyH_done (by kernel_rfl) ?_ _
          go_wp2
          go_returns
          exact ⟨false, rfl, ⟨fun h => (by cases h), fun h => by have := h.ins x (List.mem_of_getElem? HX.out); rw [instr_ref HKL.out HK.out, ← hN.out] at this; have h3 := this.2.2.1; rw [labC, if_neg (by omega)] at h3; simp at h3; omega⟩, zw5.out⟩
        · have t5 : decide ((x.l.length : Int) < 1) = false := by simp; omega
          have hlc0 : labC N x.l.length = true := by rw [labC, if_neg hN0]; simp; omega
          replace hl := Lib.hid hl
          replace hN0 := Lib.hid hN0
          go_wp2_with fail
          refine wp_region_held_drew (S := (fun w' => (w'.cell? ⟨w.heap.size, 0, none⟩ = some (.slice (some ⟨bf, off, none⟩) p.fs.length capf) ∧ w'.cell? ⟨w.heap.size, 1, none⟩ = some (.slice oac p.cs.length capc) ∧ w'.cell? ⟨bk, offk + i, none⟩ = some (.int .i64 k)) ∧ w'.cell? ⟨bx, 0, none⟩ = some (.int .i64 x.op) ∧ w'.cell? ⟨bx, 1, none⟩ = some (.int .i64 x.a) ∧ w'.cell? ⟨bx, 2, none⟩ = some (.int .i64 x.b) ∧ w'.cell? ⟨bx, 3, none⟩ = some (.int .i64 x.c) ∧ w'.cell? ⟨bx, 4, none⟩ = some (.slice oal x.l.length capl))) (by kernel_rfl) ?_ (fun hHeld => ?_)
          · exact ⟨⟨z0, z1, z3⟩, y0, y1, y2, y3, y4⟩
          refine wpAnyH_take (i := 0) (oi := { dst := some 46, op := Op.load 25 (Operand.tmp 9), type := 25, pos := "ref.go:128", after := #[], guard := none }) (v := ?vq7000) rfl (by kernel_rfl) (by kernel_rfl) (by kernel_rfl) (fun _ _ _ h => h) (Or.inl ⟨by rfl, ?hq7000⟩) (by assumption) ?_
          case hq7000 => intro w hSw; (try dsimp only at hSw); go_simp; try (with_reducible rfl)
          (try simp only [Act.put, List.setIfInBounds_toArray, List.set_cons_zero, List.set_cons_succ])
          refine wpAnyH_ready (rs := [1]) (by kernel_rfl) (by simp) ?_
          refine AllReadyH.cons (o := { dst := some 47, op := Op.call { callee := Callee.value (Operand.func 29), args := #[Operand.tmp 46], argTypes := #[25] }, type := 4, pos := "ref.go:128", after := #[{ on := 0, ground := Ground.data }], guard := none }) rfl (fun K hK => ?_) AllReadyH.nil
          go_simp
          (go_at_call 29; refine (hkn _).mono ?_; rintro e w3 ⟨rfl, hb3⟩; have B3 : Below w2.heap.size w2 w3 := undrew2 hb3; obtain ⟨bw3, y30, y31, y32, y33, y34⟩ := hkc.out w3 B3; obtain ⟨z30, z31, -, zw3, -, z33⟩ := hpb.out w3 bw3; clear hb3; replace B3 := Lib.hid B3; replace bw3 := Lib.hid bw3; replace zw3 := Lib.hid zw3)
          refine hK.out _ _ ?_ (fun hHeld => ?_)
          · (refine ⟨⟨?_, ?_, ?_⟩, ?_, ?_, ?_, ?_, ?_⟩ <;> assumption)
          clear hK K
          (try simp only [Act.put, List.setIfInBounds_toArray, List.set_cons_zero, List.set_cons_succ])
          refine wpAnyH_take (i := 2) (oi := { dst := some 48, op := Op.unOp UnOp.not 4 (Operand.tmp 47), type := 4, pos := "ref.go:128", after := #[{ on := 1, ground := Ground.data }], guard := none }) (v := ?vq7002) rfl (by kernel_rfl) (by kernel_rfl) (by kernel_rfl) (fun _ _ _ h => h) (Or.inl ⟨by rfl, ?hq7002⟩) (by assumption) ?_
          case hq7002 => intro w hSw; (try dsimp only at hSw); go_simp; try (with_reducible rfl)
          (try simp only [Act.put, List.setIfInBounds_toArray, List.set_cons_zero, List.set_cons_succ])
          refine wpAnyH_take (i := 3) (oi := { dst := some 49, op := Op.move (Operand.tmp 48), type := 4, pos := "ref.go:128", after := #[{ on := 2, ground := Ground.data }, { on := 1, ground := Ground.chain }], guard := none }) (v := ?vq7003) rfl (by kernel_rfl) (by kernel_rfl) (by kernel_rfl) (fun _ _ _ h => h) (Or.inl ⟨by rfl, ?hq7003⟩) (by assumption) ?_
          case hq7003 => intro w hSw; (try dsimp only at hSw); go_simp; try (with_reducible rfl)
          (try simp only [Act.put, List.setIfInBounds_toArray, List.set_cons_zero, List.set_cons_succ])
          refine wpAnyH_take (i := 4) (oi := { dst := some 50, op := Op.load 35 (Operand.tmp 3), type := 35, pos := "ref.go:128", after := #[{ on := 3, ground := Ground.guard }], guard := some (3, false) }) (v := ?vq7004) rfl (by kernel_rfl) (by kernel_rfl) (by kernel_rfl) (fun _ _ _ h => h) (Or.inl ⟨by rfl, ?hq7004⟩) (by assumption) ?_
          case hq7004 => intro w hSw; (try dsimp only at hSw); go_simp; try (with_reducible rfl)
          (try simp only [Act.put, List.setIfInBounds_toArray, List.set_cons_zero, List.set_cons_succ])
          refine wpAnyH_take (i := 5) (oi := { dst := some 51, op := Op.load 25 (Operand.tmp 9), type := 25, pos := "ref.go:128", after := #[{ on := 3, ground := Ground.guard }], guard := some (3, false) }) (v := ?vq7005) rfl (by kernel_rfl) (by kernel_rfl) (by kernel_rfl) (fun _ _ _ h => h) (Or.inl ⟨by rfl, ?hq7005⟩) (by assumption) ?_
          case hq7005 => intro w hSw; (try dsimp only at hSw); go_simp; try (with_reducible rfl)
          (try simp only [Act.put, List.setIfInBounds_toArray, List.set_cons_zero, List.set_cons_succ])
          refine wpAnyH_ready (rs := [6]) (by kernel_rfl) (by simp) ?_
          refine AllReadyH.cons (o := { dst := some 52, op := Op.call { callee := Callee.value (Operand.func 45), args := #[Operand.tmp 50, Operand.tmp 51], argTypes := #[35, 25] }, type := 4, pos := "ref.go:128", after := #[{ on := 4, ground := Ground.data }, { on := 5, ground := Ground.data }, { on := 3, ground := Ground.chain }, { on := 3, ground := Ground.guard }], guard := some (3, false) }) rfl (fun K hK => ?_) AllReadyH.nil
          go_simp
          (go_at_call 45; refine (hfl2 _).mono ?_; rintro e w4 ⟨rfl, hb4⟩; have B4 : Below w2.heap.size w2 w4 := B3.out.trans (hb4.mono B3.out.size); obtain ⟨bw4, y40, y41, y42, y43, y44⟩ := hkc.out w4 B4; obtain ⟨z40, z41, -, zw4, -, z43⟩ := hpb.out w4 bw4; clear hb4; replace B4 := Lib.hid B4; replace bw4 := Lib.hid bw4; replace zw4 := Lib.hid zw4)
          refine hK.out _ _ ?_ (fun hHeld => ?_)
          · (refine ⟨⟨?_, ?_, ?_⟩, ?_, ?_, ?_, ?_, ?_⟩ <;> assumption)
          clear hK K
          (try simp only [Act.put, List.setIfInBounds_toArray, List.set_cons_zero, List.set_cons_succ])
          refine wpAnyH_take (i := 7) (oi := { dst := some 53, op := Op.unOp UnOp.not 4 (Operand.tmp 52), type := 4, pos := "ref.go:128", after := #[{ on := 6, ground := Ground.data }, { on := 3, ground := Ground.guard }], guard := some (3, false) }) (v := ?vq7007) rfl (by kernel_rfl) (by kernel_rfl) (by kernel_rfl) (fun _ _ _ h => h) (Or.inl ⟨by rfl, ?hq7007⟩) (by assumption) ?_
          case hq7007 => intro w hSw; (try dsimp only at hSw); go_simp; try (with_reducible rfl)
          (try simp only [Act.put, List.setIfInBounds_toArray, List.set_cons_zero, List.set_cons_succ])
          refine wpAnyH_take (i := 8) (oi := { dst := some 54, op := Op.pick (Operand.tmp 49) (Operand.const (Value.bool true)) (Operand.tmp 53), type := 4, pos := "ref.go:128", after := #[{ on := 3, ground := Ground.data }, { on := 7, ground := Ground.data }], guard := none }) (v := ?vq7008) rfl (by kernel_rfl) (by kernel_rfl) (by kernel_rfl) (fun _ _ _ h => h) (Or.inl ⟨by rfl, ?hq7008⟩) (by assumption) ?_
          case hq7008 => intro w hSw; (try dsimp only at hSw); go_simp; try (with_reducible rfl)
          (try simp only [Act.put, List.setIfInBounds_toArray, List.set_cons_zero, List.set_cons_succ])
          refine wpAnyH_take (i := 9) (oi := { dst := some 55, op := Op.move (Operand.tmp 54), type := 4, pos := "ref.go:128", after := #[{ on := 8, ground := Ground.data }, { on := 6, ground := Ground.chain }], guard := none }) (v := ?vq7009) rfl (by kernel_rfl) (by kernel_rfl) (by kernel_rfl) (fun _ _ _ h => h) (Or.inl ⟨by rfl, ?hq7009⟩) (by assumption) ?_
          case hq7009 => intro w hSw; (try dsimp only at hSw); go_simp; try (with_reducible rfl)
          (try simp only [Act.put, List.setIfInBounds_toArray, List.set_cons_zero, List.set_cons_succ])
          refine wpAnyH_take (i := 10) (oi := { dst := some 56, op := Op.move (Operand.tmp 1), type := 23, pos := "ref.go:128", after := #[{ on := 9, ground := Ground.guard }], guard := some (9, false) }) (v := ?vq7010) rfl (by kernel_rfl) (by kernel_rfl) (by kernel_rfl) (fun _ _ _ h => h) (Or.inl ⟨by rfl, ?hq7010⟩) (by assumption) ?_
          case hq7010 => intro w hSw; (try dsimp only at hSw); go_simp; try (with_reducible rfl)
          (try simp only [Act.put, List.setIfInBounds_toArray, List.set_cons_zero, List.set_cons_succ])
          refine wpAnyH_take (i := 11) (oi := { dst := some 57, op := Op.move (Operand.tmp 2), type := 3, pos := "ref.go:128", after := #[{ on := 9, ground := Ground.guard }], guard := some (9, false) }) (v := ?vq7011) rfl (by kernel_rfl) (by kernel_rfl) (by kernel_rfl) (fun _ _ _ h => h) (Or.inl ⟨by rfl, ?hq7011⟩) (by assumption) ?_
          case hq7011 => intro w hSw; (try dsimp only at hSw); go_simp; try (with_reducible rfl)
          (try simp only [Act.put, List.setIfInBounds_toArray, List.set_cons_zero, List.set_cons_succ])
          refine wpAnyH_take (i := 12) (oi := { dst := some 58, op := Op.indexAddr 23 (Operand.tmp 56) (Operand.tmp 57), type := 0, pos := "ref.go:128", after := #[{ on := 10, ground := Ground.data }, { on := 11, ground := Ground.data }, { on := 9, ground := Ground.guard }], guard := some (9, false) }) (v := ?vq7012) rfl (by kernel_rfl) (by kernel_rfl) (by kernel_rfl) (fun _ _ _ h => h) (Or.inl ⟨by rfl, ?hq7012⟩) (by assumption) ?_
          case hq7012 => intro w hSw; (try dsimp only at hSw); go_simp; try (with_reducible rfl)
          (try simp only [Act.put, List.setIfInBounds_toArray, List.set_cons_zero, List.set_cons_succ])
          refine wpAnyH_take (i := 13) (oi := { dst := some 59, op := Op.load 3 (Operand.tmp 58), type := 3, pos := "ref.go:128", after := #[{ on := 12, ground := Ground.data }, { on := 9, ground := Ground.guard }], guard := some (9, false) }) (v := ?vq7013) rfl (by kernel_rfl) (by kernel_rfl) (by kernel_rfl) (fun _ _ _ h => h) (Or.inl ⟨by rfl, ?hq7013⟩) (by assumption) ?_
          case hq7013 => intro w hSw; (try dsimp only at hSw); go_simp; try (with_reducible rfl)
          (try simp only [Act.put, List.setIfInBounds_toArray, List.set_cons_zero, List.set_cons_succ])
          refine wpAnyH_take (i := 14) (oi := { dst := some 60, op := Op.load 25 (Operand.tmp 9), type := 25, pos := "ref.go:128", after := #[{ on := 9, ground := Ground.guard }], guard := some (9, false) }) (v := ?vq7014) rfl (by kernel_rfl) (by kernel_rfl) (by kernel_rfl) (fun _ _ _ h => h) (Or.inl ⟨by rfl, ?hq7014⟩) (by assumption) ?_
          case hq7014 => intro w hSw; (try dsimp only at hSw); go_simp; try (with_reducible rfl)
          (try simp only [Act.put, List.setIfInBounds_toArray, List.set_cons_zero, List.set_cons_succ])
          refine wpAnyH_ready (rs := [15]) (by kernel_rfl) (by simp) ?_
          refine AllReadyH.cons (o := { dst := some 61, op := Op.call { callee := Callee.value (Operand.func 46), args := #[Operand.tmp 59, Operand.tmp 60], argTypes := #[3, 25] }, type := 4, pos := "ref.go:128", after := #[{ on := 13, ground := Ground.data }, { on := 14, ground := Ground.data }, { on := 9, ground := Ground.chain }, { on := 9, ground := Ground.guard }], guard := some (9, false) }) rfl (fun K hK => ?_) AllReadyH.nil
          go_simp
          (go_at_call 46; refine (hal _).mono ?_; rintro e w5 ⟨rfl, hb5⟩; have B5 : Below w2.heap.size w2 w5 := B4.out.trans (hb5.mono B4.out.size); obtain ⟨bw5, y50, y51, y52, y53, y54⟩ := hkc.out w5 B5; obtain ⟨z50, z51, -, zw5, -, z53⟩ := hpb.out w5 bw5; clear hb5; replace B5 := Lib.hid B5; replace bw5 := Lib.hid bw5; replace zw5 := Lib.hid zw5)
          refine hK.out _ _ ?_ (fun hHeld => ?_)
          · (refine ⟨⟨?_, ?_, ?_⟩, ?_, ?_, ?_, ?_, ?_⟩ <;> assumption)
          clear hK K
          (try simp only [Act.put, List.setIfInBounds_toArray, List.set_cons_zero, List.set_cons_succ])
          refine wpAnyH_take (i := 16) (oi := { dst := some 62, op := Op.unOp UnOp.not 4 (Operand.tmp 61), type := 4, pos := "ref.go:128", after := #[{ on := 15, ground := Ground.data }, { on := 9, ground := Ground.guard }], guard := some (9, false) }) (v := ?vq7016) rfl (by kernel_rfl) (by kernel_rfl) (by kernel_rfl) (fun _ _ _ h => h) (Or.inl ⟨by rfl, ?hq7016⟩) (by assumption) ?_
          case hq7016 => intro w hSw; (try dsimp only at hSw); go_simp; try (with_reducible rfl)
          (try simp only [Act.put, List.setIfInBounds_toArray, List.set_cons_zero, List.set_cons_succ])
          refine wpAnyH_take (i := 17) (oi := { dst := some 63, op := Op.pick (Operand.tmp 55) (Operand.const (Value.bool true)) (Operand.tmp 62), type := 4, pos := "ref.go:128", after := #[{ on := 9, ground := Ground.data }, { on := 16, ground := Ground.data }], guard := none }) (v := ?vq7017) rfl (by kernel_rfl) (by kernel_rfl) (by kernel_rfl) (fun _ _ _ h => h) (Or.inl ⟨by rfl, ?hq7017⟩) (by assumption) ?_
          case hq7017 => intro w hSw; (try dsimp only at hSw); go_simp; try (with_reducible rfl)
          (try simp only [Act.put, List.setIfInBounds_toArray, List.set_cons_zero, List.set_cons_succ])
          refine wpAnyH_take (i := 18) (oi := { dst := some 64, op := Op.move (Operand.tmp 63), type := 4, pos := "ref.go:128", after := #[{ on := 17, ground := Ground.data }, { on := 15, ground := Ground.chain }], guard := none }) (v := ?vq7018) rfl (by kernel_rfl) (by kernel_rfl) (by kernel_rfl) (fun _ _ _ h => h) (Or.inl ⟨by rfl, ?hq7018⟩) (by assumption) ?_
          case hq7018 => intro w hSw; (try dsimp only at hSw); go_simp; try (with_reducible rfl)
          (try simp only [Act.put, List.setIfInBounds_toArray, List.set_cons_zero, List.set_cons_succ])
          refine wpAnyH_take (i := 19) (oi := { dst := some 65, op := Op.move (Operand.tmp 10), type := 3, pos := "ref.go:128", after := #[{ on := 18, ground := Ground.guard }], guard := some (18, false) }) (v := ?vq7019) rfl (by kernel_rfl) (by kernel_rfl) (by kernel_rfl) (fun _ _ _ h => h) (Or.inl ⟨by rfl, ?hq7019⟩) (by assumption) ?_
          case hq7019 => intro w hSw; (try dsimp only at hSw); go_simp; try (with_reducible rfl)
          (try simp only [Act.put, List.setIfInBounds_toArray, List.set_cons_zero, List.set_cons_succ])
          refine wpAnyH_take (i := 20) (oi := { dst := some 66, op := Op.binOp BinOp.geq 3 (Operand.tmp 65) (Operand.const (Value.int IntKind.i64 0)) 3, type := 4, pos := "ref.go:128", after := #[{ on := 19, ground := Ground.data }, { on := 18, ground := Ground.guard }], guard := some (18, false) }) (v := ?vq7020) rfl (by kernel_rfl) (by kernel_rfl) (by kernel_rfl) (fun _ _ _ h => h) (Or.inl ⟨by rfl, ?hq7020⟩) (by assumption) ?_
          case hq7020 => intro w hSw; (try dsimp only at hSw); go_simp; try (with_reducible rfl)
          (try simp only [Act.put, List.setIfInBounds_toArray, List.set_cons_zero, List.set_cons_succ])
          refine wpAnyH_take (i := 21) (oi := { dst := some 67, op := Op.move (Operand.tmp 66), type := 4, pos := "ref.go:128", after := #[{ on := 20, ground := Ground.data }, { on := 18, ground := Ground.chain }, { on := 18, ground := Ground.guard }], guard := some (18, false) }) (v := ?vq7021) rfl (by kernel_rfl) (by kernel_rfl) (by kernel_rfl) (fun _ _ _ h => h) (Or.inl ⟨by rfl, ?hq7021⟩) (by assumption) ?_
          case hq7021 => intro w hSw; (try dsimp only at hSw); go_simp; try (with_reducible rfl)
          (try simp only [Act.put, List.setIfInBounds_toArray, List.set_cons_zero, List.set_cons_succ])
          refine wpAnyH_take (i := 22) (oi := { dst := some 68, op := Op.fieldAddr 25 (Operand.tmp 9) 4, type := 0, pos := "ref.go:128", after := #[{ on := 21, ground := Ground.guard }], guard := some (21, true) }) (v := undef) rfl (by kernel_rfl) (by kernel_rfl) (by kernel_rfl) (fun _ _ _ h => h) (Or.inr ⟨by rfl, rfl⟩) (by assumption) ?_
          (try simp only [Act.put, List.setIfInBounds_toArray, List.set_cons_zero, List.set_cons_succ])
          refine wpAnyH_take (i := 23) (oi := { dst := some 69, op := Op.load 23 (Operand.tmp 68), type := 23, pos := "ref.go:128", after := #[{ on := 22, ground := Ground.data }, { on := 21, ground := Ground.guard }], guard := some (21, true) }) (v := undef) rfl (by kernel_rfl) (by kernel_rfl) (by kernel_rfl) (fun _ _ _ h => h) (Or.inr ⟨by rfl, rfl⟩) (by assumption) ?_
          (try simp only [Act.put, List.setIfInBounds_toArray, List.set_cons_zero, List.set_cons_succ])
          refine wpAnyH_take (i := 24) (oi := { dst := some 70, op := Op.call { callee := Callee.builtin Builtin.len, args := #[Operand.tmp 69], argTypes := #[23] }, type := 3, pos := "ref.go:128", after := #[{ on := 23, ground := Ground.data }, { on := 21, ground := Ground.guard }], guard := some (21, true) }) (v := undef) rfl (by kernel_rfl) (by kernel_rfl) (by kernel_rfl) (fun _ _ _ h => h) (Or.inr ⟨by rfl, rfl⟩) (by assumption) ?_
          (try simp only [Act.put, List.setIfInBounds_toArray, List.set_cons_zero, List.set_cons_succ])
          refine wpAnyH_take (i := 25) (oi := { dst := some 71, op := Op.move (Operand.tmp 10), type := 3, pos := "ref.go:128", after := #[{ on := 21, ground := Ground.guard }], guard := some (21, true) }) (v := undef) rfl (by kernel_rfl) (by kernel_rfl) (by kernel_rfl) (fun _ _ _ h => h) (Or.inr ⟨by rfl, rfl⟩) (by assumption) ?_
          (try simp only [Act.put, List.setIfInBounds_toArray, List.set_cons_zero, List.set_cons_succ])
          refine wpAnyH_take (i := 26) (oi := { dst := some 72, op := Op.binOp BinOp.neq 3 (Operand.tmp 70) (Operand.tmp 71) 3, type := 4, pos := "ref.go:128", after := #[{ on := 24, ground := Ground.data }, { on := 25, ground := Ground.data }, { on := 21, ground := Ground.guard }], guard := some (21, true) }) (v := undef) rfl (by kernel_rfl) (by kernel_rfl) (by kernel_rfl) (fun _ _ _ h => h) (Or.inr ⟨by rfl, rfl⟩) (by assumption) ?_
          (try simp only [Act.put, List.setIfInBounds_toArray, List.set_cons_zero, List.set_cons_succ])
          refine wpAnyH_take (i := 27) (oi := { dst := some 73, op := Op.pick (Operand.tmp 67) (Operand.tmp 72) (Operand.const (Value.bool false)), type := 4, pos := "ref.go:128", after := #[{ on := 21, ground := Ground.data }, { on := 26, ground := Ground.data }, { on := 18, ground := Ground.guard }], guard := some (18, false) }) (v := ?vq7027) rfl (by kernel_rfl) (by kernel_rfl) (by kernel_rfl) (fun _ _ _ h => h) (Or.inl ⟨by rfl, ?hq7027⟩) (by assumption) ?_
          case hq7027 => intro w hSw; (try dsimp only at hSw); go_simp; try (with_reducible rfl)
          (try simp only [Act.put, List.setIfInBounds_toArray, List.set_cons_zero, List.set_cons_succ])
          refine wpAnyH_take (i := 28) (oi := { dst := some 74, op := Op.pick (Operand.tmp 64) (Operand.const (Value.bool true)) (Operand.tmp 73), type := 4, pos := "ref.go:128", after := #[{ on := 18, ground := Ground.data }, { on := 27, ground := Ground.data }], guard := none }) (v := ?vq7028) rfl (by kernel_rfl) (by kernel_rfl) (by kernel_rfl) (fun _ _ _ h => h) (Or.inl ⟨by rfl, ?hq7028⟩) (by assumption) ?_
          case hq7028 => intro w hSw; (try dsimp only at hSw); go_simp; try (with_reducible rfl)
          (try simp only [Act.put, List.setIfInBounds_toArray, List.set_cons_zero, List.set_cons_succ])
          refine wpAnyH_take (i := 29) (oi := { dst := some 75, op := Op.move (Operand.tmp 74), type := 4, pos := "ref.go:128", after := #[{ on := 28, ground := Ground.data }, { on := 21, ground := Ground.chain }], guard := none }) (v := ?vq7029) rfl (by kernel_rfl) (by kernel_rfl) (by kernel_rfl) (fun _ _ _ h => h) (Or.inl ⟨by rfl, ?hq7029⟩) (by assumption) ?_
          case hq7029 => intro w hSw; (try dsimp only at hSw); go_simp; try (with_reducible rfl)
          (try simp only [Act.put, List.setIfInBounds_toArray, List.set_cons_zero, List.set_cons_succ])
          refine wpAnyH_take (i := 30) (oi := { dst := some 76, op := Op.move (Operand.tmp 10), type := 3, pos := "ref.go:128", after := #[{ on := 29, ground := Ground.guard }], guard := some (29, false) }) (v := ?vq7030) rfl (by kernel_rfl) (by kernel_rfl) (by kernel_rfl) (fun _ _ _ h => h) (Or.inl ⟨by rfl, ?hq7030⟩) (by assumption) ?_
          case hq7030 => intro w hSw; (try dsimp only at hSw); go_simp; try (with_reducible rfl)
          (try simp only [Act.put, List.setIfInBounds_toArray, List.set_cons_zero, List.set_cons_succ])
          refine wpAnyH_take (i := 31) (oi := { dst := some 77, op := Op.binOp BinOp.lss 3 (Operand.tmp 76) (Operand.const (Value.int IntKind.i64 0)) 3, type := 4, pos := "ref.go:128", after := #[{ on := 30, ground := Ground.data }, { on := 29, ground := Ground.guard }], guard := some (29, false) }) (v := ?vq7031) rfl (by kernel_rfl) (by kernel_rfl) (by kernel_rfl) (fun _ _ _ h => h) (Or.inl ⟨by rfl, ?hq7031⟩) (by assumption) ?_
          case hq7031 => intro w hSw; (try dsimp only at hSw); go_simp; try (with_reducible rfl)
          (try simp only [Act.put, List.setIfInBounds_toArray, List.set_cons_zero, List.set_cons_succ])
          refine wpAnyH_take (i := 32) (oi := { dst := some 78, op := Op.move (Operand.tmp 77), type := 4, pos := "ref.go:128", after := #[{ on := 31, ground := Ground.data }, { on := 29, ground := Ground.chain }, { on := 29, ground := Ground.guard }], guard := some (29, false) }) (v := ?vq7032) rfl (by kernel_rfl) (by kernel_rfl) (by kernel_rfl) (fun _ _ _ h => h) (Or.inl ⟨by rfl, ?hq7032⟩) (by assumption) ?_
          case hq7032 => intro w hSw; (try dsimp only at hSw); go_simp; try (with_reducible rfl)
          (try simp only [Act.put, List.setIfInBounds_toArray, List.set_cons_zero, List.set_cons_succ])
          refine wpAnyH_take (i := 33) (oi := { dst := some 79, op := Op.fieldAddr 25 (Operand.tmp 9) 4, type := 0, pos := "ref.go:128", after := #[{ on := 32, ground := Ground.guard }], guard := some (32, true) }) (v := ?vq7033) rfl (by kernel_rfl) (by kernel_rfl) (by kernel_rfl) (fun _ _ _ h => h) (Or.inl ⟨by rfl, ?hq7033⟩) (by assumption) ?_
          case hq7033 => intro w hSw; (try dsimp only at hSw); go_simp; try (with_reducible rfl)
          (try simp only [Act.put, List.setIfInBounds_toArray, List.set_cons_zero, List.set_cons_succ])
          refine wpAnyH_take (i := 34) (oi := { dst := some 80, op := Op.load 23 (Operand.tmp 79), type := 23, pos := "ref.go:128", after := #[{ on := 33, ground := Ground.data }, { on := 32, ground := Ground.guard }], guard := some (32, true) }) (v := ?vq7034) rfl (by kernel_rfl) (by kernel_rfl) (by kernel_rfl) (fun _ _ _ h => h) (Or.inl ⟨by rfl, ?hq7034⟩) (by assumption) ?_
          case hq7034 => intro w hSw; (try dsimp only at hSw); go_simp; try (with_reducible rfl)
          (try simp only [Act.put, List.setIfInBounds_toArray, List.set_cons_zero, List.set_cons_succ])
          refine wpAnyH_take (i := 35) (oi := { dst := some 81, op := Op.call { callee := Callee.builtin Builtin.len, args := #[Operand.tmp 80], argTypes := #[23] }, type := 3, pos := "ref.go:128", after := #[{ on := 34, ground := Ground.data }, { on := 32, ground := Ground.guard }], guard := some (32, true) }) (v := ?vq7035) rfl (by kernel_rfl) (by kernel_rfl) (by kernel_rfl) (fun _ _ _ h => h) (Or.inl ⟨by rfl, ?hq7035⟩) (by assumption) ?_
          case hq7035 => intro w hSw; (try dsimp only at hSw); go_simp; try (with_reducible rfl)
          (try simp only [Act.put, List.setIfInBounds_toArray, List.set_cons_zero, List.set_cons_succ])
          refine wpAnyH_take (i := 36) (oi := { dst := some 82, op := Op.binOp BinOp.lss 3 (Operand.tmp 81) (Operand.const (Value.int IntKind.i64 1)) 3, type := 4, pos := "ref.go:128", after := #[{ on := 35, ground := Ground.data }, { on := 32, ground := Ground.guard }], guard := some (32, true) }) (v := ?vq7036) rfl (by kernel_rfl) (by kernel_rfl) (by kernel_rfl) (fun _ _ _ h => h) (Or.inl ⟨by rfl, ?hq7036⟩) (by assumption) ?_
          case hq7036 => intro w hSw; (try dsimp only at hSw); go_simp; try (with_reducible rfl)
          (try simp only [Act.put, List.setIfInBounds_toArray, List.set_cons_zero, List.set_cons_succ])
          refine wpAnyH_take (i := 37) (oi := { dst := some 83, op := Op.pick (Operand.tmp 78) (Operand.tmp 82) (Operand.const (Value.bool false)), type := 4, pos := "ref.go:128", after := #[{ on := 32, ground := Ground.data }, { on := 36, ground := Ground.data }, { on := 29, ground := Ground.guard }], guard := some (29, false) }) (v := ?vq7037) rfl (by kernel_rfl) (by kernel_rfl) (by kernel_rfl) (fun _ _ _ h => h) (Or.inl ⟨by rfl, ?hq7037⟩) (by assumption) ?_
          case hq7037 => intro w hSw; (try dsimp only at hSw); go_simp; try (with_reducible rfl)
          (try simp only [Act.put, List.setIfInBounds_toArray, List.set_cons_zero, List.set_cons_succ])
          refine wpAnyH_take (i := 38) (oi := { dst := some 84, op := Op.pick (Operand.tmp 75) (Operand.const (Value.bool true)) (Operand.tmp 83), type := 4, pos := "ref.go:128", after := #[{ on := 29, ground := Ground.data }, { on := 37, ground := Ground.data }], guard := none }) (v := ?vq7038) rfl (by kernel_rfl) (by kernel_rfl) (by kernel_rfl) (fun _ _ _ h => h) (Or.inl ⟨by rfl, ?hq7038⟩) (by assumption) ?_
          case hq7038 => intro w hSw; (try dsimp only at hSw); go_simp; try (with_reducible rfl)
          (try simp only [Act.put, List.setIfInBounds_toArray, List.set_cons_zero, List.set_cons_succ])
          refine wpAnyH_done (by kernel_rfl) ?_ _
          have hlc := Lib.hid (show labC (labN x.op) x.l.length = true by rw [← hN.out]; exact hlc0)
          clear hlc0
          have hkd : Hid (∀ w', Below w5.heap.size w5 w' → w'.cell? ⟨bx, 0, none⟩ = some (.int .i64 x.op) ∧ w'.cell? ⟨bx, 2, none⟩ = some (.int .i64 x.b) ∧ w'.cell? ⟨bx, 4, none⟩ = some (.slice oal x.l.length capl) ∧ Below W.heap.size W w' ∧ Below w.heap.size w w') := Lib.hid fun w' h => by
            have h1 := hkc.out w' (B5.out.trans (h.mono B5.out.size))
            exact ⟨h1.2.1, h1.2.2.2.1, h1.2.2.2.2.2, h1.1, (hpb.out w' h1.1).2.2.2.1⟩
          obtain ⟨yy0, yy2, yy4, -, -⟩ := hkd.out w5 (Below.refl _ _)
          clear y0 y1 y2 y3 y4 z0 z1 z3 y30 y31 y32 y33 y34 y40 y41 y42 y43 y44 y50 y51 y52 y53 y54 z30 z31 z33 z40 z41 z43 z50 z51 z53 B3 B4 B5 bw3 bw4 bw5 zw3 zw4 zw5
          go_wp2_with fail
          go_loopw [11] (fun u wr => ∃ m : Nat, m ≤ x.l.length ∧ u = .int .i64 m ∧ (∀ q z, q < m → x.l[q]? = some z → 0 ≤ z ∧ z < (n : Int) + 1) ∧ Below w5.heap.size w5 wr) (fun u _ => x.l.length - (intOf u).toNat)
          case atStart => exact ⟨0, by omega, rfl, fun q z h => absurd h (Nat.not_lt_zero _), Below.refl _ _⟩
          case round =>
            clear yy0 yy2 yy4
            obtain ⟨m, hm, rfl, hso, hbl⟩ := hrel
            obtain ⟨yy0, yy2, yy4, bww, bw0⟩ := hkd.out wr hbl
            replace hso := Lib.hid hso
            replace hbl := Lib.hid hbl
            replace bww := Lib.hid bww
            replace bw0 := Lib.hid bw0
            by_cases hml : m < x.l.length
            · have t5 : decide ((m : Int) < x.l.length) = true := by simp; omega
              obtain ⟨z, hz⟩ : ∃ z, x.l[m]? = some z := ⟨_, List.getElem?_eq_getElem hml⟩
              obtain ⟨rfl, hz2⟩ := HLB.out m z hz
              obtain ⟨cz, hblw⟩ := hz2 wr bw0.out
              have HZ := Lib.hid hz
              clear hz hz2
              by_cases hz0 : z < 0
              · have t6 : decide (z < 0) = true := by simpa using hz0
                have hno := Lib.hid (show ¬ ShOk p.cs.length ks k f from fun h => by
                  have h1 := h.ins x (List.mem_of_getElem? HX.out)
                  rw [instr_ref HKL.out HK.out, HN.out] at h1
                  have := h1.2.2.2.1 z (List.mem_of_getElem? HZ.out)
                  omega)
                go_wp2
                go_returns
                first | exact ⟨false, rfl, ⟨fun h => (by cases h), fun h => absurd h hno.out⟩, bw0.out⟩ | exact Or.inl ⟨rfl, hno.out, bw0.out⟩
              · have t6 : decide (z < 0) = false := by simp; omega
                by_cases hz1 : z ≥ (n : Int) + 1
                · have t7 : decide (z ≥ (n : Int) + 1) = true := by simpa using hz1
                  have hno := Lib.hid (show ¬ ShOk p.cs.length ks k f from fun h => by
                    have h1 := h.ins x (List.mem_of_getElem? HX.out)
                    rw [instr_ref HKL.out HK.out, HN.out] at h1
                    have := h1.2.2.2.1 z (List.mem_of_getElem? HZ.out)
                    omega)
                  go_wp2
                  go_returns
                  first | exact ⟨false, rfl, ⟨fun h => (by cases h), fun h => absurd h hno.out⟩, bw0.out⟩ | exact Or.inl ⟨rfl, hno.out, bw0.out⟩
                · have t7 : decide (z ≥ (n : Int) + 1) = false := by simp; omega
                  have hzz : Hid (0 ≤ z ∧ z < (n : Int) + 1) := Lib.hid (by omega)
                  clear hz0 hz1
                  go_wp2
                  go_roundw
                  case rel =>
                    refine ⟨m + 1, by omega, by go_num, fun q z2 hq hz2 => ?_, hbl.out⟩
                    by_cases e : q = m
                    · subst e; rw [HZ.out] at hz2; cases hz2; exact hzz.out
                    · exact hso.out q z2 (by omega) hz2
                  case measure => simp [intOf]; omega
            · have t5 : decide ((m : Int) < x.l.length) = false := by simp; omega
              obtain rfl : m = x.l.length := by omega
              have hall := Lib.hid (show ∀ l ∈ x.l, 0 ≤ l ∧ l < (f.length : Int) from fun l hl => by
                obtain ⟨q, hq⟩ := List.getElem?_of_mem hl
                have := hso.out q l (List.getElem?_eq_some_iff.1 hq).1 hq
                rw [HN.out]; omega)
              clear t5
              by_cases h26 : x.op = 26
              · have t8 : (x.op == 26) = true := by simpa using h26
                obtain ⟨hb0, hb1⟩ := hb26.out h26
                obtain ⟨bz, hbz⟩ : ∃ bz : Nat, x.b = bz := ⟨x.b.toNat, by omega⟩
                obtain ⟨kz, hkz⟩ : ∃ kz, ks[bz]? = some kz := ⟨_, List.getElem?_eq_getElem (by have := HKL.out; omega)⟩
                have ck := (bw0.out.cell (p := ⟨bk, offk + bz, none⟩) hbk).trans (hk4.out bz kz hkz)
                have hbkw : bk < wr.heap.size := Nat.lt_of_lt_of_le hbk bw0.out.size
                have hkz2 := Lib.hid (show ks.getD x.b.toNat 0 = kz by rw [hbz, Int.toNat_natCast, List.getD_eq_getElem?_getD, hkz]; rfl)
                have hbl2 : bz < ks.length := (List.getElem?_eq_some_iff.1 hkz).1
                rw [hbz] at yy2 hb1
                replace h26 := Lib.hid h26
                clear hkz hb0 hbz
                by_cases hkk : kz = 0
                · have t9 : (kz != 0) = false := by simp [hkk]
                  replace hkk := Lib.hid hkk
                  go_wp2
                  go_roundw
                  case rel =>
                    refine ⟨j + 1, by omega, by go_num, fun q y hq hy => ?_, bww.out⟩
                    by_cases e : q = j
                    · subst e; rw [HX.out] at hy; cases hy; exact (instr_ref HKL.out HK.out).2 ⟨HF.out, HA.out, hlc.out, hall.out, fun _ => by rw [hkz2.out, hkk.out]⟩
                    · exact HSO.out q y (by omega) hy
                  case measure => simp [intOf]; omega
                · have t9 : (kz != 0) = true := by simp [hkk]
                  replace hkk := Lib.hid hkk
                  have hno := Lib.hid (show ¬ ShOk p.cs.length ks k f from fun h => by
                    have h1 := h.ins x (List.mem_of_getElem? HX.out)
                    rw [instr_ref HKL.out HK.out] at h1
                    exact hkk.out (hkz2.out.symm.trans (h1.2.2.2.2 h26.out)))
                  go_wp2
                  go_returns
                  first | exact ⟨false, rfl, ⟨fun h => (by cases h), fun h => absurd h hno.out⟩, bw0.out⟩ | exact Or.inl ⟨rfl, hno.out, bw0.out⟩
              · have t8 : (x.op == 26) = false := by simpa using h26
                replace h26 := Lib.hid h26
                go_wp2
                go_roundw
                case rel =>
                  refine ⟨j + 1, by omega, by go_num, fun q y hq hy => ?_, bww.out⟩
                  by_cases e : q = j
                  · subst e; rw [HX.out] at hy; cases hy; exact (instr_ref HKL.out HK.out).2 ⟨HF.out, HA.out, hlc.out, hall.out, fun h => absurd h h26.out⟩
                  · exact HSO.out q y (by omega) hy
                case measure => simp [intOf]; omega
    · have t2 : decide ((j : Int) < (n : Int) + 1) = false := by simp; omega
      obtain rfl : j = n + 1 := by omega
      go_wp2
      go_returns
      exact ⟨true, rfl, ⟨fun _ => ⟨HPS.out.1, HPS.out.2, fun x hx => by rw [HXL.out] at hx; cases hx; exact HFL.out, fun x hx => by
        obtain ⟨m, hm⟩ := List.getElem?_of_mem hx
        exact HSO.out m x (by have := (List.getElem?_eq_some_iff.1 hm).1; have := HN.out; omega) hm⟩, fun _ => rfl⟩, hbw⟩
end Go.Proofs.YtobhfmliaecbjaaDoor
