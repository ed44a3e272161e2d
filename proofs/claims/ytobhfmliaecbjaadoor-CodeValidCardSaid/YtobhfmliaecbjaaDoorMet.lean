/-
  What the rows' condition on the laid variables gives. No conditions: lemmas.
-/
import Derived.Test.YtobhfmliaecbjaaDoorArgs
import Derived.LaidMore
import Derived.Stop.Joined
import Derived.Lib.LaidTab
namespace Go.Proofs.YtobhfmliaecbjaaDoor
open Go.RowKit Go.ChangeShapes Go.WideShapes Go.ChangeAt

def laid4 : List (String × DataW Unit) := [("math/bits.deBruijn32tab", Rows.laid_math_bits_deBruijn32tab), ("math/bits.deBruijn64tab", Rows.laid_math_bits_deBruijn64tab), ("internal/strconv.uint64pow10", Rows.laid_internal_strconv_uint64pow10), ("cocoon/code.shapes", Rows.laid_cocoon_code_shapes)]

def li (z : Int) : DataW Unit := .lit (.int .i64 z)
def shD (s : Sh) : DataW Unit := .agg [.agg [li s.f0, li s.f1, li s.f2], li s.lb]
theorem shapes_tab : (Rows.laid_cocoon_code_shapes : DataW Unit) = .agg (tab.map shD) := rfl
theorem pow_tab : (Rows.laid_internal_strconv_uint64pow10 : DataW Unit) = Lib.tabData .u64 Lib.pow10Tab := by kernel_rfl

theorem gShapes : Tryd.prog.globalNamed "cocoon/code.shapes" = some 0 := by kernel_rfl
theorem gPow : Tryd.prog.globalNamed "internal/strconv.uint64pow10" = some 1 := by kernel_rfl
theorem tShapes : (Tryd.prog.globals[0]?).map (·.type) = some 68 := by kernel_rfl
theorem k47 : Tryd.prog.cellsOf 47 = 4 := by kernel_rfl
theorem k45 : Tryd.prog.cellsOf 45 = 3 := by kernel_rfl
theorem k44 : Tryd.prog.cellsOf 44 = 1 := by kernel_rfl

set_option maxRecDepth 100000 in
theorem sh_cells {W : World} {fuel : Nat} {cs : List Value} {s : Sh} {p : List MemPlace} (hl : cs.length = 4) (h : DataW.trod (fun _ => ()) Tryd.prog W 0 (fun _ => true) false fuel 47 cs = some (shD s, p)) :
    cs = [.int .i64 s.f0, .int .i64 s.f1, .int .i64 s.f2, .int .i64 s.lb] := by
  obtain ⟨xs, m, _, hx, _, hlen, hf⟩ := DataW.trod_struct Tryd.underlying47 h
  match cs, hl with
  | [c0, c1, c2, c3], _ =>
    match xs, hlen with
    | [y0, y1], _ =>
      have h0 := hf 0 _ rfl
      have h1 := hf 1 _ rfl
      simp [k45] at h0
      simp [k1] at h1
      simp [shD] at hx
      obtain ⟨hx0, hx1⟩ := hx.1
      obtain ⟨z0, z1, z2, n, he, t0, t1, t2⟩ := trod_array3 Tryd.underlying45 k44 h0
      obtain ⟨a0, e0, d0, _⟩ := DataW.trod_int Tryd.underlying44 t0
      obtain ⟨a1, e1, d1, _⟩ := DataW.trod_int Tryd.underlying44 t1
      obtain ⟨a2, e2, d2, _⟩ := DataW.trod_int Tryd.underlying44 t2
      obtain ⟨a3, e3, d3, _⟩ := DataW.trod_int Tryd.underlying3 h1
      simp at e0 e1 e2 e3
      subst e0 e1 e2 e3
      rw [he] at hx0
      rw [d0, d1, d2] at hx0
      rw [d3] at hx1
      simp [li] at hx0 hx1
      rw [← hx0.1, ← hx0.2.1, ← hx0.2.2, ← hx1]

theorem gBruijn : Tryd.prog.globalNamed "math/bits.deBruijn64tab" = some 3 := by kernel_rfl
theorem var_lt {W : World} {name : String} {g : Nat} {cs : Array Value} (hg : Tryd.prog.globalNamed name = some g) (h : W.var? Tryd.prog name = some cs) : g < W.heap.size := by
  unfold World.var? at h
  rw [hg, Option.bind_some] at h
  split at h
  · rename_i h1
    exact (Array.getElem?_eq_some_iff.1 h1).1
  · cases h

set_option maxRecDepth 100000 in
theorem of_laid {W : World} (h : laidMetH Tryd.prog laid4 W) : TabAt W ∧ PowAt W ∧ 4 ≤ W.heap.size := by
  rw [MakeChecks.laidMetH_plain _ _ _ (by kernel_rfl)] at h
  obtain ⟨ps, ⟨_, _, _, _, _, _, _, _, _, _, ⟨_, _, _, _, _, _, _, _, hvB, _, ⟨g2, t2, cs2, f2, p2, q2, hg2, ht2, hv2, hd2, ⟨g3, t3, cs3, f3, p3, q3, hg3, ht3, hv3, hd3, _, _⟩, _⟩, _⟩, _⟩, _, _⟩ := h
  obtain rfl := Option.some.inj (gPow.symm.trans hg2)
  obtain rfl := Option.some.inj (gShapes.symm.trans hg3)
  obtain rfl := Option.some.inj (tShapes.symm.trans ht3)
  refine ⟨?_, ?_, var_lt gBruijn hvB⟩
  · rw [shapes_tab] at hd3
    obtain ⟨xs, m, _, hx, hlen, hn, hel⟩ := DataW.trod_array Tryd.underlying68 hd3
    have hxs : xs.map (·.1) = tab.map shD := by
      have := congrArg Prod.fst hx
      simpa using this.symm
    intro k s hs
    have hk : k < 30 := (List.getElem?_eq_some_iff.1 hs).1
    have h0 := hel k hk
    have hxk : ∃ q, xs[k]? = some (shD s, q) := by
      have h1 : (xs.map (·.1))[k]? = some (shD s) := by rw [hxs]; simp [hs]
      rw [List.getElem?_map] at h1
      obtain ⟨y, hy, e⟩ := Option.map_eq_some_iff.1 h1
      exact ⟨y.2, by rw [hy, ← e]⟩
    obtain ⟨q, hxk⟩ := hxk
    rw [hxk, k47] at h0
    have hsz : cs3.toList.length = 120 := by rw [hlen]; kernel_rfl
    have hc := sh_cells (by simp only [List.length_take, List.length_drop]; omega) h0
    have at_ : ∀ j, j < 4 → W.cell? ⟨0, k * 4 + j, none⟩ = [Value.int .i64 s.f0, .int .i64 s.f1, .int .i64 s.f2, .int .i64 s.lb][j]? := fun j hj => by
      rw [World.var?_cell gShapes hv3, ← hc, List.getElem?_take_of_lt hj, List.getElem?_drop]
      simp
    exact ⟨at_ 0 (by decide), at_ 1 (by decide), at_ 2 (by decide), at_ 3 (by decide)⟩
  · rw [pow_tab] at hd2
    unfold PowAt Lib.TabIs
    have ht : t2 = 100 := Option.some.inj (ht2.symm.trans (show (Tryd.prog.globals[1]?).map (·.type) = some 100 by kernel_rfl))
    subst ht
    rw [hv2, ← Lib.cells_of_tab Tryd.underlying100 Tryd.underlying94 (by kernel_rfl) (by kernel_rfl) hd2]

/-- The door's own heap meets the condition. -/
theorem door_met (os : Os) (args : Array Value) : laidMetH Tryd.prog laid4 ((World.doorLaid Tryd.prog 400 os).forCall (fun _ _ => 0) ⟨#[], args, []⟩).memory :=
  laidMetH_of_parts3 (fuel := 8) (laidMet_of_run' 8 (by kernel_rfl) (by kernel_rfl)) (by kernel_rfl) (by kernel_rfl)
theorem pow_lt {W : World} (h : PowAt W) : 1 < W.heap.size := by
  have := Lib.TabIs.cell h gPow 0 (by simp [Lib.pow10Tab])
  exact World.block_lt_of_cell? W _ this
end Go.Proofs.YtobhfmliaecbjaaDoor
