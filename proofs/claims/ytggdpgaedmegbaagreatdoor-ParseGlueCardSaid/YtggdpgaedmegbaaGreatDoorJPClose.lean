/-
  How a walk that answers true and turns nothing that was there closes a row; what the rows' condition on the laid variables gives. No conditions: lemmas.
-/
import Derived.Test.YtggdpgaedmegbaaGreatDoorJLKit
import Derived.Test.YtggdpgaedmegbaaGreatDoorRows
import Derived.Test.YtggdpgaedmegbaaGreatDoorChecked
import Derived.WalkKit
import Derived.ProofKit
import Derived.OpenShut
import Derived.Lib.SmallJoins
import Derived.LaidMore
import Derived.Stop.Joined
import Derived.Stop.LaidErr
import Derived.LaidHandle
namespace Go.Proofs.YtggdpgaedmegbaaGreatDoor
open Go.RowKit Go.ChangeShapes Go.WideShapes Go.ChangeAt

theorem own : ownKnob Tryz.prog.godebug = none := by kernel_rfl
theorem laidOut : laidOutB Tryz.prog = true := by kernel_rfl

section
variable {H : Type} {enc : TypeId × Value → H}

theorem trodAll_below {P : Program} (hl : laidOutB P = true) {W W' : World} (hb : Below W.heap.size W W') (ts : List TypeId) : ∀ (vs : List Value) (ds : List (DataW H)) (ps : List MemPlace), (ts.all fun t => P.readableRec t && decide (t < P.types.size)) = true →
    DataW.TrodAll enc P W 0 (fun _ => true) true ts vs ds ps → (∀ x ∈ ps, x.block < W.heap.size) → DataW.TrodAll enc P W' 0 (fun b => decide (b < W.heap.size)) true ts vs ds ps := by
  induction ts with
  | nil =>
    intro vs ds ps _ h _
    obtain ⟨rfl, rfl, rfl⟩ := trodAll_nil h
    rfl
  | cons t ts ih =>
    intro vs ds ps hr h hlt
    obtain ⟨v0, vs0, d0, ds0, p0, q0, rfl, rfl, rfl, h0, r0⟩ := trodAll_cons h
    simp only [List.all_cons, Bool.and_eq_true, decide_eq_true_eq] at hr
    obtain ⟨⟨h1, h2⟩, h3⟩ := hr
    exact trodAll_cons_mk (Below.trod hl h1 h2 h0 hb fun x hx => hlt x (List.mem_append_left _ hx)) (ih vs0 ds0 q0 (by simpa using h3) r0 fun x hx => hlt x (List.mem_append_right _ hx))

theorem law_post {f : Func} {s : ChangeSpec} {W W' : World} {args : Array Value} {ds gs : List (DataW H)} {before : List MemPlace} (hv0 : s.vars = []) (hr : f.resultTypes = #[4])
    (hp : (f.params.toList.all fun t => Tryz.prog.readableRec t && decide (t < Tryz.prog.types.size)) = true)
    (hfn : s.fn H (ds ++ gs) = { results := [.lit (.bool true)], args := ds })
    (hW : DataW.Whole enc Tryz.prog f.params.toList s.vars false W args.toList ds gs before) (hb : Below W.heap.size W W') :
    s.post enc Tryz.prog f false true false false W args (.bool true) W' := by
  have hW' := hW
  have hlt := hW.lt
  obtain ⟨p, q, hA, hV, rfl, hfz, hnd⟩ := hW
  rw [hv0] at hV
  obtain ⟨rfl, rfl⟩ := trodVars_none hV
  have hlt' : ∀ x ∈ p, x.block < W.heap.size := fun x hx => hlt x (by simpa using hx)
  refine ⟨ds, [], _, [], p, [], hW', ?_, ?_, ?_, hb.frame _, fun h => by cases h⟩
  · rw [hfn, hr]
    exact trodAll_mk1 (shut_bool Tryz.underlying4 _)
  · rw [hfn]
    exact trodAll_below laidOut hb _ _ _ _ hp hA hlt'
  · rw [hv0, hfn]
    rfl
end

theorem i64_bounds {a : Int} (h : (Lit.int .i64 a).wf = true) : -9223372036854775808 ≤ a ∧ a ≤ 9223372036854775807 := by
  simpa [Lit.wf, IntKind.min, IntKind.max, IntKind.signed, IntKind.bits] using h

def laid8 : List (String × DataW Unit) := [("math/bits.deBruijn32tab", Rows.laid_math_bits_deBruijn32tab), ("math/bits.deBruijn64tab", Rows.laid_math_bits_deBruijn64tab), ("internal/strconv.uint64pow10", Rows.laid_internal_strconv_uint64pow10), ("strconv.ErrRange", Rows.laid_strconv_ErrRange), ("strconv.ErrSyntax", Rows.laid_strconv_ErrSyntax), ("cocoon/lexis.longSigns", Rows.laid_cocoon_lexis_longSigns), ("cocoon/lexis.reserved", Rows.laid_cocoon_lexis_reserved), ("cocoon/parse.signs", Rows.laid_cocoon_parse_signs)]

def strD (l : List UInt8) : DataW Unit := .lit (.string l)
theorem long_tab : (Rows.laid_cocoon_lexis_longSigns : DataW Unit) = .agg (longL.map strD) := rfl
theorem sg_tab : (Rows.laid_cocoon_parse_signs : DataW Unit) = .agg ([[43], [45], [42], [60], [61, 61]].map strD) := rfl
theorem res_tab : (Rows.laid_cocoon_lexis_reserved : DataW Unit) = .agg (resL.map strD) := rfl

theorem gPow : Tryz.prog.globalNamed "internal/strconv.uint64pow10" = some 4 := by kernel_rfl
theorem gRange : Tryz.prog.globalNamed "strconv.ErrRange" = some 2 := by kernel_rfl
theorem gLong : Tryz.prog.globalNamed "cocoon/lexis.longSigns" = some 0 := by kernel_rfl
theorem gRes : Tryz.prog.globalNamed "cocoon/lexis.reserved" = some 5 := by kernel_rfl
theorem tRange : (Tryz.prog.globals[2]?).map (·.type) = some 231 := by kernel_rfl
theorem tLong : (Tryz.prog.globals[0]?).map (·.type) = some 263 := by kernel_rfl
theorem tRes : (Tryz.prog.globals[5]?).map (·.type) = some 372 := by kernel_rfl
theorem k9 : Tryz.prog.cellsOf 9 = 1 := by kernel_rfl
theorem k72 : Tryz.prog.cellsOf 370 = 1 := by kernel_rfl
theorem k50 : Tryz.prog.cellsOf 263 = 4 := by kernel_rfl
theorem k42 : Tryz.prog.cellsOf 372 = 20 := by kernel_rfl
theorem gB64 : Tryz.prog.globalNamed "math/bits.deBruijn64tab" = some 7 := by kernel_rfl
theorem gSg : Tryz.prog.globalNamed "cocoon/parse.signs" = some 8 := by kernel_rfl
theorem tSg : (Tryz.prog.globals[8]?).map (·.type) = some 378 := by kernel_rfl
theorem k5s : Tryz.prog.cellsOf 378 = 5 := by kernel_rfl
theorem star : "*" ++ "errors.errorString" = "*errors.errorString" := by decide
theorem row70 (u : TypeId) (h : Tryz.prog.typeName? 3 u = some "*errors.errorString") : u = 368 :=
  typeName_ptr_named (nm := "errors.errorString") (by rw [star]; kernel_rfl) (by kernel_rfl) (by decide) u (by rw [star]; exact h)

theorem var_lt {W : World} {name : String} {g : Nat} {cs : Array Value} (hg : Tryz.prog.globalNamed name = some g) (h : W.var? Tryz.prog name = some cs) : ∃ t fr, W.heap[g]? = some (.cells cs t fr) := by
  unfold World.var? at h
  rw [hg, Option.bind_some] at h
  split at h
  · rename_i h1
    cases h
    exact ⟨_, _, h1⟩
  · cases h

theorem str_array {W : World} {t : TypeId} {n fuel : Nat} {cs : List Value} {L : List (List UInt8)} {p : List MemPlace} (ht : Tryz.prog.underlying t = some (.array n 9)) (hn : L.length = n) (hk : Tryz.prog.cellsOf t = n)
    (h : DataW.trod (fun _ => ()) Tryz.prog W 0 (fun _ => true) false fuel t cs = some (.agg (L.map strD), p)) : cs = L.map fun l => Value.string (strB l) := by
  obtain ⟨xs, m, _, hx, hlen, hxl, hel⟩ := DataW.trod_array ht h
  have hxs : xs.map (·.1) = L.map strD := by
    have := congrArg Prod.fst hx
    simpa using this.symm
  apply List.ext_getElem?
  intro k
  by_cases hkn : k < n
  · have h0 := hel k hkn
    rw [k9, Nat.mul_one] at h0
    have hck : k < cs.length := by omega
    rw [List.drop_eq_getElem_cons hck, List.take_succ_cons, List.take_zero] at h0
    have hkx : k < xs.length := by omega
    rw [List.getElem?_eq_getElem hkx] at h0
    obtain ⟨s, e1, e2, _⟩ := DataW.trod_string Tryz.underlying9 h0
    have hkL : k < L.length := by omega
    have e3 : (xs.map (·.1))[k]? = some (strD L[k]) := by rw [hxs, List.getElem?_map, List.getElem?_eq_getElem hkL]; rfl
    rw [List.getElem?_map, List.getElem?_eq_getElem hkx, e2, Option.map_some] at e3
    have e4 : s.data.toList = L[k] := by
      have := Option.some.inj e3
      simpa [strD] using this
    rw [List.getElem?_eq_getElem hck, List.getElem?_map, List.getElem?_eq_getElem hkL, Option.map_some]
    have e5 : cs[k] = .string s := by simpa using e1
    rw [e5, ← e4]
    exact congrArg some (congrArg Value.string (strB_of s).symm)
  · rw [List.getElem?_eq_none (by omega), List.getElem?_eq_none (by simp; omega)]

set_option maxRecDepth 100000 in
theorem of_laid {W : World} (h : laidMetH Tryz.prog laid8 W) : Vars W := by
  rw [MakeChecks.laidMetH_plain _ _ _ (by kernel_rfl)] at h
  have hr := h.tail.tail.tail
  have hl := hr.tail.tail
  have hs := hl.tail
  have hsg := hs.tail
  obtain ⟨_, ⟨g2, t2, cs2, f2, p2, q2, hg2, ht2, hv2, hd2, _, _⟩, _⟩ := h.tail.tail
  obtain ⟨_, ⟨g3, t3, cs3, f3, p3, q3, hg3, ht3, hv3, hd3, _, _⟩, _⟩ := hl
  obtain ⟨_, ⟨g4, t4, cs4, f4, p4, q4, hg4, ht4, hv4, hd4, _, _⟩, _⟩ := hs
  obtain ⟨_, ⟨g8, t8, cs8, f8, p8, q8, hg8, ht8, hv8, hd8, _, _⟩, _⟩ := h.tail
  obtain ⟨t8', fr8, h8⟩ := var_lt gB64 hv8
  obtain ⟨_, ⟨g5, t5, cs5, f5, p5, q5, hg5, ht5, hv5, hd5, _, _⟩, _⟩ := hsg
  obtain rfl := Option.some.inj (gSg.symm.trans hg5)
  obtain rfl := Option.some.inj (tSg.symm.trans ht5)
  rw [sg_tab] at hd5
  have e5 := str_array Tryz.underlying378 rfl k5s hd5
  obtain ⟨t5', fr5, h5⟩ := var_lt gSg hv5
  obtain rfl := Option.some.inj (gLong.symm.trans hg3)
  obtain rfl := Option.some.inj (tLong.symm.trans ht3)
  obtain rfl := Option.some.inj (gRes.symm.trans hg4)
  obtain rfl := Option.some.inj (tRes.symm.trans ht4)
  rw [long_tab] at hd3
  rw [res_tab] at hd4
  have e3 := str_array Tryz.underlying263 rfl k50 hd3
  have e4 := str_array Tryz.underlying372 rfl k42 hd4
  obtain ⟨t4', fr4, h4⟩ := var_lt gRes hv4
  obtain ⟨t2', fr2, h2⟩ := var_lt gPow hv2
  obtain ⟨a0, s0, hv0, -, -, -⟩ := laid_sentinel hr gRange tRange Tryz.underlying231 row70 Tryz.underlying368 Tryz.underlying370 rfl rfl Tryz.underlying9 k72 k9
  refine ⟨⟨t4', fr4, ?_⟩, fun k l hk => ?_, ⟨368, .pointer (some a0), ?_⟩, ⟨t5', fr5, ?_⟩, ?_⟩
  · rw [h4, ← e4]
  · rw [World.var?_cell gLong hv3 k]
    have : cs3[k]? = cs3.toList[k]? := by simp
    rw [this, e3, List.getElem?_map, hk]
    rfl
  · have h0 := World.var?_cell gRange hv0 0
    simpa using h0
  · rw [h5]
    have e6 : cs5 = (cs5.toList).toArray := by simp
    rw [e6, e5]
    rfl
  · have e1 := (Array.getElem?_eq_some_iff.1 h8).1
    have e2 := (Array.getElem?_eq_some_iff.1 h5).1
    have e3 := (Array.getElem?_eq_some_iff.1 h4).1
    show 9 ≤ _
    omega

/-- The door's own heap meets the condition. -/
theorem door_met (os : Os) (args : Array Value) : laidMetH Tryz.prog laid8 ((World.doorLaid Tryz.prog 400 os).forCall (fun _ _ => 0) ⟨#[], args, []⟩).memory :=
  laidMetH_of_parts3 (fuel := 8) (laidMet_of_run' 8 (by kernel_rfl) (by kernel_rfl)) (by kernel_rfl) (by kernel_rfl)
end Go.Proofs.YtggdpgaedmegbaaGreatDoor
