/-
  MemKeeps answers true for every input. No conditions.
-/
import Derived.Test.YtbcockaleegicaaKeeps
namespace Go.Proofs.Ytbcockaleegicaa
open Go.RowKit Go.ChangeShapes Go.WideShapes Go.ChangeAt

theorem acts_below {w w' : World} {ab off : Nat} {as_ : List Ac} (hB : Below w.heap.size w w') (hab : 0 < as_.length → ab < w.heap.size) (hA : ActsAt w ab off as_) : ActsAt w' ab off as_ := fun j y hy => by
  have hab := hab (by have := (List.getElem?_eq_some_iff.1 hy).1; omega)
  obtain ⟨⟨h0, h1, h2, h3, h4, h5, h6, h7⟩, hw⟩ := hA j y hy
  exact ⟨⟨(hB.cell hab).trans h0, (hB.cell hab).trans h1, (hB.cell hab).trans h2, (hB.cell hab).trans h3, (hB.cell hab).trans h4, (hB.cell hab).trans h5, (hB.cell hab).trans h6, (hB.cell hab).trans h7⟩, hw⟩

set_option maxRecDepth 100000 in
set_option maxHeartbeats 2000000 in
theorem memKeeps_out (n i : Int) (b : Bool) (xa xn : Int) (oa : Option Addr) (ab off cap : Nat) (as_ : List Ac) (w : World) (hlen : as_.length ≤ maxLen) (hoa : 0 < as_.length → oa = some ⟨ab, off, none⟩ ∧ ab < w.heap.size) (hA : ActsAt w ab off as_)
    (h : n < 1 ∨ 50 < n ∨ i < 0 ∨ n ≤ i) :
    Calls Try.prog 5 #[.int .i64 n, .int .i64 i, .agg #[.bool b, .int .i64 xa, .int .i64 xn], .slice oa as_.length cap] w fun e w' => e = .returned (.bool true) ∧ Below w.heap.size w w' := by
  replace hoa := Lib.hid hoa
  replace hA := Lib.hid hA
  by_cases c0 : n < 1
  · have t0 : decide (n < 1) = true := by simp; omega
    go_enter Try.func5, Try.ntmps5
    go_wp2_with fail
    refine (works_any _).mono ?_
    rintro e w1 ⟨rfl, hb1⟩
    have hB := box_below hb1
    clear hb1
    go_wp2_with fail
    refine (small_any oa ab off cap as_ w1 hlen (fun h => ⟨(hoa.out h).1, by have := (hoa.out h).2; have := hB.size; omega⟩) (acts_below hB (fun h => (hoa.out h).2) hA.out)).mono ?_
    rintro e w2 ⟨⟨v, rfl, hsm⟩, rfl⟩
    clear hsm
    cases v with
    | false =>
      go_wp2
      go_ret
      exact ⟨rfl, hB⟩
    | true =>
      go_wp2
      go_ret
      exact ⟨rfl, hB⟩
  have t0 : decide (n < 1) = false := by simp; omega
  by_cases c1 : 50 < n
  · have t1 : decide (50 < n) = true := by simp; omega
    go_enter Try.func5, Try.ntmps5
    go_wp2_with fail
    refine (works_any _).mono ?_
    rintro e w1 ⟨rfl, hb1⟩
    have hB := box_below hb1
    clear hb1
    go_wp2_with fail
    refine (small_any oa ab off cap as_ w1 hlen (fun h => ⟨(hoa.out h).1, by have := (hoa.out h).2; have := hB.size; omega⟩) (acts_below hB (fun h => (hoa.out h).2) hA.out)).mono ?_
    rintro e w2 ⟨⟨v, rfl, hsm⟩, rfl⟩
    clear hsm
    cases v with
    | false =>
      go_wp2
      go_ret
      exact ⟨rfl, hB⟩
    | true =>
      go_wp2
      go_ret
      exact ⟨rfl, hB⟩
  have t1 : decide (50 < n) = false := by simp; omega
  by_cases c2 : i < 0
  · have t2 : decide (i < 0) = true := by simp; omega
    go_enter Try.func5, Try.ntmps5
    go_wp2_with fail
    refine (works_any _).mono ?_
    rintro e w1 ⟨rfl, hb1⟩
    have hB := box_below hb1
    clear hb1
    go_wp2_with fail
    refine (small_any oa ab off cap as_ w1 hlen (fun h => ⟨(hoa.out h).1, by have := (hoa.out h).2; have := hB.size; omega⟩) (acts_below hB (fun h => (hoa.out h).2) hA.out)).mono ?_
    rintro e w2 ⟨⟨v, rfl, hsm⟩, rfl⟩
    clear hsm
    cases v with
    | false =>
      go_wp2
      go_ret
      exact ⟨rfl, hB⟩
    | true =>
      go_wp2
      go_ret
      exact ⟨rfl, hB⟩
  have t2 : decide (i < 0) = false := by simp; omega
  by_cases c3 : n ≤ i
  · have t3 : decide (n ≤ i) = true := by simp; omega
    go_enter Try.func5, Try.ntmps5
    go_wp2_with fail
    refine (works_any _).mono ?_
    rintro e w1 ⟨rfl, hb1⟩
    have hB := box_below hb1
    clear hb1
    go_wp2_with fail
    refine (small_any oa ab off cap as_ w1 hlen (fun h => ⟨(hoa.out h).1, by have := (hoa.out h).2; have := hB.size; omega⟩) (acts_below hB (fun h => (hoa.out h).2) hA.out)).mono ?_
    rintro e w2 ⟨⟨v, rfl, hsm⟩, rfl⟩
    clear hsm
    cases v with
    | false =>
      go_wp2
      go_ret
      exact ⟨rfl, hB⟩
    | true =>
      go_wp2
      go_ret
      exact ⟨rfl, hB⟩
  have t3 : decide (n ≤ i) = false := by simp; omega
  omega

theorem memKeeps_walk (n i : Int) (b : Bool) (xa xn : Int) (oa : Option Addr) (ab off cap : Nat) (as_ : List Ac) (w : World) (hlen : as_.length ≤ maxLen) (hoa : 0 < as_.length → oa = some ⟨ab, off, none⟩ ∧ ab < w.heap.size) (hA : ActsAt w ab off as_) :
    Calls Try.prog 5 #[.int .i64 n, .int .i64 i, .agg #[.bool b, .int .i64 xa, .int .i64 xn], .slice oa as_.length cap] w fun e w' => e = .returned (.bool true) ∧ Below w.heap.size w w' := by
  by_cases h : n < 1 ∨ 50 < n ∨ i < 0 ∨ n ≤ i
  · exact memKeeps_out n i b xa xn oa ab off cap as_ w hlen hoa hA h
  · obtain ⟨N, rfl⟩ : ∃ N : Nat, n = N := ⟨n.toNat, by omega⟩
    obtain ⟨I, rfl⟩ : ∃ K : Nat, i = K := ⟨i.toNat, by omega⟩
    exact memKeeps_main N I ⟨b, xa, xn⟩ oa ab off cap as_ w hlen (by omega) (by omega) hoa hA

theorem memKeeps_lifted (os : Os) (started : os.Started) (H : Type) (enc : TypeId × Value → H) :
    ReturnsInHanded {} Try.checked os 5 .any (Rows.memKeepsSpec.pre6 enc Try.prog Try.f5 Rows.memKeepsRow.domain false) (Rows.memKeepsSpec.post enc Try.prog Try.f5 false true false false) := by
  refine returnsInHanded_of_change (C := Try.checked) own started (by kernel_rfl) Try.func5
    (ChangeSpec.witness6 (enc := enc) (C := Try.checked) false ⟨#[], #[.int .i64 0, .int .i64 0, .agg #[.bool false, .int .i64 0, .int .i64 0], .slice none 0 0], []⟩ 8 (by kernel_rfl) (by kernel_rfl) (by kernel_rfl) (by kernel_rfl)) ?_
  intro W base args ds gs before hval0 hW _ _
  have hval : ∀ (j : Nat) t v, Try.f5.params[j]? = some t → args[j]? = some v → Value.okWide Try.prog W .any base t v := hval0
  have hW' := hW
  obtain ⟨p, q, hA0, hV, rfl, hfz, hnd⟩ := hW
  have hA : DataW.TrodAll enc Try.prog W 0 (fun _ => true) true Try.f5.params.toList args.toList ds p := hA0
  rw [Try.params5] at hA hval
  obtain ⟨v0, vs0, d0, ds0, p0, q0, hargs, rfl, rfl, h0, r0⟩ := trodAll_cons hA
  obtain ⟨v1, vs1, d1, ds1, p1, q1, rfl, rfl, rfl, h1, r1⟩ := trodAll_cons r0
  obtain ⟨v2, vs2, d2, ds2, p2, q2, rfl, rfl, rfl, h2, r2⟩ := trodAll_cons r1
  obtain ⟨v3, vs3, d3, ds3, p3, q3, rfl, rfl, rfl, h3, r3⟩ := trodAll_cons r2
  obtain ⟨rfl, rfl, rfl⟩ := trodAll_nil r3
  obtain rfl : args = #[v0, v1, v2, v3] := by cases args; simp_all
  obtain ⟨rfl, rfl⟩ := trodVars_none hV
  obtain ⟨n, rfl, rfl, rfl, wn⟩ := open_int Try.underlying3 (hval 0 3 v0 rfl rfl) h0
  obtain ⟨i, rfl, rfl, rfl, wi⟩ := open_int Try.underlying3 (hval 1 3 v1 rfl rfl) h1
  obtain ⟨b, xa, xn, rfl, wa, wxn, rfl⟩ := open_word (hval 2 30 v2 rfl rfl) h2
  obtain ⟨oa, ab, off, cap, as_, rfl, hl, hoa, hA1⟩ := open_acts (hval 3 22 v3 rfl rfl) h3
  refine (memKeeps_walk n i b xa xn oa ab off cap as_ W hl hoa hA1).mono fun e W' ⟨he, hb⟩ => ?_
  subst he
  exact ⟨_, rfl, law_post rfl rfl (by kernel_rfl) rfl hW' hb⟩

theorem memKeeps_holds : Rows.MemKeepsSaid :=
  OpenClaim.holds_of_wide 5 Try.f5 rfl rfl rfl rfl rfl rfl rfl ⟨rfl, rfl, rfl, rfl, rfl⟩ rfl rfl rfl rfl rfl (by kernel_rfl) Try.func5 (by kernel_rfl)
    (of_decide_eq_true (by kernel_rfl)) (by unfold Func.isWrapper; first | (rw [if_pos (by decide +kernel)]; kernel_rfl) | (rw [if_neg (by decide +kernel)]; exact ⟨rfl, rfl⟩))
    (fun os started H enc _ => memKeeps_lifted os started H enc)
end Go.Proofs.Ytbcockaleegicaa
