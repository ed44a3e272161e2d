/-
  MemCopies answers true for every input. No conditions.
-/
import Derived.Test.YtbcockaleegicaaCopies
namespace Go.Proofs.Ytbcockaleegicaa
open Go.RowKit Go.ChangeShapes Go.WideShapes Go.ChangeAt

theorem open_bools {H : Type} {enc : TypeId × Value → H} {W : World} {b0 : Nat} {v : Value} {d : DataW H} {p : List MemPlace} (hv : Value.okWide Try.prog W .any b0 55 v) (h : DataW.Trod enc Try.prog W 0 (fun _ => true) true 55 v d p) :
    ∃ (oa : Option Addr) (ab off cap : Nat) (bs : List Bool), v = .slice oa bs.length cap ∧ bs.length ≤ maxLen ∧ (0 < bs.length → oa = some ⟨ab, off, none⟩ ∧ ab < W.heap.size) ∧ BoolsAt W ab off bs := by
  obtain ⟨oa, len, cap, b, off, rfl, hl, hm, hoa, hc⟩ := open_rows Try.underlying55 (sz := 1) (by kernel_rfl) (by decide) hv h
  obtain ⟨bs, hw, hp⟩ := list_choose (fun i (x : Bool) => W.cell? ⟨b, off + i, none⟩ = some (.bool x)) len fun i hi => by
    obtain ⟨cs, x, n, h3, hat, htr⟩ := hc i hi
    obtain ⟨y, rfl⟩ := bool_cells htr
    have := hat 0 (by decide)
    rw [Nat.mul_one, Nat.add_zero] at this
    exact ⟨y, this⟩
  exact ⟨oa, b, off, cap, bs, by rw [hw], by omega, by rw [hw]; exact hoa, hp⟩

set_option maxRecDepth 100000 in
set_option maxHeartbeats 4000000 in
theorem memCopies_out (oa ob : Option Addr) (len cap len2 cap2 : Nat) (f t n : Int) (w : World) (wn : -9223372036854775808 ≤ n ∧ n ≤ 9223372036854775807) (hlen : len ≤ maxLen) (hlen2 : len2 ≤ maxLen)
    (h : (40 : Int) < len ∨ (len : Int) ≠ len2 ∨ f < 0 ∨ t < 0 ∨ n < 0 ∨ (len : Int) < f ∨ (len : Int) < t ∨ (len : Int) - f < n ∨ (len : Int) - t < n) :
    Calls Try.prog 7 #[.slice oa len cap, .slice ob len2 cap2, .int .i64 f, .int .i64 t, .int .i64 n] w fun e w' => e = .returned (.bool true) ∧ Below w.heap.size w w' := by
  unfold maxLen at hlen hlen2
  by_cases c0 : (40 : Int) < len
  · have t0 : decide ((40 : Int) < len) = true := by simp; omega
    go_enter Try.func7, Try.ntmps7
    go_wp2_with fail
    refine (works_any _).mono ?_
    rintro e w1 ⟨rfl, hb1⟩
    go_wp2
    go_ret
    exact ⟨rfl, hb1⟩
  have t0 : decide ((40 : Int) < len) = false := by simp; omega
  by_cases c1 : (len : Int) ≠ len2
  · have t1 : ((len : Int) != (len2 : Int)) = true := by simp; omega
    have t1' : (len != len2) = true := by simp; omega
    go_enter Try.func7, Try.ntmps7
    go_wp2_with fail
    refine (works_any _).mono ?_
    rintro e w1 ⟨rfl, hb1⟩
    go_wp2
    go_ret
    exact ⟨rfl, hb1⟩
  have t1 : ((len : Int) != (len2 : Int)) = false := by simp; omega
  have t1' : (len != len2) = false := by simp; omega
  by_cases c2 : f < 0
  · have t2 : decide (f < 0) = true := by simp; omega
    go_enter Try.func7, Try.ntmps7
    go_wp2_with fail
    refine (works_any _).mono ?_
    rintro e w1 ⟨rfl, hb1⟩
    go_wp2
    go_ret
    exact ⟨rfl, hb1⟩
  have t2 : decide (f < 0) = false := by simp; omega
  by_cases c3 : t < 0
  · have t3 : decide (t < 0) = true := by simp; omega
    go_enter Try.func7, Try.ntmps7
    go_wp2_with fail
    refine (works_any _).mono ?_
    rintro e w1 ⟨rfl, hb1⟩
    go_wp2
    go_ret
    exact ⟨rfl, hb1⟩
  have t3 : decide (t < 0) = false := by simp; omega
  by_cases c4 : n < 0
  · have t4 : decide (n < 0) = true := by simp; omega
    go_enter Try.func7, Try.ntmps7
    go_wp2_with fail
    refine (works_any _).mono ?_
    rintro e w1 ⟨rfl, hb1⟩
    go_wp2
    go_ret
    exact ⟨rfl, hb1⟩
  have t4 : decide (n < 0) = false := by simp; omega
  by_cases c5 : (len : Int) < f
  · have t5 : decide ((len : Int) < f) = true := by simp; omega
    go_enter Try.func7, Try.ntmps7
    go_wp2_with fail
    refine (works_any _).mono ?_
    rintro e w1 ⟨rfl, hb1⟩
    go_wp2
    go_ret
    exact ⟨rfl, hb1⟩
  have t5 : decide ((len : Int) < f) = false := by simp; omega
  by_cases c6 : (len : Int) < t
  · have t6 : decide ((len : Int) < t) = true := by simp; omega
    go_enter Try.func7, Try.ntmps7
    go_wp2_with fail
    refine (works_any _).mono ?_
    rintro e w1 ⟨rfl, hb1⟩
    go_wp2
    go_ret
    exact ⟨rfl, hb1⟩
  have t6 : decide ((len : Int) < t) = false := by simp; omega
  by_cases c7 : (len : Int) - f < n
  · have t7 : decide ((len : Int) - f < n) = true := by simp; omega
    go_enter Try.func7, Try.ntmps7
    go_wp2_with fail
    refine (works_any _).mono ?_
    rintro e w1 ⟨rfl, hb1⟩
    go_wp2
    go_ret
    exact ⟨rfl, hb1⟩
  have t7 : decide ((len : Int) - f < n) = false := by simp; omega
  by_cases c8 : (len : Int) - t < n
  · have t8 : decide ((len : Int) - t < n) = true := by simp; omega
    go_enter Try.func7, Try.ntmps7
    go_wp2_with fail
    refine (works_any _).mono ?_
    rintro e w1 ⟨rfl, hb1⟩
    go_wp2
    go_ret
    exact ⟨rfl, hb1⟩
  have t8 : decide ((len : Int) - t < n) = false := by simp; omega
  omega

theorem memCopies_walk (oa ob : Option Addr) (ab off cap bb boff bcap : Nat) (ws : List Wd) (bs : List Bool) (f t n : Int) (w : World) (wn : -9223372036854775808 ≤ n ∧ n ≤ 9223372036854775807) (hlen : ws.length ≤ maxLen) (hlen2 : bs.length ≤ maxLen) (hoa : 0 < ws.length → oa = some ⟨ab, off, none⟩ ∧ ab < w.heap.size)
    (hob : 0 < bs.length → ob = some ⟨bb, boff, none⟩ ∧ bb < w.heap.size) (hA : WordsAt w ab off ws) (hB : BoolsAt w bb boff bs) :
    Calls Try.prog 7 #[.slice oa ws.length cap, .slice ob bs.length bcap, .int .i64 f, .int .i64 t, .int .i64 n] w fun e w' => e = .returned (.bool true) ∧ Below w.heap.size w w' := by
  by_cases h : (40 : Int) < ws.length ∨ (ws.length : Int) ≠ bs.length ∨ f < 0 ∨ t < 0 ∨ n < 0 ∨ (ws.length : Int) < f ∨ (ws.length : Int) < t ∨ (ws.length : Int) - f < n ∨ (ws.length : Int) - t < n
  · exact memCopies_out oa ob ws.length cap bs.length bcap f t n w wn hlen hlen2 h
  · have hbl : bs.length = ws.length := by omega
    obtain ⟨N, rfl⟩ : ∃ N : Nat, n = N := ⟨n.toNat, by omega⟩
    obtain ⟨F, rfl⟩ : ∃ K : Nat, f = K := ⟨f.toNat, by omega⟩
    obtain ⟨T, rfl⟩ : ∃ K : Nat, t = K := ⟨t.toNat, by omega⟩
    rw [hbl] at hob ⊢
    exact memCopies_main oa ob ab off cap bb boff bcap ws bs F T N w hoa hob (by omega) hbl (by omega) (by omega) (by omega) (by omega) hA hB

theorem memCopies_lifted (os : Os) (started : os.Started) (H : Type) (enc : TypeId × Value → H) :
    ReturnsInHanded {} Try.checked os 7 .any (Rows.memCopiesSpec.pre6 enc Try.prog Try.f7 Rows.memCopiesRow.domain false) (Rows.memCopiesSpec.post enc Try.prog Try.f7 false true false false) := by
  refine returnsInHanded_of_change (C := Try.checked) own started (by kernel_rfl) Try.func7
    (ChangeSpec.witness6 (enc := enc) (C := Try.checked) false ⟨#[], #[.slice none 0 0, .slice none 0 0, .int .i64 0, .int .i64 0, .int .i64 0], []⟩ 8 (by kernel_rfl) (by kernel_rfl) (by kernel_rfl) (by kernel_rfl)) ?_
  intro W base args ds gs before hval0 hW _ _
  have hval : ∀ (j : Nat) t v, Try.f7.params[j]? = some t → args[j]? = some v → Value.okWide Try.prog W .any base t v := hval0
  have hW' := hW
  obtain ⟨p, q, hA0, hV, rfl, hfz, hnd⟩ := hW
  have hA : DataW.TrodAll enc Try.prog W 0 (fun _ => true) true Try.f7.params.toList args.toList ds p := hA0
  rw [Try.params7] at hA hval
  obtain ⟨v0, vs0, d0, ds0, p0, q0, hargs, rfl, rfl, h0, r0⟩ := trodAll_cons hA
  obtain ⟨v1, vs1, d1, ds1, p1, q1, rfl, rfl, rfl, h1, r1⟩ := trodAll_cons r0
  obtain ⟨v2, vs2, d2, ds2, p2, q2, rfl, rfl, rfl, h2, r2⟩ := trodAll_cons r1
  obtain ⟨v3, vs3, d3, ds3, p3, q3, rfl, rfl, rfl, h3, r3⟩ := trodAll_cons r2
  obtain ⟨v4, vs4, d4, ds4, p4, q4, rfl, rfl, rfl, h4, r4⟩ := trodAll_cons r3
  obtain ⟨rfl, rfl, rfl⟩ := trodAll_nil r4
  obtain rfl : args = #[v0, v1, v2, v3, v4] := by cases args; simp_all
  obtain ⟨rfl, rfl⟩ := trodVars_none hV
  obtain ⟨oa, ab, off, cap, ws, rfl, hl, hoa, hA1⟩ := open_words (hval 0 54 v0 rfl rfl) h0
  obtain ⟨ob, bb, boff, bcap, bs, rfl, hbl, hob, hB1⟩ := open_bools (hval 1 55 v1 rfl rfl) h1
  obtain ⟨f, rfl, rfl, rfl, wf⟩ := open_int Try.underlying3 (hval 2 3 v2 rfl rfl) h2
  obtain ⟨t, rfl, rfl, rfl, wt⟩ := open_int Try.underlying3 (hval 3 3 v3 rfl rfl) h3
  obtain ⟨n, rfl, rfl, rfl, wn⟩ := open_int Try.underlying3 (hval 4 3 v4 rfl rfl) h4
  refine (memCopies_walk oa ob ab off cap bb boff bcap ws bs f t n W (i64_bounds wn) hl hbl hoa hob hA1 hB1).mono fun e W' ⟨he, hb⟩ => ?_
  subst he
  exact ⟨_, rfl, law_post rfl rfl (by kernel_rfl) rfl hW' hb⟩

theorem memCopies_holds : Rows.MemCopiesSaid :=
  OpenClaim.holds_of_wide 7 Try.f7 rfl rfl rfl rfl rfl rfl rfl ⟨rfl, rfl, rfl, rfl, rfl⟩ rfl rfl rfl rfl rfl (by kernel_rfl) Try.func7 (by kernel_rfl)
    (of_decide_eq_true (by kernel_rfl)) (by unfold Func.isWrapper; first | (rw [if_pos (by decide +kernel)]; kernel_rfl) | (rw [if_neg (by decide +kernel)]; exact ⟨rfl, rfl⟩))
    (fun os started H enc _ => memCopies_lifted os started H enc)
end Go.Proofs.Ytbcockaleegicaa
