/-
  MemClear answers true for every input. No conditions.
-/
import Derived.Test.YtbcockaleegicaaClear
import Derived.Test.YtbcockaleegicaaArgs
namespace Go.Proofs.Ytbcockaleegicaa
open Go.RowKit Go.ChangeShapes Go.WideShapes Go.ChangeAt

theorem open_words {H : Type} {enc : TypeId × Value → H} {W : World} {b0 : Nat} {v : Value} {d : DataW H} {p : List MemPlace} (hv : Value.okWide Try.prog W .any b0 54 v) (h : DataW.Trod enc Try.prog W 0 (fun _ => true) true 54 v d p) :
    ∃ (oa : Option Addr) (ab off cap : Nat) (ws : List Wd), v = .slice oa ws.length cap ∧ ws.length ≤ maxLen ∧ (0 < ws.length → oa = some ⟨ab, off, none⟩ ∧ ab < W.heap.size) ∧ WordsAt W ab off ws := by
  obtain ⟨oa, len, cap, b, off, rfl, hl, hm, hoa, hc⟩ := open_rows Try.underlying54 (sz := 3) (by kernel_rfl) (by decide) hv h
  obtain ⟨ws, hw, hp⟩ := list_choose (fun i (x : Wd) => W.cell? ⟨b, off + i * 3, none⟩ = some (.bool x.p) ∧ W.cell? ⟨b, off + i * 3 + 1, none⟩ = some (.int .i64 x.a) ∧ W.cell? ⟨b, off + i * 3 + 2, none⟩ = some (.int .i64 x.n)) len fun i hi => by
    obtain ⟨cs, x, n, h3, hat, htr⟩ := hc i hi
    obtain ⟨p, a, k, rfl, _, _⟩ := word_cells h3 htr
    exact ⟨⟨p, a, k⟩, hat 0 (by decide), hat 1 (by decide), hat 2 (by decide)⟩
  exact ⟨oa, b, off, cap, ws, by rw [hw], by omega, by rw [hw]; exact hoa, hp⟩

set_option maxRecDepth 100000 in
set_option maxHeartbeats 2000000 in
theorem memClear_out (oa : Option Addr) (len cap : Nat) (f n : Int) (w : World) (wn : -9223372036854775808 ≤ n ∧ n ≤ 9223372036854775807) (hlen : len ≤ maxLen) (h : (40 : Int) < len ∨ f < 0 ∨ n < 0 ∨ (len : Int) < f ∨ (len : Int) - f < n) :
    Calls Try.prog 10 #[.slice oa len cap, .int .i64 f, .int .i64 n] w fun e w' => e = .returned (.bool true) ∧ Below w.heap.size w w' := by
  unfold maxLen at hlen
  by_cases c0 : (40 : Int) < len
  · have t0 : decide ((40 : Int) < len) = true := by simp; omega
    go_enter Try.func10, Try.ntmps10
    go_wp2_with fail
    refine (works_any _).mono ?_
    rintro e w1 ⟨rfl, hb1⟩
    go_wp2
    go_ret
    exact ⟨rfl, hb1⟩
  have t0 : decide ((40 : Int) < len) = false := by simp; omega
  by_cases c1 : f < 0
  · have t1 : decide (f < 0) = true := by simp; omega
    go_enter Try.func10, Try.ntmps10
    go_wp2_with fail
    refine (works_any _).mono ?_
    rintro e w1 ⟨rfl, hb1⟩
    go_wp2
    go_ret
    exact ⟨rfl, hb1⟩
  have t1 : decide (f < 0) = false := by simp; omega
  by_cases c2 : n < 0
  · have t2 : decide (n < 0) = true := by simp; omega
    go_enter Try.func10, Try.ntmps10
    go_wp2_with fail
    refine (works_any _).mono ?_
    rintro e w1 ⟨rfl, hb1⟩
    go_wp2
    go_ret
    exact ⟨rfl, hb1⟩
  have t2 : decide (n < 0) = false := by simp; omega
  by_cases c3 : (len : Int) < f
  · have t3 : decide ((len : Int) < f) = true := by simp; omega
    go_enter Try.func10, Try.ntmps10
    go_wp2_with fail
    refine (works_any _).mono ?_
    rintro e w1 ⟨rfl, hb1⟩
    go_wp2
    go_ret
    exact ⟨rfl, hb1⟩
  have t3 : decide ((len : Int) < f) = false := by simp; omega
  by_cases c4 : (len : Int) - f < n
  · have t4 : decide ((len : Int) - f < n) = true := by simp; omega
    go_enter Try.func10, Try.ntmps10
    go_wp2_with fail
    refine (works_any _).mono ?_
    rintro e w1 ⟨rfl, hb1⟩
    go_wp2
    go_ret
    exact ⟨rfl, hb1⟩
  have t4 : decide ((len : Int) - f < n) = false := by simp; omega
  omega

theorem memClear_walk (oa : Option Addr) (ab off cap : Nat) (ws : List Wd) (f n : Int) (w : World) (wn : -9223372036854775808 ≤ n ∧ n ≤ 9223372036854775807) (hlen : ws.length ≤ maxLen) (hoa : 0 < ws.length → oa = some ⟨ab, off, none⟩ ∧ ab < w.heap.size) (hA : WordsAt w ab off ws) :
    Calls Try.prog 10 #[.slice oa ws.length cap, .int .i64 f, .int .i64 n] w fun e w' => e = .returned (.bool true) ∧ Below w.heap.size w w' := by
  by_cases h : (40 : Int) < ws.length ∨ f < 0 ∨ n < 0 ∨ (ws.length : Int) < f ∨ (ws.length : Int) - f < n
  · exact memClear_out oa ws.length cap f n w wn hlen h
  · obtain ⟨N, rfl⟩ : ∃ N : Nat, n = N := ⟨n.toNat, by omega⟩
    obtain ⟨F, rfl⟩ : ∃ K : Nat, f = K := ⟨f.toNat, by omega⟩
    exact memClear_main oa ab off cap ws F N w hoa (by omega) (by omega) (by omega) hA

theorem memClear_lifted (os : Os) (started : os.Started) (H : Type) (enc : TypeId × Value → H) :
    ReturnsInHanded {} Try.checked os 10 .any (Rows.memClearSpec.pre6 enc Try.prog Try.f10 Rows.memClearRow.domain false) (Rows.memClearSpec.post enc Try.prog Try.f10 false true false false) := by
  refine returnsInHanded_of_change (C := Try.checked) own started (by kernel_rfl) Try.func10
    (ChangeSpec.witness6 (enc := enc) (C := Try.checked) false ⟨#[], #[.slice none 0 0, .int .i64 0, .int .i64 0], []⟩ 8 (by kernel_rfl) (by kernel_rfl) (by kernel_rfl) (by kernel_rfl)) ?_
  intro W base args ds gs before hval0 hW _ _
  have hval : ∀ (j : Nat) t v, Try.f10.params[j]? = some t → args[j]? = some v → Value.okWide Try.prog W .any base t v := hval0
  have hW' := hW
  obtain ⟨p, q, hA0, hV, rfl, hfz, hnd⟩ := hW
  have hA : DataW.TrodAll enc Try.prog W 0 (fun _ => true) true Try.f10.params.toList args.toList ds p := hA0
  rw [Try.params10] at hA hval
  obtain ⟨v0, vs0, d0, ds0, p0, q0, hargs, rfl, rfl, h0, r0⟩ := trodAll_cons hA
  obtain ⟨v1, vs1, d1, ds1, p1, q1, rfl, rfl, rfl, h1, r1⟩ := trodAll_cons r0
  obtain ⟨v2, vs2, d2, ds2, p2, q2, rfl, rfl, rfl, h2, r2⟩ := trodAll_cons r1
  obtain ⟨rfl, rfl, rfl⟩ := trodAll_nil r2
  obtain rfl : args = #[v0, v1, v2] := by cases args; simp_all
  obtain ⟨rfl, rfl⟩ := trodVars_none hV
  obtain ⟨oa, ab, off, cap, ws, rfl, hl, hoa, hA1⟩ := open_words (hval 0 54 v0 rfl rfl) h0
  obtain ⟨f, rfl, rfl, rfl, wf⟩ := open_int Try.underlying3 (hval 1 3 v1 rfl rfl) h1
  obtain ⟨n, rfl, rfl, rfl, wn⟩ := open_int Try.underlying3 (hval 2 3 v2 rfl rfl) h2
  refine (memClear_walk oa ab off cap ws f n W (i64_bounds wn) hl hoa hA1).mono fun e W' ⟨he, hb⟩ => ?_
  subst he
  exact ⟨_, rfl, law_post rfl rfl (by kernel_rfl) rfl hW' hb⟩

theorem memClear_holds : Rows.MemClearSaid :=
  OpenClaim.holds_of_wide 10 Try.f10 rfl rfl rfl rfl rfl rfl rfl ⟨rfl, rfl, rfl, rfl, rfl⟩ rfl rfl rfl rfl rfl (by kernel_rfl) Try.func10 (by kernel_rfl)
    (of_decide_eq_true (by kernel_rfl)) (by unfold Func.isWrapper; first | (rw [if_pos (by decide +kernel)]; kernel_rfl) | (rw [if_neg (by decide +kernel)]; exact ⟨rfl, rfl⟩))
    (fun os started H enc _ => memClear_lifted os started H enc)
end Go.Proofs.Ytbcockaleegicaa
