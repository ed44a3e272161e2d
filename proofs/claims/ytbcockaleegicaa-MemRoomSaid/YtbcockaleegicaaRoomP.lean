/-
  MemRoom answers true for every input. No conditions.
-/
import Derived.Test.YtbcockaleegicaaRoom
namespace Go.Proofs.Ytbcockaleegicaa
open Go.RowKit Go.ChangeShapes Go.WideShapes Go.ChangeAt

theorem open_zs {H : Type} {enc : TypeId × Value → H} {W : World} {b0 : Nat} {v : Value} {d : DataW H} {p : List MemPlace} (hv : Value.okWide Try.prog W .any b0 57 v) (h : DataW.Trod enc Try.prog W 0 (fun _ => true) true 57 v d p) :
    ∃ (oa : Option Addr) (ab off cap : Nat) (zs : List Int), v = .slice oa zs.length cap ∧ zs.length ≤ maxLen ∧ (0 < zs.length → oa = some ⟨ab, off, none⟩ ∧ ab < W.heap.size) ∧ IntsAt W ab off zs := by
  obtain ⟨oa, len, cap, b, off, rfl, hl, hm, hoa, hc⟩ := open_rows Try.underlying57 (sz := 1) (by kernel_rfl) (by decide) hv h
  obtain ⟨zs, hw, hp⟩ := list_choose (fun i (x : Int) => W.cell? ⟨b, off + i, none⟩ = some (.int .i64 x)) len fun i hi => by
    obtain ⟨cs, x, n, h3, hat, htr⟩ := hc i hi
    obtain ⟨z, rfl, _⟩ := int_cells htr
    have := hat 0 (by decide)
    rw [Nat.mul_one, Nat.add_zero] at this
    exact ⟨z, this⟩
  exact ⟨oa, b, off, cap, zs, by rw [hw], by omega, by rw [hw]; exact hoa, hp⟩

set_option maxRecDepth 100000 in
set_option maxHeartbeats 2000000 in
theorem memRoom_out (r : Int) (oa : Option Addr) (len cap : Nat) (w : World) (hlen : len ≤ maxLen) (h : r < 0 ∨ 1000 < r ∨ (40 : Int) < len) :
    Calls Try.prog 8 #[.int .i64 r, .slice oa len cap] w fun e w' => e = .returned (.bool true) ∧ Below w.heap.size w w' := by
  unfold maxLen at hlen
  by_cases c0 : r < 0
  · have t0 : decide (r < 0) = true := by simp; omega
    go_enter Try.func8, Try.ntmps8
    go_wp2_with fail
    refine (works_any _).mono ?_
    rintro e w1 ⟨rfl, hb1⟩
    go_wp2
    go_ret
    exact ⟨rfl, hb1⟩
  have t0 : decide (r < 0) = false := by simp; omega
  by_cases c1 : 1000 < r
  · have t1 : decide (1000 < r) = true := by simp; omega
    go_enter Try.func8, Try.ntmps8
    go_wp2_with fail
    refine (works_any _).mono ?_
    rintro e w1 ⟨rfl, hb1⟩
    go_wp2
    go_ret
    exact ⟨rfl, hb1⟩
  have t1 : decide (1000 < r) = false := by simp; omega
  by_cases c2 : (40 : Int) < len
  · have t2 : decide ((40 : Int) < len) = true := by simp; omega
    go_enter Try.func8, Try.ntmps8
    go_wp2_with fail
    refine (works_any _).mono ?_
    rintro e w1 ⟨rfl, hb1⟩
    go_wp2
    go_ret
    exact ⟨rfl, hb1⟩
  have t2 : decide ((40 : Int) < len) = false := by simp; omega
  omega

theorem memRoom_walk (r : Int) (oa : Option Addr) (ab off cap : Nat) (zs : List Int) (w : World) (hlen : zs.length ≤ maxLen) (hoa : 0 < zs.length → oa = some ⟨ab, off, none⟩ ∧ ab < w.heap.size) (hA : IntsAt w ab off zs) :
    Calls Try.prog 8 #[.int .i64 r, .slice oa zs.length cap] w fun e w' => e = .returned (.bool true) ∧ Below w.heap.size w w' := by
  by_cases h : r < 0 ∨ 1000 < r ∨ (40 : Int) < zs.length
  · exact memRoom_out r oa zs.length cap w hlen h
  · obtain ⟨R, rfl⟩ : ∃ R : Nat, r = R := ⟨r.toNat, by omega⟩
    exact memRoom_main R oa ab off cap zs w (by omega) (by omega) hoa hA

theorem memRoom_lifted (os : Os) (started : os.Started) (H : Type) (enc : TypeId × Value → H) :
    ReturnsInHanded {} Try.checked os 8 .any (Rows.memRoomSpec.pre6 enc Try.prog Try.f8 Rows.memRoomRow.domain false) (Rows.memRoomSpec.post enc Try.prog Try.f8 false true false false) := by
  refine returnsInHanded_of_change (C := Try.checked) own started (by kernel_rfl) Try.func8
    (ChangeSpec.witness6 (enc := enc) (C := Try.checked) false ⟨#[], #[.int .i64 0, .slice none 0 0], []⟩ 8 (by kernel_rfl) (by kernel_rfl) (by kernel_rfl) (by kernel_rfl)) ?_
  intro W base args ds gs before hval0 hW _ _
  have hval : ∀ (j : Nat) t v, Try.f8.params[j]? = some t → args[j]? = some v → Value.okWide Try.prog W .any base t v := hval0
  have hW' := hW
  obtain ⟨p, q, hA0, hV, rfl, hfz, hnd⟩ := hW
  have hA : DataW.TrodAll enc Try.prog W 0 (fun _ => true) true Try.f8.params.toList args.toList ds p := hA0
  rw [Try.params8] at hA hval
  obtain ⟨v0, vs0, d0, ds0, p0, q0, hargs, rfl, rfl, h0, r0⟩ := trodAll_cons hA
  obtain ⟨v1, vs1, d1, ds1, p1, q1, rfl, rfl, rfl, h1, r1⟩ := trodAll_cons r0
  obtain ⟨rfl, rfl, rfl⟩ := trodAll_nil r1
  obtain rfl : args = #[v0, v1] := by cases args; simp_all
  obtain ⟨rfl, rfl⟩ := trodVars_none hV
  obtain ⟨r, rfl, rfl, rfl, wr⟩ := open_int Try.underlying3 (hval 0 3 v0 rfl rfl) h0
  obtain ⟨oa, ab, off, cap, zs, rfl, hl, hoa, hA1⟩ := open_zs (hval 1 57 v1 rfl rfl) h1
  refine (memRoom_walk r oa ab off cap zs W hl hoa hA1).mono fun e W' ⟨he, hb⟩ => ?_
  subst he
  exact ⟨_, rfl, law_post rfl rfl (by kernel_rfl) rfl hW' hb⟩

theorem memRoom_holds : Rows.MemRoomSaid :=
  OpenClaim.holds_of_wide 8 Try.f8 rfl rfl rfl rfl rfl rfl rfl ⟨rfl, rfl, rfl, rfl, rfl⟩ rfl rfl rfl rfl rfl (by kernel_rfl) Try.func8 (by kernel_rfl)
    (of_decide_eq_true (by kernel_rfl)) (by unfold Func.isWrapper; first | (rw [if_pos (by decide +kernel)]; kernel_rfl) | (rw [if_neg (by decide +kernel)]; exact ⟨rfl, rfl⟩))
    (fun os started H enc _ => memRoom_lifted os started H enc)
end Go.Proofs.Ytbcockaleegicaa
