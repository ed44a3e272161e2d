/-
  works, of the statements: the document's example. No conditions.
-/
import Derived.Test.YtghkbihgdabamaaGreatDoorKQTextB
import Derived.Test.YtghkbihgdabamaaGreatDoorKQValid
import Derived.Test.YtghkbihgdabamaaGreatDoorKQSett
namespace Go.Proofs.YtghkbihgdabamaaGreatDoor
open Go.RowKit

set_option maxRecDepth 100000 in
set_option maxHeartbeats 4000000 in
theorem mnum_any (w : World) : Calls Tryz.prog 18 #[] w fun e w' => e = .returned (.agg #[.int .i64 1, .string ⟨#[]⟩, .slice none 0 0]) ∧ Below w.heap.size w w' := by
  obtain ⟨W0, hW⟩ : ∃ W, W = w.alloc (.cells #[.int .i64 0, .string ⟨#[]⟩, .slice none 0 0] 46) := ⟨_, rfl⟩
  have hx0 : W0.heap[w.heap.size]? = some (.cells #[.int .i64 0, .string ⟨#[]⟩, .slice none 0 0] 46) := by rw [hW]; exact heap_alloc_new _ _
  have hb0 : Below w.heap.size w W0 := by rw [hW]; exact alloc_below _ _
  obtain ⟨N, hN⟩ : ∃ N, N = w.heap.size := ⟨_, rfl⟩
  rw [← hN] at hx0 hb0
  have HX := Lib.hid hx0
  have HB0 := Lib.hid hb0
  have HN := Lib.hid hN
  clear hx0 hb0
  go_enter Tryz.func18, Tryz.ntmps18
  go_upto_region 1 with fail
  rw [← hW]
  clear hW
  try simp only [← hN]
  clear hN
  go_wp2_with (go_loud (refine wpList_store_box rfl 46 (.tmp 0) (.tmp 1) rfl N 0 rfl (.agg #[.int .i64 1, .string ⟨#[]⟩, .slice none 0 0]) rfl [.int .i64 1, .string ⟨#[]⟩, .slice none 0 0] rfl [.int .i64 0, .string ⟨#[]⟩, .slice none 0 0] 46 HX.out (Nat.le_refl _) (show (Tryz.prog.info? 46).map (·.size) = some 3 by kernel_rfl) ?ca N (Nat.le_refl _) W0 (Below.refl _ _) ?_))
  try case ca => first | exact ⟨rfl, rfl, rfl⟩ | (intro v hv; simp at hv; rcases hv with rfl | rfl | rfl <;> rfl)
  intro WF hb hbx hoth
  have HF := Lib.hid (show Below w.heap.size w WF by rw [← HN.out]; exact HB0.out.trans hb)
  obtain ⟨f0, f1, f2, ff, fl⟩ := cells3p hbx
  clear hb hbx hoth
  go_wp2
  exact bodyPost_ret (v := .agg #[.int .i64 1, .string ⟨#[]⟩, .slice none 0 0]) (by simp [results, Tryz.results18, go_sem, f0, f1, f2]) rfl ⟨rfl, HF.out⟩

def tyI : Ty5 := .mk 1 ⟨#[]⟩ h0 []
def spZ : Sp := ⟨0, h0, []⟩
def vaZ : Va := ⟨0, h0, [], spZ, 0, 0⟩
def usZ : Us := ⟨false, 0, false, spZ⟩
def tmZ : Tn := ⟨3, 0, spZ, vaZ, usZ, h0, []⟩
def blZ : Bl := ⟨h0, [], tmZ⟩
def boW (p q : Nat) : Bo := ⟨⟨#[102]⟩, 1, ⟨some ⟨p, 0, none⟩, 2⟩, [⟨⟨#[120]⟩, tyI⟩, ⟨⟨#[]⟩, tyI⟩], ⟨some ⟨q, 0, none⟩, 1⟩, [blZ]⟩
def soZ : So5 := ⟨h0, [], h0, [], h0, []⟩
def boZ : Bo := ⟨⟨#[]⟩, 0, h0, [], h0, []⟩
theorem rowq {α : Type} {w : World} {k sz : Nat} {t : TypeId} {C : α → List Value} {P : α → Prop} {xs : List α} (h : w.heap[k]? = some (.cells (xs.flatMap C).toArray t)) (hC : ∀ x, (C x).length = sz) (hm : xs.length ≤ maxLen) (hall : ∀ x, x ∈ xs → P x) : Row w ⟨some ⟨k, 0, none⟩, xs.length⟩ sz xs C P :=
  (row_lit h hC (Nat.zero_le k) hm hall).und ⟨by rw [eb_size]; exact Nat.le_refl _, fun p v h => (eb_cell h).2.2⟩ fun _ _ h => h
theorem tyI_H (w : World) : TyH 2 w tyI := ⟨by unfold I64; omega, Row.nil _ _ _ _⟩
theorem spZ_H (w : World) : SpH w spZ := ⟨by unfold I64 spZ; dsimp only; omega, Row.nil _ _ _ _⟩
theorem i0 : I64 0 := by unfold I64; omega
theorem vaZ_H (w : World) : VaH w vaZ := ⟨i0, Row.nil _ _ _ _, spZ_H w, i0, i0⟩
theorem tmZ_H (w : World) : TnH w tmZ := ⟨by unfold I64 tmZ; dsimp only; omega, i0, spZ_H w, vaZ_H w, ⟨i0, spZ_H w⟩, Row.nil _ _ _ _⟩
theorem blZ_H (w : World) : BlH w blZ := ⟨Row.nil _ _ _ _, tmZ_H w⟩
theorem soZ_H (w : World) : SoH 2 w soZ := ⟨Row.nil _ _ _ _, Row.nil _ _ _ _, Row.nil _ _ _ _⟩
theorem boZ_H (w : World) : BoH 2 w boZ := ⟨i0, Row.nil _ _ _ _, Row.nil _ _ _ _⟩
theorem boW_H (p q : Nat) (w : World) (hp : w.heap[p]? = some (.cells #[.string ⟨#[120]⟩, .int .i64 1, .string ⟨#[]⟩, .slice none 0 0, .string ⟨#[]⟩, .int .i64 1, .string ⟨#[]⟩, .slice none 0 0] 66)) (hq : w.heap[q]? = some (.cells #[.slice none 0 0, .int .i64 3, .int .i64 0, .int .i64 0, .slice none 0 0, .int .i64 0, .slice none 0 0, .int .i64 0, .slice none 0 0, .int .i64 0, .int .i64 0, .bool false, .int .i64 0, .bool false, .int .i64 0, .slice none 0 0, .slice none 0 0] 60)) : BoH 2 w (boW p q) := by
  refine ⟨by unfold I64 boW; dsimp only; omega, ?_, ?_⟩
  · exact rowq (xs := [⟨⟨#[120]⟩, tyI⟩, ⟨⟨#[]⟩, tyI⟩]) (C := loC) hp loC_len (by unfold maxLen; decide) (fun x hx => by
      simp only [List.mem_cons, List.not_mem_nil, or_false] at hx
      rcases hx with rfl | rfl <;> exact tyI_H w)
  · exact rowq (xs := [blZ]) (C := blC) hq blC_len (by unfold maxLen; decide) (fun x hx => by
      simp only [List.mem_cons, List.not_mem_nil, or_false] at hx
      rcases hx with rfl
      exact blZ_H w)
theorem soZ_N : SoN soZ := ⟨fun _ h => (by cases h), fun _ h => (by cases h), fun _ h => (by cases h)⟩
theorem boW_N (p q : Nat) : BoN (boW p q) := fun lo h => by
  simp only [boW, List.mem_cons, List.not_mem_nil, or_false] at h
  rcases h with rfl | rfl <;> (simp only [tyI, tyN, tysN]; omega)
theorem boZ_N : BoN boZ := fun _ h => by cases h
theorem spotW (p q : Nat) : spotR soZ 2 (boW p q) spZ = some (erTy tyI, false) := by rfl
theorem emB_nil : emB ⟨#[]⟩ = true := by unfold emB; rw [Lib.toList_data]; rfl
theorem tyI_of : isOfB soZ 2 tyI tyI = true := by kernel_rfl
theorem validW (p q : Nat) : validB soZ 2 (boW p q) = true := by
  have h1 : localsB soZ 2 (boW p q) = true := by
    unfold localsB
    rw [if_neg (by rintro (h | h | h)
                   · exact absurd (show (2 : Nat) = 0 from h) (by decide)
                   · exact absurd (show 201 < (2 : Nat) from h) (by decide)
                   · exact absurd (show plB 1 ((2 : Nat) : Int) = false from h) (by decide))]
    show (emB ⟨#[]⟩ && (numB tyI && [(⟨⟨#[120]⟩, tyI⟩ : Lo), ⟨⟨#[]⟩, tyI⟩].all (localB soZ 2))) = true
    rw [emB_nil]
    simp only [List.all_cons, List.all_nil, localB, tyI_of]
    rfl
  unfold validB
  rw [h1]
  rfl
theorem validZ : validB soZ 2 boZ = false := by rfl
set_option maxRecDepth 100000 in
set_option maxHeartbeats 8000000 in
theorem works_any (w : World) : Calls Tryz.prog 8 #[] w fun e w' => e = .returned (.bool true) ∧ Below w.heap.size w w' := by
  have S1 := Lib.hid True.intro
  have HONE := fun (Wb : World) => Lib.hid (show ∀ v ∈ ([.string ⟨#[102]⟩, .int .i64 1, .slice (some ⟨Wb.heap.size, 0, none⟩) 2 2, .slice (some ⟨Wb.heap.size + 1, 0, none⟩) 1 1] : List Value), v.oneCell' = true from by intro v hv; simp at hv; rcases hv with rfl | rfl | rfl | rfl <;> rfl)
  go_enter Tryz.func8, Tryz.ntmps8
  go_upto_region 2 with
    (first
      | (go_loud (clear S1; go_at_call 18; refine (mnum_any _).mono ?_; rintro e Wa ⟨rfl, hba⟩; have HBA := Lib.hid hba; clear hba))
      | (go_loud (go_at_call 18; refine (mnum_any _).mono ?_; rintro e Wb ⟨rfl, hbb⟩; have HBB := Lib.hid (HBA.out.trans (hbb.mono HBA.out.size)); clear hbb))
      | (go_loud (refine wpList_store_new2 rfl 30 (.tmp 1) (.tmp 15) rfl ((Wb.alloc (.cells #[.string ⟨#[120]⟩, .int .i64 1, .string ⟨#[]⟩, .slice none 0 0, .string ⟨#[]⟩, .int .i64 1, .string ⟨#[]⟩, .slice none 0 0] 66)).alloc (.cells #[.slice none 0 0, .int .i64 3, .int .i64 0, .int .i64 0, .slice none 0 0, .int .i64 0, .slice none 0 0, .int .i64 0, .slice none 0 0, .int .i64 0, .int .i64 0, .bool false, .int .i64 0, .bool false, .int .i64 0, .slice none 0 0, .slice none 0 0] 60)) _ _ (Wb.heap.size + 1 + 1) (by simp) rfl [.string ⟨#[102]⟩, .int .i64 1, .slice (some ⟨Wb.heap.size, 0, none⟩) 2 2, .slice (some ⟨Wb.heap.size + 1, 0, none⟩) 1 1] rfl rfl (show (Tryz.prog.info? 30).map (·.size) = some 4 by kernel_rfl) (HONE Wb).out ?_; intro W1 hb1 hbx1 hs1)))
  obtain ⟨p, hp⟩ : ∃ p, p = Wb.heap.size := ⟨_, rfl⟩
  have hq : (Wb.alloc (.cells #[.string ⟨#[120]⟩, .int .i64 1, .string ⟨#[]⟩, .slice none 0 0, .string ⟨#[]⟩, .int .i64 1, .string ⟨#[]⟩, .slice none 0 0] 66)).heap.size = p + 1 := by rw [hp]; simp
  have hbl : Below Wb.heap.size Wb ((Wb.alloc (.cells #[.string ⟨#[120]⟩, .int .i64 1, .string ⟨#[]⟩, .slice none 0 0, .string ⟨#[]⟩, .int .i64 1, .string ⟨#[]⟩, .slice none 0 0] 66)).alloc (.cells #[.slice none 0 0, .int .i64 3, .int .i64 0, .int .i64 0, .slice none 0 0, .int .i64 0, .slice none 0 0, .int .i64 0, .slice none 0 0, .int .i64 0, .int .i64 0, .bool false, .int .i64 0, .bool false, .int .i64 0, .slice none 0 0, .slice none 0 0] 60)) := (pal2 Wb _ _).1
  have hxp : W1.heap[p]? = some (.cells #[.string ⟨#[120]⟩, .int .i64 1, .string ⟨#[]⟩, .slice none 0 0, .string ⟨#[]⟩, .int .i64 1, .string ⟨#[]⟩, .slice none 0 0] 66) := by rw [hp]; exact (hb1.block _ (by simp; omega)).trans (pal2 Wb _ _).2.1
  have hxq : W1.heap[p + 1]? = some (.cells #[.slice none 0 0, .int .i64 3, .int .i64 0, .int .i64 0, .slice none 0 0, .int .i64 0, .slice none 0 0, .int .i64 0, .slice none 0 0, .int .i64 0, .int .i64 0, .bool false, .int .i64 0, .bool false, .int .i64 0, .slice none 0 0, .slice none 0 0] 60) := by rw [hp]; exact (hb1.block _ (by simp)).trans (pal2 Wb _ _).2.2
  have hxb : W1.heap[p + 1 + 1]? = some (.cells #[.string ⟨#[102]⟩, .int .i64 1, .slice (some ⟨p, 0, none⟩) 2 2, .slice (some ⟨p + 1, 0, none⟩) 1 1] 30) := by rw [hp]; exact hbx1
  have HW1 := Lib.hid (And.intro (HBB.out.trans ((hbl.trans (hb1.mono hbl.size)).mono HBB.out.size)) (And.intro hxp (And.intro hxq hxb)))
  have hty := type_any 2 soZ (boW p (p + 1)) spZ W1 (soZ_H _) soZ_N (boW_H p (p + 1) W1 hxp hxq) (boW_N _ _) (spZ_H _)
  rw [spotW] at hty
  change Calls _ _ #[.agg #[.slice none 0 0, .slice none 0 0, .slice none 0 0], .agg #[.string ⟨#[102]⟩, .int .i64 1, .slice (some ⟨p, 0, none⟩) 2 2, .slice (some ⟨p + 1, 0, none⟩) 1 1], .agg #[.int .i64 0, .slice none 0 0]] _ _ at hty
  have HTY := Lib.hid hty
  have hva := fun W (h : Below W1.heap.size W1 W) => valid_any 2 soZ (boW p (p + 1)) W (soZ_H _) soZ_N (boW_H p (p + 1) W ((h.block p (blk_lt hxp)).trans hxp) ((h.block (p + 1) (blk_lt hxq)).trans hxq)) (boW_N _ _)
  simp only [validW] at hva
  change ∀ W, _ → Calls _ _ #[.agg #[.slice none 0 0, .slice none 0 0, .slice none 0 0], .agg #[.string ⟨#[102]⟩, .int .i64 1, .slice (some ⟨p, 0, none⟩) 2 2, .slice (some ⟨p + 1, 0, none⟩) 1 1]] _ _ at hva
  have HVA := Lib.hid hva
  have hvz := fun W => valid_any 2 soZ boZ W (soZ_H _) soZ_N (boZ_H _) boZ_N
  simp only [validZ] at hvz
  change ∀ W, Calls _ _ #[.agg #[.slice none 0 0, .slice none 0 0, .slice none 0 0], .agg #[.string ⟨#[]⟩, .int .i64 0, .slice none 0 0, .slice none 0 0]] _ _ at hvz
  have HVZ := Lib.hid hvz
  have HTX := Lib.hid (fun W (h : Below W1.heap.size W1 W) => text_fixed p (p + 1) W ((h.block p (blk_lt hxp)).trans hxp) ((h.block (p + 1) (blk_lt hxq)).trans hxq))
  obtain ⟨p0, p1, p2, p3, pf, pl⟩ := cells4p hxb
  simp only [← hp]
  clear hp hq hbl hxp hxq hxb hb1 hbx1 hs1 hty hva hvz
  go_upto_region 3 with
    (first
      | (go_loud (go_at_call 11; refine HTY.out.mono ?_; rintro e W2 ⟨hb2, ⟨⟨k1, nm1, h1, l1⟩, sh, er, f, rfl, -, hr⟩⟩; simp only [tyV, tyC]; have HB2 := Lib.hid hb2; have HR := Lib.hid hr; clear hb2 hr))
      | (go_loud (refine wpList_store_box rfl 46 (.tmp 2) (.tmp 21) rfl W2.heap.size 0 rfl (.agg #[.int .i64 k1, .string nm1, .slice h1.oa l1.length h1.cap]) rfl [.int .i64 k1, .string nm1, .slice h1.oa l1.length h1.cap] rfl [.int .i64 0, .string ⟨#[]⟩, .slice none 0 0] 46 (heap_alloc_new W2 (.cells #[.int .i64 0, .string ⟨#[]⟩, .slice none 0 0] 46)) (Nat.le_refl _) (show (Tryz.prog.info? 46).map (·.size) = some 3 by kernel_rfl) ?ca0 W2.heap.size (Nat.le_refl _) (W2.alloc (.cells #[.int .i64 0, .string ⟨#[]⟩, .slice none 0 0] 46)) (Below.refl _ _) ?_; rotate_left; intro W3 hb3 hbx hoth)))
  try case ca0 => first | exact ⟨rfl, rfl, rfl⟩ | (intro v hv; simp at hv; rcases hv with rfl | rfl | rfl <;> rfl)
  have hb23 : Below W2.heap.size W2 W3 := (alloc_below W2 (.cells #[.int .i64 0, .string ⟨#[]⟩, .slice none 0 0] 46)).trans hb3
  have hb13 : Below W1.heap.size W1 W3 := HB2.out.trans (hb23.mono HB2.out.size)
  obtain ⟨M, hM⟩ : ∃ M, M = W2.heap.size := ⟨_, rfl⟩
  rw [← hM] at hbx
  try simp only [← hM]
  have hk1 : k1 = 1 := by
    have h := congrArg kdT HR.out.1
    rw [kdT_er, kdT_er] at h
    exact h
  have her : er = 0 := HR.out.2.2
  subst hk1 her
  have H3 := Lib.hid (And.intro hb13 (And.intro hbx (show ∀ W, Below W3.heap.size W3 W → W.heap[p + 1 + 1]? = some (.cells #[.string ⟨#[102]⟩, .int .i64 1, .slice (some ⟨p, 0, none⟩) 2 2, .slice (some ⟨p + 1, 0, none⟩) 1 1] 30) from fun W h => ((hb13.trans (h.mono hb13.size)).block _ (blk_lt HW1.out.2.2.2)).trans HW1.out.2.2.2)))
  obtain ⟨m0, m1, m2, mf, ml⟩ := cells3p hbx
  clear p0 p1 p2 p3 pf pl hb3 hoth hM hbx hb23 hb13
  obtain ⟨p0, p1, p2, p3, pf, pl⟩ := cells4p (H3.out.2.2 W3 (Below.refl _ _))
  have S2 := Lib.hid True.intro
  go_wp2_with
    (first
      | (go_loud (clear S2; go_at_call 16; refine (HVA.out W3 H3.out.1).mono ?_; rintro e W4 ⟨rfl, hb4⟩; have H4 := Lib.hid hb4; obtain ⟨q0, q1, q2, q3, qf, ql⟩ := cells4p (H3.out.2.2 W4 hb4); obtain ⟨n0, n1, n2, nf, nl⟩ := cells3p ((hb4.block M (blk_lt H3.out.2.1)).trans H3.out.2.1); clear hb4))
      | (go_loud (go_at_call 19; refine (HTX.out W4 (H3.out.1.trans (H4.out.mono H3.out.1.size))).mono ?_; rintro e W5 ⟨rfl, hb5⟩; have H5 := Lib.hid (H4.out.trans (hb5.mono H4.out.size)); obtain ⟨o0, o1, o2, of, ol⟩ := cells3p (((H4.out.trans (hb5.mono H4.out.size)).block M (blk_lt H3.out.2.1)).trans H3.out.2.1); clear hb5))
      | (go_loud (go_at_call 16; refine (HVZ.out W5).mono ?_; rintro e W6 ⟨rfl, hb6⟩; have H6 := Lib.hid (H5.out.trans (hb6.mono H5.out.size)); clear hb6)))
  go_ret
  exact ⟨by first | done | rfl, HW1.out.1.trans ((H3.out.1.trans (H6.out.mono H3.out.1.size)).mono HW1.out.1.size)⟩

end Go.Proofs.YtghkbihgdabamaaGreatDoor
