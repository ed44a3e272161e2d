/-
  mir's value: a value's type, or what is wrong. Conditions: the view, its source, its body and the value lie in the heap; no declared type is too large.
-/
import Derived.Test.YtghkbihgdabamaaGreatDoorKQMadeS
import Derived.Test.YtghkbihgdabamaaGreatDoorKQWhich
namespace Go.Proofs.YtghkbihgdabamaaGreatDoor
open Go.RowKit

def kindR (k : Int) : Int := if decide (k < 0) || decide (k ≥ 13) then 80 else 0
def madR (s : So5) (m : Nat) (b : Bo) (x : Va) : Int × Ty5 := if hasSpB x.k = true then madS s m b x else madN s m b x
def valR (s : So5) (m : Nat) (b : Bo) (x : Va) : Int × Ty5 := if whichR s x ≠ 0 then (whichR s x, ty0) else if tagR s x ≠ 0 then (tagR s x, ty0) else if kindR x.k ≠ 0 then (kindR x.k, ty0) else if (madR s m b x).1 ≠ 0 then ((madR s m b x).1, ty0) else madR s m b x
theorem plB_get {α : Type} {n : Int} {l : List α} (h : plB n l.length = true) : ∃ (i : Nat) (d : α), n = i ∧ l[i]? = some d := by
  unfold plB at h
  simp only [Bool.and_eq_true, decide_eq_true_eq] at h
  refine ⟨n.toNat, l[n.toNat]'(by omega), by omega, List.getElem?_eq_getElem _⟩
theorem whichR_11 {s : So5} {x : Va} (h : whichR s x = 0) : x.k = 11 → plB x.which s.enums.length = true := by
  intro hk
  unfold whichR at h
  rw [hk] at h
  cases hp : plB x.which s.enums.length with
  | true => rfl
  | false => rw [hp] at h; exact absurd (show (71 : Int) = 0 from h) (by decide)
theorem numOk_of {s : So5} {x : Va} (h1 : whichR s x = 0) (h2 : tagR s x = 0) : NumOk s x := by
  refine ⟨fun hk => ?_, fun hk => ?_, fun hk => ?_⟩
  · apply plB_get
    unfold whichR at h1
    rw [hk] at h1
    cases hp : plB x.which s.structs.length with
    | true => rfl
    | false => rw [hp] at h1; exact absurd (show (71 : Int) = 0 from h1) (by decide)
  · obtain ⟨i, d, hi, hd⟩ := plB_get (whichR_11 h1 hk)
    have h3 : plB x.tag d.vars.length = true := by
      unfold tagR at h2
      rw [hk, hi, Int.toNat_natCast, hd] at h2
      cases hp : plB x.tag d.vars.length with
      | true => rfl
      | false =>
        have h4 : (if plB x.tag (d.vars.length : Int) = true then (0 : Int) else 83) = 0 := h2
        rw [hp] at h4
        exact absurd (show (83 : Int) = 0 from h4) (by decide)
    obtain ⟨j, y, hj, hy⟩ := plB_get h3
    exact ⟨i, d, j, y, hi, hd, hj, hy⟩
  · apply plB_get
    unfold whichR at h1
    rw [hk] at h1
    cases hp : plB x.which s.fns.length with
    | true => rfl
    | false => rw [hp] at h1; exact absurd (show (71 : Int) = 0 from h1) (by decide)
theorem made_any (kf : Nat → Bool) (m : Nat) (s : So5) (b : Bo) (v : Nat) (x : Va) (w : World) (hs : SoH m w s) (hsn : SoN s) (hv : ViewAt w v s b) (hb : BoH m w b) (hx : VaH w x) (hk : ∀ y, w.heap.size ≤ y → kf y = true) (hbk : ∀ lo ∈ b.locals, TyH m (ebp w kf) lo.ty) (hn : NumOk s x) :
    Calls Tryz.prog 56 #[.pointer (some ⟨v, 0, none⟩), vaV x] w fun e w' => Below w.heap.size w w' ∧ OutP kf w' (madR s m b x) e := by
  unfold madR
  cases h : hasSpB x.k with
  | true => rw [if_pos rfl]; exact made_sp kf m s b v x w hs hsn hv hb hx hk hbk h
  | false => rw [if_neg (by decide)]; exact made_no kf m s b v x w hs hsn hv hb hx hk hbk hn h
/-- what value answers -/
def OutV (kf : Nat → Bool) (w' : World) (R : Int × Ty5) (e : Ending) : Prop := ∃ y er f, e = .returned (.tuple #[tyV y, .int .i64 er]) ∧ er = R.1 ∧ erTy y = R.2 ∧ TyH f (ebp w' kf) y
set_option maxRecDepth 100000 in
set_option maxHeartbeats 40000000 in
theorem value_st (kf : Nat → Bool) (m : Nat) (s : So5) (b : Bo) (v : Nat) (x : Va) (w : World) (hs : SoH m w s) (hsn : SoN s) (hv : ViewAt w v s b) (hb : BoH m w b) (hx : VaH w x) (hk : ∀ y, w.heap.size ≤ y → kf y = true) (hbk : ∀ lo ∈ b.locals, TyH m (ebp w kf) lo.ty) :
    Calls Tryz.prog 28 #[.pointer (some ⟨v, 0, none⟩), vaV x] w fun e w' => Below w.heap.size w w' ∧ OutV kf w' (valR s m b x) e := by
  obtain ⟨R, hR⟩ : ∃ R, valR s m b x = R := ⟨_, rfl⟩
  obtain ⟨E1, hE1⟩ : ∃ R, whichR s x = R := ⟨_, rfl⟩
  obtain ⟨E2, hE2⟩ : ∃ R, tagR s x = R := ⟨_, rfl⟩
  obtain ⟨E3, hE3⟩ : ∃ R, kindR x.k = R := ⟨_, rfl⟩
  obtain ⟨MR, hMR⟩ : ∃ R, madR s m b x = R := ⟨_, rfl⟩
  have hoo := fun W kf' h1 h2 h3 h4 h5 => made_any kf' m s b v x W (SoH.below hs h1) hsn (hv.below h1) (BoH.below hb h1) (VaH.below hx h1) h2 h3 (numOk_of (x := x) h4 h5)
  have hwh := fun W h1 => which_any s b v x W (hv.below h1)
  have htg := fun W h1 h2 => tag_any m s b v x W (SoH.below hs h1) (hv.below h1) (whichR_11 (x := x) h2)
  have hkd := fun W => mkind_any x W
  rw [hR]
  unfold valR at hR
  rw [hE1, hE2, hE3, hMR] at hR
  rw [hE1] at hoo hwh htg
  rw [hE2] at hoo htg
  rw [hMR] at hoo
  change ∀ W, Calls _ _ _ W fun e w' => e = .returned (.int .i64 (kindR x.k)) ∧ _ at hkd
  rw [hE3] at hkd
  have HV1 := Lib.hid (show E1 ≠ 0 → R = (E1, ty0) from fun h => by rw [if_pos h] at hR; exact hR.symm)
  have HV2 := Lib.hid (show E1 = 0 → E2 ≠ 0 → R = (E2, ty0) from fun h h' => by rw [if_neg (fun g => g h), if_pos h'] at hR; exact hR.symm)
  have HV3 := Lib.hid (show E1 = 0 → E2 = 0 → E3 ≠ 0 → R = (E3, ty0) from fun h h' h'' => by rw [if_neg (fun g => g h), if_neg (fun g => g h'), if_pos h''] at hR; exact hR.symm)
  have HV4 := Lib.hid (show E1 = 0 → E2 = 0 → E3 = 0 → (MR.1 ≠ 0 → R = (MR.1, ty0)) ∧ (MR.1 = 0 → R = MR) from fun h h' h'' => by
    rw [if_neg (fun g => g h), if_neg (fun g => g h'), if_neg (fun g => g h'')] at hR
    exact ⟨fun h5 => by rw [if_pos h5] at hR; exact hR.symm, fun h5 => by rw [if_neg (fun g => g h5)] at hR; exact hR.symm⟩)
  obtain ⟨k, hu, uses, ⟨loc, ph, path⟩, which, tag⟩ := x
  obtain ⟨nu, hnu⟩ : ∃ n, uses.length = n := ⟨_, rfl⟩
  obtain ⟨np, hnp⟩ : ∃ n, path.length = n := ⟨_, rfl⟩
  simp only [vaV, vaC, spV, spC, List.cons_append, List.nil_append, hnu, hnp] at hoo hwh htg hkd ⊢
  obtain ⟨W0, hW⟩ : ∃ W, W = (w.alloc (.cells #[.int .i64 k, .slice hu.oa nu hu.cap, .int .i64 loc, .slice ph.oa np ph.cap, .int .i64 which, .int .i64 tag] 37)).alloc (.cells #[.int .i64 0, .string ⟨#[]⟩, .slice none 0 0] 46) := ⟨_, rfl⟩
  obtain ⟨hb0, hx0, hx1⟩ := pal2 w (.cells #[.int .i64 k, .slice hu.oa nu hu.cap, .int .i64 loc, .slice ph.oa np ph.cap, .int .i64 which, .int .i64 tag] 37) (.cells #[.int .i64 0, .string ⟨#[]⟩, .slice none 0 0] 46)
  rw [← hW] at hb0 hx0 hx1
  have hsz : W0.heap.size = w.heap.size + 2 := by rw [hW]; simp
  obtain ⟨N, hN⟩ : ∃ N, N = w.heap.size := ⟨_, rfl⟩
  rw [← hN] at hx0 hx1 hsz
  have HCL := Lib.hid (show ∀ W, Below W0.heap.size W0 W → E1 = 0 → E2 = 0 → _ from fun W hW h4 h5 => hoo W (fun q => kf q && q != N + 1) (hb0.trans (hW.mono hb0.size)) (fun y hy => by
      have h0 := hW.size
      have h1 := hk y (by omega)
      have h2 : y ≠ N + 1 := by omega
      simp [h1, h2]) (fun lo hlo => TyH.und m _ _ _ (ebp_und (hb0.trans (hW.mono hb0.size)).size fun q hq hf => ⟨by
        have h2 : q ≠ N + 1 := by omega
        simp [hf, h2], (hb0.trans (hW.mono hb0.size)).block q hq⟩) (hbk lo hlo)) h4 h5)
  have HWH := Lib.hid (show ∀ W, Below W0.heap.size W0 W → _ from fun W hW => hwh W (hb0.trans (hW.mono hb0.size)))
  have HTG := Lib.hid (show ∀ W, Below W0.heap.size W0 W → E1 = 0 → _ from fun W hW h => htg W (hb0.trans (hW.mono hb0.size)) h)
  have HKD := Lib.hid hkd
  have HB0 := Lib.hid (And.intro hb0 (And.intro hx0 hx1))
  have HN1 := Lib.hid (show w.heap.size ≤ N + 1 by omega)
  clear hs hsn hv hb hx hk hbk hb0 hx0 hx1 hsz hoo hwh htg hkd hR hE1 hE2 hE3 hMR hnu hnp
  have i0 : ∀ w, (Instr.index 139 (.agg #[.func (.func 53) #[.pointer (some ⟨v, 0, none⟩)] #[], .func (.func 54) #[.pointer (some ⟨v, 0, none⟩)] #[], .func (.func 55) #[] #[]]) (.int .i64 0)).run Tryz.prog w = .ok (.func (.func 53) #[.pointer (some ⟨v, 0, none⟩)] #[]) w := fun _ => by kernel_rfl
  have i1 : ∀ w, (Instr.index 139 (.agg #[.func (.func 53) #[.pointer (some ⟨v, 0, none⟩)] #[], .func (.func 54) #[.pointer (some ⟨v, 0, none⟩)] #[], .func (.func 55) #[] #[]]) (.int .i64 1)).run Tryz.prog w = .ok (.func (.func 54) #[.pointer (some ⟨v, 0, none⟩)] #[]) w := fun _ => by kernel_rfl
  have i2 : ∀ w, (Instr.index 139 (.agg #[.func (.func 53) #[.pointer (some ⟨v, 0, none⟩)] #[], .func (.func 54) #[.pointer (some ⟨v, 0, none⟩)] #[], .func (.func 55) #[] #[]]) (.int .i64 2)).run Tryz.prog w = .ok (.func (.func 55) #[] #[]) w := fun _ => by kernel_rfl
  go_enter Tryz.func28, Tryz.ntmps28
  go_upto_region 1 with fail
  rw [← hW]
  clear hW
  try simp only [← hN]
  clear hN
  go_wp2_with fail
  go_loopw [16] (fun u wr => ∃ z : Int, u = .int .i64 z ∧ (z = 0 ∨ (z = 1 ∧ E1 = 0) ∨ (z = 2 ∧ E1 = 0 ∧ E2 = 0) ∨ (z = 3 ∧ E1 = 0 ∧ E2 = 0 ∧ E3 = 0)) ∧ Below W0.heap.size W0 wr) (fun u _ => (3 - intOf u).toNat)
  case atStart => exact ⟨0, rfl, Or.inl rfl, Below.refl _ _⟩
  case round =>
    obtain ⟨z, rfl, hz, hbw⟩ := hrel
    have BW := Lib.hid hbw
    have HBX := Lib.hid (show Below w.heap.size w wr ∧ wr.heap[N]? = some (.cells #[.int .i64 k, .slice hu.oa nu hu.cap, .int .i64 loc, .slice ph.oa np ph.cap, .int .i64 which, .int .i64 tag] 37) ∧ wr.heap[N + 1]? = some (.cells #[.int .i64 0, .string ⟨#[]⟩, .slice none 0 0] 46) from ⟨HB0.out.1.trans (hbw.mono HB0.out.1.size), (hbw.block N (blk_lt HB0.out.2.1)).trans HB0.out.2.1, (hbw.block (N + 1) (blk_lt HB0.out.2.2)).trans HB0.out.2.2⟩)
    have hx0 := HBX.out.2.1
    obtain ⟨v0, v1, v2, v3, v4, v5⟩ : wr.cell? ⟨N, 0, none⟩ = some (.int .i64 k) ∧ wr.cell? ⟨N, 1, none⟩ = some (.slice hu.oa nu hu.cap) ∧ wr.cell? ⟨N, 2, none⟩ = some (.int .i64 loc) ∧ wr.cell? ⟨N, 3, none⟩ = some (.slice ph.oa np ph.cap) ∧ wr.cell? ⟨N, 4, none⟩ = some (.int .i64 which) ∧ wr.cell? ⟨N, 5, none⟩ = some (.int .i64 tag) := by
      refine ⟨?_, ?_, ?_, ?_, ?_, ?_⟩ <;> simp [World.cell?, hx0]
    clear hbw hx0
    rcases hz with rfl | ⟨rfl, h1⟩ | ⟨rfl, h1, h2⟩ | ⟨rfl, h1, h2, h3⟩
    · cases e1 : (E1 != 0) with
      | true =>
        have hne : E1 ≠ 0 := by simpa using e1
        have HNE := Lib.hid hne
        clear hne
        go_wp2_with
          (first
            | (go_loud (go_at_call 53; refine (HWH.out wr BW.out).mono ?_; rintro e wa ⟨rfl, hbwa⟩; have HBwa := Lib.hid hbwa; clear hbwa))
            | (go_loud (refine wpList_store_box rfl 46 (.tmp 4) (.tmp 24) rfl (N + 1) 0 rfl (.agg #[.int .i64 0, .string ⟨#[]⟩, .slice none 0 0]) rfl [.int .i64 0, .string ⟨#[]⟩, .slice none 0 0] rfl [.int .i64 0, .string ⟨#[]⟩, .slice none 0 0] 46 ((HBwa.out.block (N + 1) (blk_lt HBX.out.2.2)).trans HBX.out.2.2) (Nat.le_refl _) (show (Tryz.prog.info? 46).map (·.size) = some 3 by kernel_rfl) ?ca1 w.heap.size HN1.out wa (Below.refl _ _) ?_; rotate_left; intro WF hbF hbx hoth)))
        try case ca1 => first | exact ⟨rfl, rfl, rfl⟩ | (intro v hv; simp at hv; rcases hv with rfl | rfl | rfl <;> rfl)
        have HFF := Lib.hid (And.intro hbF (And.intro hbx hoth))
        obtain ⟨f0, f1, f2, ff, fl⟩ := cells3p hbx
        clear hbF hbx hoth
        go_wp2
        refine bodyPost_ret (v := .tuple #[.agg #[.int .i64 0, .string ⟨#[]⟩, .slice none 0 0], .int .i64 E1]) (by simp [results, Tryz.results28, go_sem, f0, f1, f2]) rfl ⟨(HBX.out.1.trans (HBwa.out.mono HBX.out.1.size)).trans HFF.out.1, ?_⟩
        rw [HV1.out  HNE.out]
        exact ⟨.mk 0 ⟨#[]⟩ h0 [], E1, 1, rfl, rfl, rfl, zty _⟩
      | false =>
        have he0 : E1 = 0 := by simpa using e1
        have HE0 := Lib.hid he0
        clear he0
        go_wp2_with (go_loud (go_at_call 53; refine (HWH.out wr BW.out).mono ?_; rintro e wa ⟨rfl, hbwa⟩; have HBwa := Lib.hid hbwa; clear hbwa))
        go_roundw
        case rel => exact ⟨1, rfl, Or.inr (Or.inl ⟨rfl, HE0.out⟩), BW.out.trans (HBwa.out.mono BW.out.size)⟩
        case measure => simp [intOf]
    · have HH := Lib.hid h1
      clear h1
      cases e2 : (E2 != 0) with
      | true =>
        have hne : E2 ≠ 0 := by simpa using e2
        have HNE := Lib.hid hne
        clear hne
        go_wp2_with
          (first
            | (go_loud (go_at_call 54; refine (HTG.out wr BW.out HH.out).mono ?_; rintro e wa ⟨rfl, hbwa⟩; have HBwa := Lib.hid hbwa; clear hbwa))
            | (go_loud (refine wpList_store_box rfl 46 (.tmp 4) (.tmp 24) rfl (N + 1) 0 rfl (.agg #[.int .i64 0, .string ⟨#[]⟩, .slice none 0 0]) rfl [.int .i64 0, .string ⟨#[]⟩, .slice none 0 0] rfl [.int .i64 0, .string ⟨#[]⟩, .slice none 0 0] 46 ((HBwa.out.block (N + 1) (blk_lt HBX.out.2.2)).trans HBX.out.2.2) (Nat.le_refl _) (show (Tryz.prog.info? 46).map (·.size) = some 3 by kernel_rfl) ?ca2 w.heap.size HN1.out wa (Below.refl _ _) ?_; rotate_left; intro WF hbF hbx hoth)))
        try case ca2 => first | exact ⟨rfl, rfl, rfl⟩ | (intro v hv; simp at hv; rcases hv with rfl | rfl | rfl <;> rfl)
        have HFF := Lib.hid (And.intro hbF (And.intro hbx hoth))
        obtain ⟨f0, f1, f2, ff, fl⟩ := cells3p hbx
        clear hbF hbx hoth
        go_wp2
        refine bodyPost_ret (v := .tuple #[.agg #[.int .i64 0, .string ⟨#[]⟩, .slice none 0 0], .int .i64 E2]) (by simp [results, Tryz.results28, go_sem, f0, f1, f2]) rfl ⟨(HBX.out.1.trans (HBwa.out.mono HBX.out.1.size)).trans HFF.out.1, ?_⟩
        rw [HV2.out HH.out HNE.out]
        exact ⟨.mk 0 ⟨#[]⟩ h0 [], E2, 1, rfl, rfl, rfl, zty _⟩
      | false =>
        have he0 : E2 = 0 := by simpa using e2
        have HE0 := Lib.hid he0
        clear he0
        go_wp2_with (go_loud (go_at_call 54; refine (HTG.out wr BW.out HH.out).mono ?_; rintro e wa ⟨rfl, hbwa⟩; have HBwa := Lib.hid hbwa; clear hbwa))
        go_roundw
        case rel => exact ⟨2, rfl, Or.inr (Or.inr (Or.inl ⟨rfl, HH.out, HE0.out⟩)), BW.out.trans (HBwa.out.mono BW.out.size)⟩
        case measure => simp [intOf]
    · have HH := Lib.hid (And.intro h1 h2)
      clear h1 h2
      cases e3 : (E3 != 0) with
      | true =>
        have hne : E3 ≠ 0 := by simpa using e3
        have HNE := Lib.hid hne
        clear hne
        go_wp2_with
          (first
            | (go_loud (go_at_call 55; refine (HKD.out wr).mono ?_; rintro e wa ⟨rfl, hbwa⟩; have HBwa := Lib.hid hbwa; clear hbwa))
            | (go_loud (refine wpList_store_box rfl 46 (.tmp 4) (.tmp 24) rfl (N + 1) 0 rfl (.agg #[.int .i64 0, .string ⟨#[]⟩, .slice none 0 0]) rfl [.int .i64 0, .string ⟨#[]⟩, .slice none 0 0] rfl [.int .i64 0, .string ⟨#[]⟩, .slice none 0 0] 46 ((HBwa.out.block (N + 1) (blk_lt HBX.out.2.2)).trans HBX.out.2.2) (Nat.le_refl _) (show (Tryz.prog.info? 46).map (·.size) = some 3 by kernel_rfl) ?ca3 w.heap.size HN1.out wa (Below.refl _ _) ?_; rotate_left; intro WF hbF hbx hoth)))
        try case ca3 => first | exact ⟨rfl, rfl, rfl⟩ | (intro v hv; simp at hv; rcases hv with rfl | rfl | rfl <;> rfl)
        have HFF := Lib.hid (And.intro hbF (And.intro hbx hoth))
        obtain ⟨f0, f1, f2, ff, fl⟩ := cells3p hbx
        clear hbF hbx hoth
        go_wp2
        refine bodyPost_ret (v := .tuple #[.agg #[.int .i64 0, .string ⟨#[]⟩, .slice none 0 0], .int .i64 E3]) (by simp [results, Tryz.results28, go_sem, f0, f1, f2]) rfl ⟨(HBX.out.1.trans (HBwa.out.mono HBX.out.1.size)).trans HFF.out.1, ?_⟩
        rw [HV3.out HH.out.1 HH.out.2 HNE.out]
        exact ⟨.mk 0 ⟨#[]⟩ h0 [], E3, 1, rfl, rfl, rfl, zty _⟩
      | false =>
        have he0 : E3 = 0 := by simpa using e3
        have HE0 := Lib.hid he0
        clear he0
        go_wp2_with (go_loud (go_at_call 55; refine (HKD.out wr).mono ?_; rintro e wa ⟨rfl, hbwa⟩; have HBwa := Lib.hid hbwa; clear hbwa))
        go_roundw
        case rel => exact ⟨3, rfl, Or.inr (Or.inr (Or.inr ⟨rfl, HH.out.1, HH.out.2, HE0.out⟩)), BW.out.trans (HBwa.out.mono BW.out.size)⟩
        case measure => simp [intOf]
    · have HH := Lib.hid (And.intro h1 (And.intro h2 h3))
      clear h1 h2 h3
      go_upto_region 9 with
        (first
          | (go_loud (go_at_call 56; refine (HCL.out wr BW.out HH.out.1 HH.out.2.1).mono ?_; rintro e W1 ⟨hb1, ⟨⟨k1, nm1, h1, l1⟩, er, g, rfl, her, hok, hy1⟩⟩; simp only [tyV, tyC]; have HB1 := Lib.hid hb1; have HE := Lib.hid (And.intro her (And.intro hok hy1)); clear hb1 her hok hy1))
          | (go_loud (refine wpList_store_box rfl 46 (.tmp 9) (.tmp 31) rfl W1.heap.size 0 rfl (.agg #[.int .i64 k1, .string nm1, .slice h1.oa l1.length h1.cap]) rfl [.int .i64 k1, .string nm1, .slice h1.oa l1.length h1.cap] rfl [.int .i64 0, .string ⟨#[]⟩, .slice none 0 0] 46 (heap_alloc_new W1 (.cells #[.int .i64 0, .string ⟨#[]⟩, .slice none 0 0] 46)) (Nat.le_refl _) (show (Tryz.prog.info? 46).map (·.size) = some 3 by kernel_rfl) ?cb0 W1.heap.size (Nat.le_refl _) (W1.alloc (.cells #[.int .i64 0, .string ⟨#[]⟩, .slice none 0 0] 46)) (Below.refl _ _) ?_; rotate_left; intro W2 hb2 hbx hoth)))
      try case cb0 => first | exact ⟨rfl, rfl, rfl⟩ | (intro v hv; simp at hv; rcases hv with rfl | rfl | rfl <;> rfl)
      have hb12 : Below W1.heap.size W1 W2 := (alloc_below W1 (.cells #[.int .i64 0, .string ⟨#[]⟩, .slice none 0 0] 46)).trans hb2
      have hb02 : Below wr.heap.size wr W2 := HB1.out.trans (hb12.mono HB1.out.size)
      have H2 := Lib.hid (And.intro ((hb02.block (N + 1) (blk_lt HBX.out.2.2)).trans HBX.out.2.2) (HBX.out.1.trans (hb02.mono HBX.out.1.size)))
      obtain ⟨M, hM⟩ : ∃ M, M = W1.heap.size := ⟨_, rfl⟩
      rw [← hM] at hbx
      try simp only [← hM]
      have HB12 := Lib.hid hb12
      clear hb12 hb02 hb2 hoth hM v0 v1 v2 v3 v4 v5
      obtain ⟨m0, m1, m2, mf, ml⟩ := cells3p hbx
      clear hbx
      cases e1 : (er != 0) with
      | true =>
        have he0 : er ≠ 0 := by simpa using e1
        have hR2 : R = (er, ty0) := by
          have h := (HV4.out HH.out.1 HH.out.2.1 HH.out.2.2).1 (by rw [← HE.out.1]; exact he0)
          rw [HE.out.1]
          exact h
        have HR2 := Lib.hid (And.intro hR2 he0)
        clear hR2 he0
        go_wp2_with (go_loud (refine wpList_store_box rfl 46 (.tmp 4) (.tmp 35) rfl (N + 1) 0 rfl (.agg #[.int .i64 0, .string ⟨#[]⟩, .slice none 0 0]) rfl [.int .i64 0, .string ⟨#[]⟩, .slice none 0 0] rfl [.int .i64 0, .string ⟨#[]⟩, .slice none 0 0] 46 H2.out.1 (Nat.le_refl _) (show (Tryz.prog.info? 46).map (·.size) = some 3 by kernel_rfl) ?cb1 w.heap.size HN1.out W2 (Below.refl _ _) ?_; rotate_left; intro WF hbF hbx hoth))
        try case cb1 => first | exact ⟨rfl, rfl, rfl⟩ | (intro v hv; simp at hv; rcases hv with rfl | rfl | rfl <;> rfl)
        have HFF := Lib.hid (And.intro hbF (And.intro hbx hoth))
        obtain ⟨f0, f1, f2, ff, fl⟩ := cells3p hbx
        clear hbF hbx hoth
        go_wp2
        refine bodyPost_ret (v := .tuple #[.agg #[.int .i64 0, .string ⟨#[]⟩, .slice none 0 0], .int .i64 er]) (by simp [results, Tryz.results28, go_sem, f0, f1, f2]) rfl ⟨H2.out.2.trans HFF.out.1, ?_⟩
        rw [HR2.out.1]
        exact ⟨.mk 0 ⟨#[]⟩ h0 [], er, 1, rfl, rfl, rfl, zty _⟩
      | false =>
        have he0 : er = 0 := by simpa using e1
        have hR2 : R = MR := (HV4.out HH.out.1 HH.out.2.1 HH.out.2.2).2 (by rw [← HE.out.1]; exact he0)
        have HR2 := Lib.hid (And.intro hR2 he0)
        clear hR2 he0
        go_wp2_with (go_loud (refine wpList_store_box rfl 46 (.tmp 4) (.tmp 37) rfl (N + 1) 0 rfl (.agg #[.int .i64 k1, .string nm1, .slice h1.oa l1.length h1.cap]) rfl [.int .i64 k1, .string nm1, .slice h1.oa l1.length h1.cap] rfl [.int .i64 0, .string ⟨#[]⟩, .slice none 0 0] 46 H2.out.1 (Nat.le_refl _) (show (Tryz.prog.info? 46).map (·.size) = some 3 by kernel_rfl) ?cb2 w.heap.size HN1.out W2 (Below.refl _ _) ?_; rotate_left; intro WF hbF hbx hoth))
        try case cb2 => first | exact ⟨rfl, rfl, rfl⟩ | (intro v hv; simp at hv; rcases hv with rfl | rfl | rfl <;> rfl)
        have HFF := Lib.hid (And.intro hbF (And.intro hbx hoth))
        obtain ⟨f0, f1, f2, ff, fl⟩ := cells3p hbx
        clear hbF hbx hoth
        go_wp2
        refine bodyPost_ret (v := .tuple #[.agg #[.int .i64 k1, .string nm1, .slice h1.oa l1.length h1.cap], .int .i64 0]) (by simp [results, Tryz.results28, go_sem, f0, f1, f2]) rfl ⟨H2.out.2.trans HFF.out.1, ?_⟩
        rw [HR2.out.1]
        refine ⟨.mk k1 nm1 h1 l1, 0, g, rfl, by rw [← HE.out.1, HR2.out.2], HE.out.2.1 (by rw [← HE.out.1, HR2.out.2]), TyH.und g _ _ _ (ebp_und (Nat.le_trans HB12.out.size HFF.out.1.size) fun q hq hf => ?_) HE.out.2.2⟩
        simp at hf
        exact ⟨hf.1, (HFF.out.2.2 q hf.2).trans (HB12.out.block q hq)⟩
theorem value_any (kf : Nat → Bool) (m : Nat) (s : So5) (b : Bo) (v : Nat) (x : Va) (w : World) (hs : SoH m w s) (hsn : SoN s) (hv : ViewAt w v s b) (hb : BoH m w b) (hx : VaH w x) (hk : ∀ y, w.heap.size ≤ y → kf y = true) (hbk : ∀ lo ∈ b.locals, TyH m (ebp w kf) lo.ty) :
    Calls Tryz.prog 28 #[.pointer (some ⟨v, 0, none⟩), vaV x] w fun e w' => Below w.heap.size w w' ∧ OutP kf w' (valR s m b x) e :=
  (value_st kf m s b v x w hs hsn hv hb hx hk hbk).mono fun _ _ h => ⟨h.1, by
    obtain ⟨y, er, f, h1, h2, h3, h4⟩ := h.2
    exact ⟨y, er, f, h1, h2, fun _ => h3, h4⟩⟩

end Go.Proofs.YtghkbihgdabamaaGreatDoor
