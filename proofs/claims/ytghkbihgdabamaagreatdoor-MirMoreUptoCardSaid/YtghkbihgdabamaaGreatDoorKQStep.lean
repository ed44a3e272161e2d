/-
  mir's step: may a step be. Conditions: the view, its source, its body and the step lie in the heap; types are not too large; an enum that a local is of is there.
-/
import Derived.Test.YtghkbihgdabamaaGreatDoorKQOpens
import Derived.Test.YtghkbihgdabamaaGreatDoorKQNamed
import Derived.Test.YtghkbihgdabamaaGreatDoorKQUseN
namespace Go.Proofs.YtghkbihgdabamaaGreatDoor
open Go.RowKit

def stepB (s : So5) (n : Nat) (b : Bo) (x : Si) : Bool :=
  cond (x.k == 0) (namedB b x.s && (noVaB x.v && noUsB x.u)) (cond (x.k == 1) (namedB b x.s && (noVaB x.v && noUsB x.u)) (cond (x.k == 2) (setsB s n b x.s x.v && noUsB x.u)
    (cond (x.k == 3) (namedB b x.s && (noVaB x.v && (noUsB x.u || mvOfB x.u x.s.loc))) (cond (x.k == 4) (noSpB x.s && (noVaB x.v && numO (useR s n b x.u))) (cond (x.k == 5) (opensB s n b x.s x.v && noUsB x.u) false)))))
theorem cells15q {w : World} {v : Nat} {a0 a1 a2 a3 a4 a5 a6 a7 a8 a9 a10 a11 a12 a13 a14 : Value} {T : TypeId} (h : w.heap[v]? = some (.cells #[a0, a1, a2, a3, a4, a5, a6, a7, a8, a9, a10, a11, a12, a13, a14] T)) : w.cell? ⟨v, 0, none⟩ = some a0 ∧ w.cell? ⟨v, 1, none⟩ = some a1 ∧ w.cell? ⟨v, 2, none⟩ = some a2 ∧ w.cell? ⟨v, 2 + 1, none⟩ = some a3 ∧ w.cell? ⟨v, 4, none⟩ = some a4 ∧ w.cell? ⟨v, 4 + 1, none⟩ = some a5 ∧ w.cell? ⟨v, 4 + 2, none⟩ = some a6 ∧ w.cell? ⟨v, 4 + 3, none⟩ = some a7 ∧ w.cell? ⟨v, 4 + 4, none⟩ = some a8 ∧ w.cell? ⟨v, 4 + 5, none⟩ = some a9 ∧ w.cell? ⟨v, 10, none⟩ = some a10 ∧ w.cell? ⟨v, 10 + 1, none⟩ = some a11 ∧ w.cell? ⟨v, 10 + 2, none⟩ = some a12 ∧ w.cell? ⟨v, 10 + 3, none⟩ = some a13 ∧ w.cell? ⟨v, 10 + 4, none⟩ = some a14 ∧ v < w.heap.size := by
  refine ⟨?_, ?_, ?_, ?_, ?_, ?_, ?_, ?_, ?_, ?_, ?_, ?_, ?_, ?_, ?_, (Array.getElem?_eq_some_iff.1 h).1⟩ <;> simp [World.cell?, h]
set_option maxRecDepth 100000 in
set_option maxHeartbeats 40000000 in
theorem step_any (n : Nat) (s : So5) (b : Bo) (v : Nat) (x : Si) (w : World) (hs : SoH n w s) (hsn : SoN s) (hv : ViewAt w v s b) (hb : BoH n w b) (hx : SiH w x) (hen : EnOk s n b) :
    Calls Tryz.prog 64 #[.pointer (some ⟨v, 0, none⟩), siV x] w fun e w' => e = .returned (.bool (stepB s n b x)) ∧ Below w.heap.size w w' := by
  have hnm := fun W (h1 : Below w.heap.size w W) => isNamed_any n s b v x.s W (hv.below h1) (BoH.below hb h1) (SpH.below hx.2.2.1 h1)
  have hnv := fun W => isNoValue_any x.v W
  have hnu := fun W => isNoUse_any x.u W
  have hmv := fun W => isMoveOf_any x.u x.s.loc W
  have hst := fun W (h1 : Below w.heap.size w W) => sets_any n s b v x.s x.v W (SoH.below hs h1) hsn (hv.below h1) (BoH.below hb h1) (SpH.below hx.2.2.1 h1) (VaH.below hx.2.2.2.1 h1)
  have hns := fun W => isNoSpot_any x.s W
  have hun := fun W (h1 : Below w.heap.size w W) => isNumberUse_any n s b v x.u W (SoH.below hs h1) hsn (hv.below h1) (BoH.below hb h1) (UsH.below hx.2.2.2.2 h1)
  have hop := fun W (h1 : Below w.heap.size w W) => opens_any n s b v x.s x.v W (SoH.below hs h1) hsn (hv.below h1) (BoH.below hb h1) (SpH.below hx.2.2.1 h1) (VaH.below hx.2.2.2.1 h1) hen
  obtain ⟨Bnm, hBnm⟩ : ∃ B, namedB b x.s = B := ⟨_, rfl⟩
  obtain ⟨Bnv, hBnv⟩ : ∃ B, noVaB x.v = B := ⟨_, rfl⟩
  obtain ⟨Bnu, hBnu⟩ : ∃ B, noUsB x.u = B := ⟨_, rfl⟩
  obtain ⟨Bmv, hBmv⟩ : ∃ B, mvOfB x.u x.s.loc = B := ⟨_, rfl⟩
  obtain ⟨Bst, hBst⟩ : ∃ B, setsB s n b x.s x.v = B := ⟨_, rfl⟩
  obtain ⟨Bns, hBns⟩ : ∃ B, noSpB x.s = B := ⟨_, rfl⟩
  obtain ⟨Bun, hBun⟩ : ∃ B, numO (useR s n b x.u) = B := ⟨_, rfl⟩
  obtain ⟨Bop, hBop⟩ : ∃ B, opensB s n b x.s x.v = B := ⟨_, rfl⟩
  simp only [hBnm] at hnm
  simp only [hBnv] at hnv
  simp only [hBnu] at hnu
  simp only [hBmv] at hmv
  simp only [hBst] at hst
  simp only [hBns] at hns
  simp only [hBun] at hun
  simp only [hBop] at hop
  obtain ⟨R, hR⟩ : ∃ R, stepB s n b x = R := ⟨_, rfl⟩
  rw [hR]
  unfold stepB at hR
  simp only [hBnm, hBnv, hBnu, hBmv, hBst, hBns, hBun, hBop] at hR
  clear hBnm hBnv hBnu hBmv hBst hBns hBun hBop
  obtain ⟨k, pos, ⟨loc, ph, path⟩, ⟨vk, vu, vuses, ⟨vloc, vph, vpath⟩, vwhich, vtag⟩, ⟨unum, un, umv, ⟨uloc, uph, upath⟩⟩⟩ := x
  obtain ⟨np, hnp⟩ : ∃ n, path.length = n := ⟨_, rfl⟩
  obtain ⟨nv, hnv9⟩ : ∃ n, vuses.length = n := ⟨_, rfl⟩
  obtain ⟨nvp, hnvp⟩ : ∃ n, vpath.length = n := ⟨_, rfl⟩
  obtain ⟨nup, hnup⟩ : ∃ n, upath.length = n := ⟨_, rfl⟩
  dsimp only at hR
  simp only [siV, siC, spV, spC, vaV, vaC, usV, usC, List.cons_append, List.nil_append, hnp, hnv9, hnvp, hnup] at hnm hnv hnu hmv hst hns hun hop ⊢
  have HNM := Lib.hid hnm
  have HNV := Lib.hid hnv
  have HNU := Lib.hid hnu
  have HMV := Lib.hid hmv
  have HST := Lib.hid hst
  have HNS := Lib.hid hns
  have HUN := Lib.hid hun
  have HOP := Lib.hid hop
  have HR := Lib.hid hR
  obtain ⟨W0, hW⟩ : ∃ W, W = w.alloc (.cells #[.int .i64 k, .int .i64 pos, .int .i64 loc, .slice ph.oa np ph.cap, .int .i64 vk, .slice vu.oa nv vu.cap, .int .i64 vloc, .slice vph.oa nvp vph.cap, .int .i64 vwhich, .int .i64 vtag, .bool unum, .int .i64 un, .bool umv, .int .i64 uloc, .slice uph.oa nup uph.cap] 84) := ⟨_, rfl⟩
  have hb0 : Below w.heap.size w W0 := by rw [hW]; exact alloc_below _ _
  have hx0 : W0.heap[w.heap.size]? = some (.cells #[.int .i64 k, .int .i64 pos, .int .i64 loc, .slice ph.oa np ph.cap, .int .i64 vk, .slice vu.oa nv vu.cap, .int .i64 vloc, .slice vph.oa nvp vph.cap, .int .i64 vwhich, .int .i64 vtag, .bool unum, .int .i64 un, .bool umv, .int .i64 uloc, .slice uph.oa nup uph.cap] 84) := by rw [hW]; exact heap_alloc_new _ _
  obtain ⟨N, hN⟩ : ∃ N, N = w.heap.size := ⟨_, rfl⟩
  rw [← hN] at hx0
  have HX0 := Lib.hid (And.intro hb0 hx0)
  clear hs hsn hv hb hx hen hb0 hx0 hR hnm hnv hnu hmv hst hns hun hop hnp hnv9 hnvp hnup
  go_enter Tryz.func64, Tryz.ntmps64
  go_upto_region 1 with fail
  rw [← hW]
  clear hW
  try simp only [← hN]
  clear hN
  obtain ⟨c00, c01, c02, c03, c04, c05, c06, c07, c08, c09, c010, c011, c012, c013, c014, c0l⟩ := cells15q HX0.out.2
  by_cases k0 : k = 0
  · subst k0
    as_aux_lemma =>
      cases Bnm with
      | false =>
        go_wp2_with
          (first
            | (go_loud (go_at_call 98; refine (HNM.out W0 HX0.out.1).mono ?_; rintro e W1 ⟨rfl, hb1⟩; have HX1 := Lib.hid (And.intro (HX0.out.1.trans (hb1.mono HX0.out.1.size)) ((hb1.block N (blk_lt HX0.out.2)).trans HX0.out.2)); obtain ⟨c10, c11, c12, c13, c14, c15, c16, c17, c18, c19, c110, c111, c112, c113, c114, c1l⟩ := cells15q HX1.out.2; clear hb1)))
        go_ret
        exact ⟨by rw [← HR.out]; rfl, HX1.out.1⟩
      | true =>
        cases Bnv with
        | false =>
          go_wp2_with
            (first
              | (go_loud (go_at_call 98; refine (HNM.out W0 HX0.out.1).mono ?_; rintro e W1 ⟨rfl, hb1⟩; have HX1 := Lib.hid (And.intro (HX0.out.1.trans (hb1.mono HX0.out.1.size)) ((hb1.block N (blk_lt HX0.out.2)).trans HX0.out.2)); obtain ⟨c10, c11, c12, c13, c14, c15, c16, c17, c18, c19, c110, c111, c112, c113, c114, c1l⟩ := cells15q HX1.out.2; clear hb1))
              | (go_loud (go_at_call 99; refine (HNV.out W1).mono ?_; rintro e W2 ⟨rfl, hb2⟩; have HX2 := Lib.hid (And.intro (HX1.out.1.trans (hb2.mono HX1.out.1.size)) ((hb2.block N (blk_lt HX1.out.2)).trans HX1.out.2)); obtain ⟨c20, c21, c22, c23, c24, c25, c26, c27, c28, c29, c210, c211, c212, c213, c214, c2l⟩ := cells15q HX2.out.2; clear hb2)))
          go_ret
          exact ⟨by rw [← HR.out]; rfl, HX2.out.1⟩
        | true =>
          go_wp2_with
            (first
              | (go_loud (go_at_call 98; refine (HNM.out W0 HX0.out.1).mono ?_; rintro e W1 ⟨rfl, hb1⟩; have HX1 := Lib.hid (And.intro (HX0.out.1.trans (hb1.mono HX0.out.1.size)) ((hb1.block N (blk_lt HX0.out.2)).trans HX0.out.2)); obtain ⟨c10, c11, c12, c13, c14, c15, c16, c17, c18, c19, c110, c111, c112, c113, c114, c1l⟩ := cells15q HX1.out.2; clear hb1))
              | (go_loud (go_at_call 99; refine (HNV.out W1).mono ?_; rintro e W2 ⟨rfl, hb2⟩; have HX2 := Lib.hid (And.intro (HX1.out.1.trans (hb2.mono HX1.out.1.size)) ((hb2.block N (blk_lt HX1.out.2)).trans HX1.out.2)); obtain ⟨c20, c21, c22, c23, c24, c25, c26, c27, c28, c29, c210, c211, c212, c213, c214, c2l⟩ := cells15q HX2.out.2; clear hb2))
              | (go_loud (go_at_call 100; refine (HNU.out W2).mono ?_; rintro e W3 ⟨rfl, hb3⟩; have HX3 := Lib.hid (And.intro (HX2.out.1.trans (hb3.mono HX2.out.1.size)) ((hb3.block N (blk_lt HX2.out.2)).trans HX2.out.2)); obtain ⟨c30, c31, c32, c33, c34, c35, c36, c37, c38, c39, c310, c311, c312, c313, c314, c3l⟩ := cells15q HX3.out.2; clear hb3)))
          go_ret
          exact ⟨by rw [← HR.out]; rfl, HX3.out.1⟩
  have e0 : (k == 0) = false := by simpa using k0
  clear k0
  by_cases k1 : k = 1
  · subst k1
    as_aux_lemma =>
      cases Bnm with
      | false =>
        go_wp2_with
          (first
            | (go_loud (go_at_call 98; refine (HNM.out W0 HX0.out.1).mono ?_; rintro e W1 ⟨rfl, hb1⟩; have HX1 := Lib.hid (And.intro (HX0.out.1.trans (hb1.mono HX0.out.1.size)) ((hb1.block N (blk_lt HX0.out.2)).trans HX0.out.2)); obtain ⟨c10, c11, c12, c13, c14, c15, c16, c17, c18, c19, c110, c111, c112, c113, c114, c1l⟩ := cells15q HX1.out.2; clear hb1)))
        go_ret
        exact ⟨by rw [← HR.out]; rfl, HX1.out.1⟩
      | true =>
        cases Bnv with
        | false =>
          go_wp2_with
            (first
              | (go_loud (go_at_call 98; refine (HNM.out W0 HX0.out.1).mono ?_; rintro e W1 ⟨rfl, hb1⟩; have HX1 := Lib.hid (And.intro (HX0.out.1.trans (hb1.mono HX0.out.1.size)) ((hb1.block N (blk_lt HX0.out.2)).trans HX0.out.2)); obtain ⟨c10, c11, c12, c13, c14, c15, c16, c17, c18, c19, c110, c111, c112, c113, c114, c1l⟩ := cells15q HX1.out.2; clear hb1))
              | (go_loud (go_at_call 99; refine (HNV.out W1).mono ?_; rintro e W2 ⟨rfl, hb2⟩; have HX2 := Lib.hid (And.intro (HX1.out.1.trans (hb2.mono HX1.out.1.size)) ((hb2.block N (blk_lt HX1.out.2)).trans HX1.out.2)); obtain ⟨c20, c21, c22, c23, c24, c25, c26, c27, c28, c29, c210, c211, c212, c213, c214, c2l⟩ := cells15q HX2.out.2; clear hb2)))
          go_ret
          exact ⟨by rw [← HR.out]; rfl, HX2.out.1⟩
        | true =>
          go_wp2_with
            (first
              | (go_loud (go_at_call 98; refine (HNM.out W0 HX0.out.1).mono ?_; rintro e W1 ⟨rfl, hb1⟩; have HX1 := Lib.hid (And.intro (HX0.out.1.trans (hb1.mono HX0.out.1.size)) ((hb1.block N (blk_lt HX0.out.2)).trans HX0.out.2)); obtain ⟨c10, c11, c12, c13, c14, c15, c16, c17, c18, c19, c110, c111, c112, c113, c114, c1l⟩ := cells15q HX1.out.2; clear hb1))
              | (go_loud (go_at_call 99; refine (HNV.out W1).mono ?_; rintro e W2 ⟨rfl, hb2⟩; have HX2 := Lib.hid (And.intro (HX1.out.1.trans (hb2.mono HX1.out.1.size)) ((hb2.block N (blk_lt HX1.out.2)).trans HX1.out.2)); obtain ⟨c20, c21, c22, c23, c24, c25, c26, c27, c28, c29, c210, c211, c212, c213, c214, c2l⟩ := cells15q HX2.out.2; clear hb2))
              | (go_loud (go_at_call 100; refine (HNU.out W2).mono ?_; rintro e W3 ⟨rfl, hb3⟩; have HX3 := Lib.hid (And.intro (HX2.out.1.trans (hb3.mono HX2.out.1.size)) ((hb3.block N (blk_lt HX2.out.2)).trans HX2.out.2)); obtain ⟨c30, c31, c32, c33, c34, c35, c36, c37, c38, c39, c310, c311, c312, c313, c314, c3l⟩ := cells15q HX3.out.2; clear hb3)))
          go_ret
          exact ⟨by rw [← HR.out]; rfl, HX3.out.1⟩
  have e1 : (k == 1) = false := by simpa using k1
  clear k1
  by_cases k2 : k = 2
  · subst k2
    as_aux_lemma =>
      cases Bst with
      | false =>
        go_wp2_with
          (first
            | (go_loud (go_at_call 101; refine (HST.out W0 HX0.out.1).mono ?_; rintro e W1 ⟨rfl, hb1⟩; have HX1 := Lib.hid (And.intro (HX0.out.1.trans (hb1.mono HX0.out.1.size)) ((hb1.block N (blk_lt HX0.out.2)).trans HX0.out.2)); obtain ⟨c10, c11, c12, c13, c14, c15, c16, c17, c18, c19, c110, c111, c112, c113, c114, c1l⟩ := cells15q HX1.out.2; clear hb1)))
        go_ret
        exact ⟨by rw [← HR.out]; rfl, HX1.out.1⟩
      | true =>
        go_wp2_with
          (first
            | (go_loud (go_at_call 101; refine (HST.out W0 HX0.out.1).mono ?_; rintro e W1 ⟨rfl, hb1⟩; have HX1 := Lib.hid (And.intro (HX0.out.1.trans (hb1.mono HX0.out.1.size)) ((hb1.block N (blk_lt HX0.out.2)).trans HX0.out.2)); obtain ⟨c10, c11, c12, c13, c14, c15, c16, c17, c18, c19, c110, c111, c112, c113, c114, c1l⟩ := cells15q HX1.out.2; clear hb1))
            | (go_loud (go_at_call 100; refine (HNU.out W1).mono ?_; rintro e W2 ⟨rfl, hb2⟩; have HX2 := Lib.hid (And.intro (HX1.out.1.trans (hb2.mono HX1.out.1.size)) ((hb2.block N (blk_lt HX1.out.2)).trans HX1.out.2)); obtain ⟨c20, c21, c22, c23, c24, c25, c26, c27, c28, c29, c210, c211, c212, c213, c214, c2l⟩ := cells15q HX2.out.2; clear hb2)))
        go_ret
        exact ⟨by rw [← HR.out]; rfl, HX2.out.1⟩
  have e2 : (k == 2) = false := by simpa using k2
  clear k2
  by_cases k3 : k = 3
  · subst k3
    as_aux_lemma =>
      cases Bnm with
      | false =>
        go_wp2_with
          (first
            | (go_loud (go_at_call 98; refine (HNM.out W0 HX0.out.1).mono ?_; rintro e W1 ⟨rfl, hb1⟩; have HX1 := Lib.hid (And.intro (HX0.out.1.trans (hb1.mono HX0.out.1.size)) ((hb1.block N (blk_lt HX0.out.2)).trans HX0.out.2)); obtain ⟨c10, c11, c12, c13, c14, c15, c16, c17, c18, c19, c110, c111, c112, c113, c114, c1l⟩ := cells15q HX1.out.2; clear hb1)))
        go_ret
        exact ⟨by rw [← HR.out]; rfl, HX1.out.1⟩
      | true =>
        cases Bnv with
        | false =>
          go_wp2_with
            (first
              | (go_loud (go_at_call 98; refine (HNM.out W0 HX0.out.1).mono ?_; rintro e W1 ⟨rfl, hb1⟩; have HX1 := Lib.hid (And.intro (HX0.out.1.trans (hb1.mono HX0.out.1.size)) ((hb1.block N (blk_lt HX0.out.2)).trans HX0.out.2)); obtain ⟨c10, c11, c12, c13, c14, c15, c16, c17, c18, c19, c110, c111, c112, c113, c114, c1l⟩ := cells15q HX1.out.2; clear hb1))
              | (go_loud (go_at_call 99; refine (HNV.out W1).mono ?_; rintro e W2 ⟨rfl, hb2⟩; have HX2 := Lib.hid (And.intro (HX1.out.1.trans (hb2.mono HX1.out.1.size)) ((hb2.block N (blk_lt HX1.out.2)).trans HX1.out.2)); obtain ⟨c20, c21, c22, c23, c24, c25, c26, c27, c28, c29, c210, c211, c212, c213, c214, c2l⟩ := cells15q HX2.out.2; clear hb2)))
          go_ret
          exact ⟨by rw [← HR.out]; rfl, HX2.out.1⟩
        | true =>
          cases Bnu with
          | true =>
            go_wp2_with
              (first
                | (go_loud (go_at_call 98; refine (HNM.out W0 HX0.out.1).mono ?_; rintro e W1 ⟨rfl, hb1⟩; have HX1 := Lib.hid (And.intro (HX0.out.1.trans (hb1.mono HX0.out.1.size)) ((hb1.block N (blk_lt HX0.out.2)).trans HX0.out.2)); obtain ⟨c10, c11, c12, c13, c14, c15, c16, c17, c18, c19, c110, c111, c112, c113, c114, c1l⟩ := cells15q HX1.out.2; clear hb1))
                | (go_loud (go_at_call 99; refine (HNV.out W1).mono ?_; rintro e W2 ⟨rfl, hb2⟩; have HX2 := Lib.hid (And.intro (HX1.out.1.trans (hb2.mono HX1.out.1.size)) ((hb2.block N (blk_lt HX1.out.2)).trans HX1.out.2)); obtain ⟨c20, c21, c22, c23, c24, c25, c26, c27, c28, c29, c210, c211, c212, c213, c214, c2l⟩ := cells15q HX2.out.2; clear hb2))
                | (go_loud (go_at_call 100; refine (HNU.out W2).mono ?_; rintro e W3 ⟨rfl, hb3⟩; have HX3 := Lib.hid (And.intro (HX2.out.1.trans (hb3.mono HX2.out.1.size)) ((hb3.block N (blk_lt HX2.out.2)).trans HX2.out.2)); obtain ⟨c30, c31, c32, c33, c34, c35, c36, c37, c38, c39, c310, c311, c312, c313, c314, c3l⟩ := cells15q HX3.out.2; clear hb3)))
            go_ret
            exact ⟨by rw [← HR.out]; rfl, HX3.out.1⟩
          | false =>
            go_wp2_with
              (first
                | (go_loud (go_at_call 98; refine (HNM.out W0 HX0.out.1).mono ?_; rintro e W1 ⟨rfl, hb1⟩; have HX1 := Lib.hid (And.intro (HX0.out.1.trans (hb1.mono HX0.out.1.size)) ((hb1.block N (blk_lt HX0.out.2)).trans HX0.out.2)); obtain ⟨c10, c11, c12, c13, c14, c15, c16, c17, c18, c19, c110, c111, c112, c113, c114, c1l⟩ := cells15q HX1.out.2; clear hb1))
                | (go_loud (go_at_call 99; refine (HNV.out W1).mono ?_; rintro e W2 ⟨rfl, hb2⟩; have HX2 := Lib.hid (And.intro (HX1.out.1.trans (hb2.mono HX1.out.1.size)) ((hb2.block N (blk_lt HX1.out.2)).trans HX1.out.2)); obtain ⟨c20, c21, c22, c23, c24, c25, c26, c27, c28, c29, c210, c211, c212, c213, c214, c2l⟩ := cells15q HX2.out.2; clear hb2))
                | (go_loud (go_at_call 100; refine (HNU.out W2).mono ?_; rintro e W3 ⟨rfl, hb3⟩; have HX3 := Lib.hid (And.intro (HX2.out.1.trans (hb3.mono HX2.out.1.size)) ((hb3.block N (blk_lt HX2.out.2)).trans HX2.out.2)); obtain ⟨c30, c31, c32, c33, c34, c35, c36, c37, c38, c39, c310, c311, c312, c313, c314, c3l⟩ := cells15q HX3.out.2; clear hb3))
                | (go_loud (go_at_call 102; refine (HMV.out W3).mono ?_; rintro e W4 ⟨rfl, hb4⟩; have HX4 := Lib.hid (And.intro (HX3.out.1.trans (hb4.mono HX3.out.1.size)) ((hb4.block N (blk_lt HX3.out.2)).trans HX3.out.2)); obtain ⟨c40, c41, c42, c43, c44, c45, c46, c47, c48, c49, c410, c411, c412, c413, c414, c4l⟩ := cells15q HX4.out.2; clear hb4)))
            go_ret
            exact ⟨by rw [← HR.out]; rfl, HX4.out.1⟩
  have e3 : (k == 3) = false := by simpa using k3
  clear k3
  by_cases k4 : k = 4
  · subst k4
    as_aux_lemma =>
      cases Bns with
      | false =>
        go_wp2_with
          (first
            | (go_loud (go_at_call 86; refine (HNS.out W0).mono ?_; rintro e W1 ⟨rfl, hb1⟩; have HX1 := Lib.hid (And.intro (HX0.out.1.trans (hb1.mono HX0.out.1.size)) ((hb1.block N (blk_lt HX0.out.2)).trans HX0.out.2)); obtain ⟨c10, c11, c12, c13, c14, c15, c16, c17, c18, c19, c110, c111, c112, c113, c114, c1l⟩ := cells15q HX1.out.2; clear hb1)))
        go_ret
        exact ⟨by rw [← HR.out]; rfl, HX1.out.1⟩
      | true =>
        cases Bnv with
        | false =>
          go_wp2_with
            (first
              | (go_loud (go_at_call 86; refine (HNS.out W0).mono ?_; rintro e W1 ⟨rfl, hb1⟩; have HX1 := Lib.hid (And.intro (HX0.out.1.trans (hb1.mono HX0.out.1.size)) ((hb1.block N (blk_lt HX0.out.2)).trans HX0.out.2)); obtain ⟨c10, c11, c12, c13, c14, c15, c16, c17, c18, c19, c110, c111, c112, c113, c114, c1l⟩ := cells15q HX1.out.2; clear hb1))
              | (go_loud (go_at_call 99; refine (HNV.out W1).mono ?_; rintro e W2 ⟨rfl, hb2⟩; have HX2 := Lib.hid (And.intro (HX1.out.1.trans (hb2.mono HX1.out.1.size)) ((hb2.block N (blk_lt HX1.out.2)).trans HX1.out.2)); obtain ⟨c20, c21, c22, c23, c24, c25, c26, c27, c28, c29, c210, c211, c212, c213, c214, c2l⟩ := cells15q HX2.out.2; clear hb2)))
          go_ret
          exact ⟨by rw [← HR.out]; rfl, HX2.out.1⟩
        | true =>
          go_wp2_with
            (first
              | (go_loud (go_at_call 86; refine (HNS.out W0).mono ?_; rintro e W1 ⟨rfl, hb1⟩; have HX1 := Lib.hid (And.intro (HX0.out.1.trans (hb1.mono HX0.out.1.size)) ((hb1.block N (blk_lt HX0.out.2)).trans HX0.out.2)); obtain ⟨c10, c11, c12, c13, c14, c15, c16, c17, c18, c19, c110, c111, c112, c113, c114, c1l⟩ := cells15q HX1.out.2; clear hb1))
              | (go_loud (go_at_call 99; refine (HNV.out W1).mono ?_; rintro e W2 ⟨rfl, hb2⟩; have HX2 := Lib.hid (And.intro (HX1.out.1.trans (hb2.mono HX1.out.1.size)) ((hb2.block N (blk_lt HX1.out.2)).trans HX1.out.2)); obtain ⟨c20, c21, c22, c23, c24, c25, c26, c27, c28, c29, c210, c211, c212, c213, c214, c2l⟩ := cells15q HX2.out.2; clear hb2))
              | (go_loud (go_at_call 103; refine (HUN.out W2 HX2.out.1).mono ?_; rintro e W3 ⟨rfl, hb3⟩; have HX3 := Lib.hid (And.intro (HX2.out.1.trans (hb3.mono HX2.out.1.size)) ((hb3.block N (blk_lt HX2.out.2)).trans HX2.out.2)); obtain ⟨c30, c31, c32, c33, c34, c35, c36, c37, c38, c39, c310, c311, c312, c313, c314, c3l⟩ := cells15q HX3.out.2; clear hb3)))
          go_ret
          exact ⟨by rw [← HR.out]; rfl, HX3.out.1⟩
  have e4 : (k == 4) = false := by simpa using k4
  clear k4
  by_cases k5 : k = 5
  · subst k5
    as_aux_lemma =>
      cases Bop with
      | false =>
        go_wp2_with
          (first
            | (go_loud (go_at_call 104; refine (HOP.out W0 HX0.out.1).mono ?_; rintro e W1 ⟨rfl, hb1⟩; have HX1 := Lib.hid (And.intro (HX0.out.1.trans (hb1.mono HX0.out.1.size)) ((hb1.block N (blk_lt HX0.out.2)).trans HX0.out.2)); obtain ⟨c10, c11, c12, c13, c14, c15, c16, c17, c18, c19, c110, c111, c112, c113, c114, c1l⟩ := cells15q HX1.out.2; clear hb1)))
        go_ret
        exact ⟨by rw [← HR.out]; rfl, HX1.out.1⟩
      | true =>
        go_wp2_with
          (first
            | (go_loud (go_at_call 104; refine (HOP.out W0 HX0.out.1).mono ?_; rintro e W1 ⟨rfl, hb1⟩; have HX1 := Lib.hid (And.intro (HX0.out.1.trans (hb1.mono HX0.out.1.size)) ((hb1.block N (blk_lt HX0.out.2)).trans HX0.out.2)); obtain ⟨c10, c11, c12, c13, c14, c15, c16, c17, c18, c19, c110, c111, c112, c113, c114, c1l⟩ := cells15q HX1.out.2; clear hb1))
            | (go_loud (go_at_call 100; refine (HNU.out W1).mono ?_; rintro e W2 ⟨rfl, hb2⟩; have HX2 := Lib.hid (And.intro (HX1.out.1.trans (hb2.mono HX1.out.1.size)) ((hb2.block N (blk_lt HX1.out.2)).trans HX1.out.2)); obtain ⟨c20, c21, c22, c23, c24, c25, c26, c27, c28, c29, c210, c211, c212, c213, c214, c2l⟩ := cells15q HX2.out.2; clear hb2)))
        go_ret
        exact ⟨by rw [← HR.out]; rfl, HX2.out.1⟩
  have e5 : (k == 5) = false := by simpa using k5
  clear k5
  have HF := Lib.hid (show false = R by
    have h := HR.out
    rw [e0, e1, e2, e3, e4, e5] at h
    exact h)
  go_wp2
  go_ret
  exact ⟨by rw [← HF.out]; first | done | rfl, HX0.out.1⟩

end Go.Proofs.YtghkbihgdabamaaGreatDoor
