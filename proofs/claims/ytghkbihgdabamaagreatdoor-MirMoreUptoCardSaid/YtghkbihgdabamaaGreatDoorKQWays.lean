/-
  mir's ways: to how many blocks an end goes. Conditions: the view, its source, its body and the end lie in the heap; types are not too large; an enum that a local is of is there.
-/
import Derived.Test.YtghkbihgdabamaaGreatDoorKQOpens
import Derived.Test.YtghkbihgdabamaaGreatDoorKQNamed
import Derived.Test.YtghkbihgdabamaaGreatDoorKQUseN
namespace Go.Proofs.YtghkbihgdabamaaGreatDoor
open Go.RowKit

def enLen : Option En5 → Int
  | some e => e.vars.length
  | none => 0
def waysR (s : So5) (n : Nat) (b : Bo) (x : Tn) : Int × Bool :=
  cond (x.k == 0) (1, noSpB x.s && (noVaB x.v && noUsB x.u)) (cond (x.k == 1) (2, noSpB x.s && (noVaB x.v && numO (useR s n b x.u)))
    (cond (x.k == 2) (enLen (enV5 s (spotR s n b x.s) x.s.path.length), (enV5 s (spotR s n b x.s) x.s.path.length).isSome && (noVaB x.v && noUsB x.u))
    (cond (x.k == 3) (0, noSpB x.s && (noVaB x.v && numO (useR s n b x.u))) (cond (x.k == 4) (1, noSpB x.s && (noVaB x.v && numO (useR s n b x.u)))
    (cond (x.k == 5) (1, settB (spotR s n b x.s) && (goesB s n b x.v && noUsB x.u)) (cond (x.k == 6) (1, settB (spotR s n b x.s) && (goesB s n b x.v && noUsB x.u))
    (cond (x.k == 7) (1, settB (spotR s n b x.s) && (noVaB x.v && numO (useR s n b x.u))) (0, false))))))))
theorem cells16q {w : World} {v : Nat} {a0 a1 a2 a3 a4 a5 a6 a7 a8 a9 a10 a11 a12 a13 a14 a15 : Value} {T : TypeId} (h : w.heap[v]? = some (.cells #[a0, a1, a2, a3, a4, a5, a6, a7, a8, a9, a10, a11, a12, a13, a14, a15] T)) : w.cell? ⟨v, 0, none⟩ = some a0 ∧ w.cell? ⟨v, 1, none⟩ = some a1 ∧ w.cell? ⟨v, 2, none⟩ = some a2 ∧ w.cell? ⟨v, 2 + 1, none⟩ = some a3 ∧ w.cell? ⟨v, 4, none⟩ = some a4 ∧ w.cell? ⟨v, 4 + 1, none⟩ = some a5 ∧ w.cell? ⟨v, 4 + 2, none⟩ = some a6 ∧ w.cell? ⟨v, 4 + 3, none⟩ = some a7 ∧ w.cell? ⟨v, 4 + 4, none⟩ = some a8 ∧ w.cell? ⟨v, 4 + 5, none⟩ = some a9 ∧ w.cell? ⟨v, 10, none⟩ = some a10 ∧ w.cell? ⟨v, 10 + 1, none⟩ = some a11 ∧ w.cell? ⟨v, 10 + 2, none⟩ = some a12 ∧ w.cell? ⟨v, 10 + 3, none⟩ = some a13 ∧ w.cell? ⟨v, 10 + 4, none⟩ = some a14 ∧ w.cell? ⟨v, 15, none⟩ = some a15 ∧ v < w.heap.size := by
  refine ⟨?_, ?_, ?_, ?_, ?_, ?_, ?_, ?_, ?_, ?_, ?_, ?_, ?_, ?_, ?_, ?_, (Array.getElem?_eq_some_iff.1 h).1⟩ <;> simp [World.cell?, h]
set_option maxRecDepth 100000 in
set_option maxHeartbeats 40000000 in
theorem ways_any (n : Nat) (s : So5) (b : Bo) (v : Nat) (x : Tn) (w : World) (hs : SoH n w s) (hsn : SoN s) (hv : ViewAt w v s b) (hb : BoH n w b) (hx : TnH w x) (hen : EnOk s n b) :
    Calls Tryz.prog 106 #[.pointer (some ⟨v, 0, none⟩), tnV x] w fun e w' => e = .returned (.tuple #[.int .i64 (waysR s n b x).1, .bool (waysR s n b x).2]) ∧ Below w.heap.size w w' := by
  have hns := fun W => isNoSpot_any x.s W
  have hnv := fun W => isNoValue_any x.v W
  have hnu := fun W => isNoUse_any x.u W
  have hun := fun W (h1 : Below w.heap.size w W) => isNumberUse_any n s b v x.u W (SoH.below hs h1) hsn (hv.below h1) (BoH.below hb h1) (UsH.below hx.2.2.2.2.1 h1)
  have hse := fun W (h1 : Below w.heap.size w W) => isSettable_any n s b v x.s W (SoH.below hs h1) hsn (hv.below h1) (BoH.below hb h1) (SpH.below hx.2.2.1 h1)
  have hgo := fun W (h1 : Below w.heap.size w W) => goes_any n s b v x.v W (SoH.below hs h1) hsn (hv.below h1) (BoH.below hb h1) (VaH.below hx.2.2.2.1 h1)
  obtain ⟨Bns, hBns⟩ : ∃ B, noSpB x.s = B := ⟨_, rfl⟩
  obtain ⟨Bnv, hBnv⟩ : ∃ B, noVaB x.v = B := ⟨_, rfl⟩
  obtain ⟨Bnu, hBnu⟩ : ∃ B, noUsB x.u = B := ⟨_, rfl⟩
  obtain ⟨Bun, hBun⟩ : ∃ B, numO (useR s n b x.u) = B := ⟨_, rfl⟩
  obtain ⟨Bse, hBse⟩ : ∃ B, settB (spotR s n b x.s) = B := ⟨_, rfl⟩
  obtain ⟨Bgo, hBgo⟩ : ∃ B, goesB s n b x.v = B := ⟨_, rfl⟩
  simp only [hBns] at hns
  simp only [hBnv] at hnv
  simp only [hBnu] at hnu
  simp only [hBun] at hun
  simp only [hBse] at hse
  simp only [hBgo] at hgo
  have hev := fun W (h1 : Below w.heap.size w W) => enum_any n s b v x.s W (SoH.below hs h1) hsn (hv.below h1) (BoH.below hb h1) (SpH.below hx.2.2.1 h1) (hen x.s)
  obtain ⟨EV, hEV⟩ : ∃ B, enV5 s (spotR s n b x.s) x.s.path.length = B := ⟨_, rfl⟩
  rw [hEV] at hev
  obtain ⟨R, hR⟩ : ∃ R, waysR s n b x = R := ⟨_, rfl⟩
  rw [hR]
  unfold waysR at hR
  simp only [hBns, hBnv, hBnu, hBun, hBse, hBgo, hEV] at hR
  clear hBns hBnv hBnu hBun hBse hBgo hEV
  obtain ⟨k, pos, ⟨loc, ph, path⟩, ⟨vk, vu, vuses, ⟨vloc, vph, vpath⟩, vwhich, vtag⟩, ⟨unum, un, umv, ⟨uloc, uph, upath⟩⟩, th, tos⟩ := x
  obtain ⟨np, hnp⟩ : ∃ n, path.length = n := ⟨_, rfl⟩
  obtain ⟨nv, hnv9⟩ : ∃ n, vuses.length = n := ⟨_, rfl⟩
  obtain ⟨nvp, hnvp⟩ : ∃ n, vpath.length = n := ⟨_, rfl⟩
  obtain ⟨nup, hnup⟩ : ∃ n, upath.length = n := ⟨_, rfl⟩
  obtain ⟨nt, hnt⟩ : ∃ n, tos.length = n := ⟨_, rfl⟩
  dsimp only at hR
  simp only [tnV, tnC, spV, spC, vaV, vaC, usV, usC, List.cons_append, List.nil_append, hnp, hnv9, hnvp, hnup, hnt] at hns hnv hnu hun hse hgo hev ⊢
  have HNS := Lib.hid hns
  have HNV := Lib.hid hnv
  have HNU := Lib.hid hnu
  have HUN := Lib.hid hun
  have HSE := Lib.hid hse
  have HGO := Lib.hid hgo
  have HEV := Lib.hid hev
  have HR := Lib.hid hR
  obtain ⟨W0, hW⟩ : ∃ W, W = w.alloc (.cells #[.int .i64 k, .int .i64 pos, .int .i64 loc, .slice ph.oa np ph.cap, .int .i64 vk, .slice vu.oa nv vu.cap, .int .i64 vloc, .slice vph.oa nvp vph.cap, .int .i64 vwhich, .int .i64 vtag, .bool unum, .int .i64 un, .bool umv, .int .i64 uloc, .slice uph.oa nup uph.cap, .slice th.oa nt th.cap] 57) := ⟨_, rfl⟩
  have hb0 : Below w.heap.size w W0 := by rw [hW]; exact alloc_below _ _
  have hx0 : W0.heap[w.heap.size]? = some (.cells #[.int .i64 k, .int .i64 pos, .int .i64 loc, .slice ph.oa np ph.cap, .int .i64 vk, .slice vu.oa nv vu.cap, .int .i64 vloc, .slice vph.oa nvp vph.cap, .int .i64 vwhich, .int .i64 vtag, .bool unum, .int .i64 un, .bool umv, .int .i64 uloc, .slice uph.oa nup uph.cap, .slice th.oa nt th.cap] 57) := by rw [hW]; exact heap_alloc_new _ _
  obtain ⟨N, hN⟩ : ∃ N, N = w.heap.size := ⟨_, rfl⟩
  rw [← hN] at hx0
  have HX0 := Lib.hid (And.intro hb0 hx0)
  clear hs hsn hv hb hx hen hb0 hx0 hR hns hnv hnu hun hse hgo hnp hnv9 hnvp hnup hnt hev
  go_enter Tryz.func106, Tryz.ntmps106
  go_upto_region 1 with fail
  rw [← hW]
  clear hW
  try simp only [← hN]
  clear hN
  obtain ⟨c00, c01, c02, c03, c04, c05, c06, c07, c08, c09, c010, c011, c012, c013, c014, c015, c0l⟩ := cells16q HX0.out.2
  by_cases k0 : k = 0
  · subst k0
    as_aux_lemma =>
      cases Bns with
      | false =>
        go_wp2_with
          (first
            | (go_loud (go_at_call 86; refine (HNS.out W0).mono ?_; rintro e W1 ⟨rfl, hb1⟩; have HX1 := Lib.hid (And.intro (HX0.out.1.trans (hb1.mono HX0.out.1.size)) ((hb1.block N (blk_lt HX0.out.2)).trans HX0.out.2)); obtain ⟨c10, c11, c12, c13, c14, c15, c16, c17, c18, c19, c110, c111, c112, c113, c114, c115, c1l⟩ := cells16q HX1.out.2; clear hb1)))
        refine bodyPost_ret (v := .tuple #[.int .i64 1, .bool false]) (by simp [results, Tryz.results106, go_sem]) rfl ⟨?_, HX1.out.1⟩
        rw [← HR.out]
        first | rfl | done
      | true =>
        cases Bnv with
        | false =>
          go_wp2_with
            (first
              | (go_loud (go_at_call 86; refine (HNS.out W0).mono ?_; rintro e W1 ⟨rfl, hb1⟩; have HX1 := Lib.hid (And.intro (HX0.out.1.trans (hb1.mono HX0.out.1.size)) ((hb1.block N (blk_lt HX0.out.2)).trans HX0.out.2)); obtain ⟨c10, c11, c12, c13, c14, c15, c16, c17, c18, c19, c110, c111, c112, c113, c114, c115, c1l⟩ := cells16q HX1.out.2; clear hb1))
              | (go_loud (go_at_call 99; refine (HNV.out W1).mono ?_; rintro e W2 ⟨rfl, hb2⟩; have HX2 := Lib.hid (And.intro (HX1.out.1.trans (hb2.mono HX1.out.1.size)) ((hb2.block N (blk_lt HX1.out.2)).trans HX1.out.2)); obtain ⟨c20, c21, c22, c23, c24, c25, c26, c27, c28, c29, c210, c211, c212, c213, c214, c215, c2l⟩ := cells16q HX2.out.2; clear hb2)))
          refine bodyPost_ret (v := .tuple #[.int .i64 1, .bool false]) (by simp [results, Tryz.results106, go_sem]) rfl ⟨?_, HX2.out.1⟩
          rw [← HR.out]
          first | rfl | done
        | true =>
          go_wp2_with
            (first
              | (go_loud (go_at_call 86; refine (HNS.out W0).mono ?_; rintro e W1 ⟨rfl, hb1⟩; have HX1 := Lib.hid (And.intro (HX0.out.1.trans (hb1.mono HX0.out.1.size)) ((hb1.block N (blk_lt HX0.out.2)).trans HX0.out.2)); obtain ⟨c10, c11, c12, c13, c14, c15, c16, c17, c18, c19, c110, c111, c112, c113, c114, c115, c1l⟩ := cells16q HX1.out.2; clear hb1))
              | (go_loud (go_at_call 99; refine (HNV.out W1).mono ?_; rintro e W2 ⟨rfl, hb2⟩; have HX2 := Lib.hid (And.intro (HX1.out.1.trans (hb2.mono HX1.out.1.size)) ((hb2.block N (blk_lt HX1.out.2)).trans HX1.out.2)); obtain ⟨c20, c21, c22, c23, c24, c25, c26, c27, c28, c29, c210, c211, c212, c213, c214, c215, c2l⟩ := cells16q HX2.out.2; clear hb2))
              | (go_loud (go_at_call 100; refine (HNU.out W2).mono ?_; rintro e W3 ⟨rfl, hb3⟩; have HX3 := Lib.hid (And.intro (HX2.out.1.trans (hb3.mono HX2.out.1.size)) ((hb3.block N (blk_lt HX2.out.2)).trans HX2.out.2)); obtain ⟨c30, c31, c32, c33, c34, c35, c36, c37, c38, c39, c310, c311, c312, c313, c314, c315, c3l⟩ := cells16q HX3.out.2; clear hb3)))
          refine bodyPost_ret (v := .tuple #[.int .i64 1, .bool Bnu]) (by simp [results, Tryz.results106, go_sem]) rfl ⟨?_, HX3.out.1⟩
          rw [← HR.out]
          first | rfl | done
  have e0 : (k == 0) = false := by simpa using k0
  clear k0
  by_cases k1 : k = 1
  · subst k1
    as_aux_lemma =>
      cases Bns with
      | false =>
        go_wp2_with
          (first
            | (go_loud (go_at_call 86; refine (HNS.out W0).mono ?_; rintro e W1 ⟨rfl, hb1⟩; have HX1 := Lib.hid (And.intro (HX0.out.1.trans (hb1.mono HX0.out.1.size)) ((hb1.block N (blk_lt HX0.out.2)).trans HX0.out.2)); obtain ⟨c10, c11, c12, c13, c14, c15, c16, c17, c18, c19, c110, c111, c112, c113, c114, c115, c1l⟩ := cells16q HX1.out.2; clear hb1)))
        refine bodyPost_ret (v := .tuple #[.int .i64 2, .bool false]) (by simp [results, Tryz.results106, go_sem]) rfl ⟨?_, HX1.out.1⟩
        rw [← HR.out]
        first | rfl | done
      | true =>
        cases Bnv with
        | false =>
          go_wp2_with
            (first
              | (go_loud (go_at_call 86; refine (HNS.out W0).mono ?_; rintro e W1 ⟨rfl, hb1⟩; have HX1 := Lib.hid (And.intro (HX0.out.1.trans (hb1.mono HX0.out.1.size)) ((hb1.block N (blk_lt HX0.out.2)).trans HX0.out.2)); obtain ⟨c10, c11, c12, c13, c14, c15, c16, c17, c18, c19, c110, c111, c112, c113, c114, c115, c1l⟩ := cells16q HX1.out.2; clear hb1))
              | (go_loud (go_at_call 99; refine (HNV.out W1).mono ?_; rintro e W2 ⟨rfl, hb2⟩; have HX2 := Lib.hid (And.intro (HX1.out.1.trans (hb2.mono HX1.out.1.size)) ((hb2.block N (blk_lt HX1.out.2)).trans HX1.out.2)); obtain ⟨c20, c21, c22, c23, c24, c25, c26, c27, c28, c29, c210, c211, c212, c213, c214, c215, c2l⟩ := cells16q HX2.out.2; clear hb2)))
          refine bodyPost_ret (v := .tuple #[.int .i64 2, .bool false]) (by simp [results, Tryz.results106, go_sem]) rfl ⟨?_, HX2.out.1⟩
          rw [← HR.out]
          first | rfl | done
        | true =>
          go_wp2_with
            (first
              | (go_loud (go_at_call 86; refine (HNS.out W0).mono ?_; rintro e W1 ⟨rfl, hb1⟩; have HX1 := Lib.hid (And.intro (HX0.out.1.trans (hb1.mono HX0.out.1.size)) ((hb1.block N (blk_lt HX0.out.2)).trans HX0.out.2)); obtain ⟨c10, c11, c12, c13, c14, c15, c16, c17, c18, c19, c110, c111, c112, c113, c114, c115, c1l⟩ := cells16q HX1.out.2; clear hb1))
              | (go_loud (go_at_call 99; refine (HNV.out W1).mono ?_; rintro e W2 ⟨rfl, hb2⟩; have HX2 := Lib.hid (And.intro (HX1.out.1.trans (hb2.mono HX1.out.1.size)) ((hb2.block N (blk_lt HX1.out.2)).trans HX1.out.2)); obtain ⟨c20, c21, c22, c23, c24, c25, c26, c27, c28, c29, c210, c211, c212, c213, c214, c215, c2l⟩ := cells16q HX2.out.2; clear hb2))
              | (go_loud (go_at_call 103; refine (HUN.out W2 HX2.out.1).mono ?_; rintro e W3 ⟨rfl, hb3⟩; have HX3 := Lib.hid (And.intro (HX2.out.1.trans (hb3.mono HX2.out.1.size)) ((hb3.block N (blk_lt HX2.out.2)).trans HX2.out.2)); obtain ⟨c30, c31, c32, c33, c34, c35, c36, c37, c38, c39, c310, c311, c312, c313, c314, c315, c3l⟩ := cells16q HX3.out.2; clear hb3)))
          refine bodyPost_ret (v := .tuple #[.int .i64 2, .bool Bun]) (by simp [results, Tryz.results106, go_sem]) rfl ⟨?_, HX3.out.1⟩
          rw [← HR.out]
          first | rfl | done
  have e1 : (k == 1) = false := by simpa using k1
  clear k1
  by_cases k2 : k = 2
  · subst k2
    as_aux_lemma =>
      cases EV with
      | none =>
        go_wp2_with
          (go_loud (go_at_call 126; refine (HEV.out W0 HX0.out.1).mono ?_; rintro e W1 ⟨rfl, hb1⟩; have HX1 := Lib.hid (And.intro (HX0.out.1.trans (hb1.mono HX0.out.1.size)) ((hb1.block N (blk_lt HX0.out.2)).trans HX0.out.2)); obtain ⟨c10, c11, c12, c13, c14, c15, c16, c17, c18, c19, c110, c111, c112, c113, c114, c115, c1l⟩ := cells16q HX1.out.2; clear hb1))
        refine bodyPost_ret (v := .tuple #[.int .i64 0, .bool false]) (by simp [results, Tryz.results106, go_sem]) rfl ⟨?_, HX1.out.1⟩
        rw [← HR.out]
        first | rfl | done
      | some en =>
        obtain ⟨enm, ⟨eo, ec⟩, evs, ep⟩ := en
        obtain ⟨ne, hne⟩ : ∃ n, evs.length = n := ⟨_, rfl⟩
        unfold EnumP at HEV
        simp only [hne] at HEV
        simp only [enLen, hne] at HR
        clear hne
        cases Bnv with
        | false =>
          go_wp2_with
            (first
              | (go_loud (go_at_call 126; refine (HEV.out W0 HX0.out.1).mono ?_; rintro e W1 ⟨rfl, hb1⟩; have HX1 := Lib.hid (And.intro (HX0.out.1.trans (hb1.mono HX0.out.1.size)) ((hb1.block N (blk_lt HX0.out.2)).trans HX0.out.2)); obtain ⟨c10, c11, c12, c13, c14, c15, c16, c17, c18, c19, c110, c111, c112, c113, c114, c115, c1l⟩ := cells16q HX1.out.2; clear hb1))
              | (go_loud (go_at_call 99; refine (HNV.out W1).mono ?_; rintro e W2 ⟨rfl, hb2⟩; have HX2 := Lib.hid (And.intro (HX1.out.1.trans (hb2.mono HX1.out.1.size)) ((hb2.block N (blk_lt HX1.out.2)).trans HX1.out.2)); obtain ⟨c20, c21, c22, c23, c24, c25, c26, c27, c28, c29, c210, c211, c212, c213, c214, c215, c2l⟩ := cells16q HX2.out.2; clear hb2)))
          refine bodyPost_ret (v := .tuple #[.int .i64 (ne : Int), .bool false]) (by simp [results, Tryz.results106, go_sem]) rfl ⟨?_, HX2.out.1⟩
          rw [← HR.out]
          first | rfl | done
        | true =>
          go_wp2_with
            (first
              | (go_loud (go_at_call 126; refine (HEV.out W0 HX0.out.1).mono ?_; rintro e W1 ⟨rfl, hb1⟩; have HX1 := Lib.hid (And.intro (HX0.out.1.trans (hb1.mono HX0.out.1.size)) ((hb1.block N (blk_lt HX0.out.2)).trans HX0.out.2)); obtain ⟨c10, c11, c12, c13, c14, c15, c16, c17, c18, c19, c110, c111, c112, c113, c114, c115, c1l⟩ := cells16q HX1.out.2; clear hb1))
              | (go_loud (go_at_call 99; refine (HNV.out W1).mono ?_; rintro e W2 ⟨rfl, hb2⟩; have HX2 := Lib.hid (And.intro (HX1.out.1.trans (hb2.mono HX1.out.1.size)) ((hb2.block N (blk_lt HX1.out.2)).trans HX1.out.2)); obtain ⟨c20, c21, c22, c23, c24, c25, c26, c27, c28, c29, c210, c211, c212, c213, c214, c215, c2l⟩ := cells16q HX2.out.2; clear hb2))
              | (go_loud (go_at_call 100; refine (HNU.out W2).mono ?_; rintro e W3 ⟨rfl, hb3⟩; have HX3 := Lib.hid (And.intro (HX2.out.1.trans (hb3.mono HX2.out.1.size)) ((hb3.block N (blk_lt HX2.out.2)).trans HX2.out.2)); obtain ⟨c30, c31, c32, c33, c34, c35, c36, c37, c38, c39, c310, c311, c312, c313, c314, c315, c3l⟩ := cells16q HX3.out.2; clear hb3)))
          refine bodyPost_ret (v := .tuple #[.int .i64 (ne : Int), .bool Bnu]) (by simp [results, Tryz.results106, go_sem]) rfl ⟨?_, HX3.out.1⟩
          rw [← HR.out]
          first | rfl | done
  have e2 : (k == 2) = false := by simpa using k2
  clear k2
  by_cases k3 : k = 3
  · subst k3
    as_aux_lemma =>
      cases Bns with
      | false =>
        go_wp2_with
          (first
            | (go_loud (go_at_call 86; refine (HNS.out W0).mono ?_; rintro e W1 ⟨rfl, hb1⟩; have HX1 := Lib.hid (And.intro (HX0.out.1.trans (hb1.mono HX0.out.1.size)) ((hb1.block N (blk_lt HX0.out.2)).trans HX0.out.2)); obtain ⟨c10, c11, c12, c13, c14, c15, c16, c17, c18, c19, c110, c111, c112, c113, c114, c115, c1l⟩ := cells16q HX1.out.2; clear hb1)))
        refine bodyPost_ret (v := .tuple #[.int .i64 0, .bool false]) (by simp [results, Tryz.results106, go_sem]) rfl ⟨?_, HX1.out.1⟩
        rw [← HR.out]
        first | rfl | done
      | true =>
        cases Bnv with
        | false =>
          go_wp2_with
            (first
              | (go_loud (go_at_call 86; refine (HNS.out W0).mono ?_; rintro e W1 ⟨rfl, hb1⟩; have HX1 := Lib.hid (And.intro (HX0.out.1.trans (hb1.mono HX0.out.1.size)) ((hb1.block N (blk_lt HX0.out.2)).trans HX0.out.2)); obtain ⟨c10, c11, c12, c13, c14, c15, c16, c17, c18, c19, c110, c111, c112, c113, c114, c115, c1l⟩ := cells16q HX1.out.2; clear hb1))
              | (go_loud (go_at_call 99; refine (HNV.out W1).mono ?_; rintro e W2 ⟨rfl, hb2⟩; have HX2 := Lib.hid (And.intro (HX1.out.1.trans (hb2.mono HX1.out.1.size)) ((hb2.block N (blk_lt HX1.out.2)).trans HX1.out.2)); obtain ⟨c20, c21, c22, c23, c24, c25, c26, c27, c28, c29, c210, c211, c212, c213, c214, c215, c2l⟩ := cells16q HX2.out.2; clear hb2)))
          refine bodyPost_ret (v := .tuple #[.int .i64 0, .bool false]) (by simp [results, Tryz.results106, go_sem]) rfl ⟨?_, HX2.out.1⟩
          rw [← HR.out]
          first | rfl | done
        | true =>
          go_wp2_with
            (first
              | (go_loud (go_at_call 86; refine (HNS.out W0).mono ?_; rintro e W1 ⟨rfl, hb1⟩; have HX1 := Lib.hid (And.intro (HX0.out.1.trans (hb1.mono HX0.out.1.size)) ((hb1.block N (blk_lt HX0.out.2)).trans HX0.out.2)); obtain ⟨c10, c11, c12, c13, c14, c15, c16, c17, c18, c19, c110, c111, c112, c113, c114, c115, c1l⟩ := cells16q HX1.out.2; clear hb1))
              | (go_loud (go_at_call 99; refine (HNV.out W1).mono ?_; rintro e W2 ⟨rfl, hb2⟩; have HX2 := Lib.hid (And.intro (HX1.out.1.trans (hb2.mono HX1.out.1.size)) ((hb2.block N (blk_lt HX1.out.2)).trans HX1.out.2)); obtain ⟨c20, c21, c22, c23, c24, c25, c26, c27, c28, c29, c210, c211, c212, c213, c214, c215, c2l⟩ := cells16q HX2.out.2; clear hb2))
              | (go_loud (go_at_call 103; refine (HUN.out W2 HX2.out.1).mono ?_; rintro e W3 ⟨rfl, hb3⟩; have HX3 := Lib.hid (And.intro (HX2.out.1.trans (hb3.mono HX2.out.1.size)) ((hb3.block N (blk_lt HX2.out.2)).trans HX2.out.2)); obtain ⟨c30, c31, c32, c33, c34, c35, c36, c37, c38, c39, c310, c311, c312, c313, c314, c315, c3l⟩ := cells16q HX3.out.2; clear hb3)))
          refine bodyPost_ret (v := .tuple #[.int .i64 0, .bool Bun]) (by simp [results, Tryz.results106, go_sem]) rfl ⟨?_, HX3.out.1⟩
          rw [← HR.out]
          first | rfl | done
  have e3 : (k == 3) = false := by simpa using k3
  clear k3
  by_cases k4 : k = 4
  · subst k4
    as_aux_lemma =>
      cases Bns with
      | false =>
        go_wp2_with
          (first
            | (go_loud (go_at_call 86; refine (HNS.out W0).mono ?_; rintro e W1 ⟨rfl, hb1⟩; have HX1 := Lib.hid (And.intro (HX0.out.1.trans (hb1.mono HX0.out.1.size)) ((hb1.block N (blk_lt HX0.out.2)).trans HX0.out.2)); obtain ⟨c10, c11, c12, c13, c14, c15, c16, c17, c18, c19, c110, c111, c112, c113, c114, c115, c1l⟩ := cells16q HX1.out.2; clear hb1)))
        refine bodyPost_ret (v := .tuple #[.int .i64 1, .bool false]) (by simp [results, Tryz.results106, go_sem]) rfl ⟨?_, HX1.out.1⟩
        rw [← HR.out]
        first | rfl | done
      | true =>
        cases Bnv with
        | false =>
          go_wp2_with
            (first
              | (go_loud (go_at_call 86; refine (HNS.out W0).mono ?_; rintro e W1 ⟨rfl, hb1⟩; have HX1 := Lib.hid (And.intro (HX0.out.1.trans (hb1.mono HX0.out.1.size)) ((hb1.block N (blk_lt HX0.out.2)).trans HX0.out.2)); obtain ⟨c10, c11, c12, c13, c14, c15, c16, c17, c18, c19, c110, c111, c112, c113, c114, c115, c1l⟩ := cells16q HX1.out.2; clear hb1))
              | (go_loud (go_at_call 99; refine (HNV.out W1).mono ?_; rintro e W2 ⟨rfl, hb2⟩; have HX2 := Lib.hid (And.intro (HX1.out.1.trans (hb2.mono HX1.out.1.size)) ((hb2.block N (blk_lt HX1.out.2)).trans HX1.out.2)); obtain ⟨c20, c21, c22, c23, c24, c25, c26, c27, c28, c29, c210, c211, c212, c213, c214, c215, c2l⟩ := cells16q HX2.out.2; clear hb2)))
          refine bodyPost_ret (v := .tuple #[.int .i64 1, .bool false]) (by simp [results, Tryz.results106, go_sem]) rfl ⟨?_, HX2.out.1⟩
          rw [← HR.out]
          first | rfl | done
        | true =>
          go_wp2_with
            (first
              | (go_loud (go_at_call 86; refine (HNS.out W0).mono ?_; rintro e W1 ⟨rfl, hb1⟩; have HX1 := Lib.hid (And.intro (HX0.out.1.trans (hb1.mono HX0.out.1.size)) ((hb1.block N (blk_lt HX0.out.2)).trans HX0.out.2)); obtain ⟨c10, c11, c12, c13, c14, c15, c16, c17, c18, c19, c110, c111, c112, c113, c114, c115, c1l⟩ := cells16q HX1.out.2; clear hb1))
              | (go_loud (go_at_call 99; refine (HNV.out W1).mono ?_; rintro e W2 ⟨rfl, hb2⟩; have HX2 := Lib.hid (And.intro (HX1.out.1.trans (hb2.mono HX1.out.1.size)) ((hb2.block N (blk_lt HX1.out.2)).trans HX1.out.2)); obtain ⟨c20, c21, c22, c23, c24, c25, c26, c27, c28, c29, c210, c211, c212, c213, c214, c215, c2l⟩ := cells16q HX2.out.2; clear hb2))
              | (go_loud (go_at_call 103; refine (HUN.out W2 HX2.out.1).mono ?_; rintro e W3 ⟨rfl, hb3⟩; have HX3 := Lib.hid (And.intro (HX2.out.1.trans (hb3.mono HX2.out.1.size)) ((hb3.block N (blk_lt HX2.out.2)).trans HX2.out.2)); obtain ⟨c30, c31, c32, c33, c34, c35, c36, c37, c38, c39, c310, c311, c312, c313, c314, c315, c3l⟩ := cells16q HX3.out.2; clear hb3)))
          refine bodyPost_ret (v := .tuple #[.int .i64 1, .bool Bun]) (by simp [results, Tryz.results106, go_sem]) rfl ⟨?_, HX3.out.1⟩
          rw [← HR.out]
          first | rfl | done
  have e4 : (k == 4) = false := by simpa using k4
  clear k4
  by_cases k5 : k = 5
  · subst k5
    as_aux_lemma =>
      cases Bse with
      | false =>
        go_wp2_with
          (first
            | (go_loud (go_at_call 125; refine (HSE.out W0 HX0.out.1).mono ?_; rintro e W1 ⟨rfl, hb1⟩; have HX1 := Lib.hid (And.intro (HX0.out.1.trans (hb1.mono HX0.out.1.size)) ((hb1.block N (blk_lt HX0.out.2)).trans HX0.out.2)); obtain ⟨c10, c11, c12, c13, c14, c15, c16, c17, c18, c19, c110, c111, c112, c113, c114, c115, c1l⟩ := cells16q HX1.out.2; clear hb1)))
        refine bodyPost_ret (v := .tuple #[.int .i64 1, .bool false]) (by simp [results, Tryz.results106, go_sem]) rfl ⟨?_, HX1.out.1⟩
        rw [← HR.out]
        first | rfl | done
      | true =>
        cases Bgo with
        | false =>
          go_wp2_with
            (first
              | (go_loud (go_at_call 125; refine (HSE.out W0 HX0.out.1).mono ?_; rintro e W1 ⟨rfl, hb1⟩; have HX1 := Lib.hid (And.intro (HX0.out.1.trans (hb1.mono HX0.out.1.size)) ((hb1.block N (blk_lt HX0.out.2)).trans HX0.out.2)); obtain ⟨c10, c11, c12, c13, c14, c15, c16, c17, c18, c19, c110, c111, c112, c113, c114, c115, c1l⟩ := cells16q HX1.out.2; clear hb1))
              | (go_loud (go_at_call 128; refine (HGO.out W1 HX1.out.1).mono ?_; rintro e W2 ⟨rfl, hb2⟩; have HX2 := Lib.hid (And.intro (HX1.out.1.trans (hb2.mono HX1.out.1.size)) ((hb2.block N (blk_lt HX1.out.2)).trans HX1.out.2)); obtain ⟨c20, c21, c22, c23, c24, c25, c26, c27, c28, c29, c210, c211, c212, c213, c214, c215, c2l⟩ := cells16q HX2.out.2; clear hb2)))
          refine bodyPost_ret (v := .tuple #[.int .i64 1, .bool false]) (by simp [results, Tryz.results106, go_sem]) rfl ⟨?_, HX2.out.1⟩
          rw [← HR.out]
          first | rfl | done
        | true =>
          go_wp2_with
            (first
              | (go_loud (go_at_call 125; refine (HSE.out W0 HX0.out.1).mono ?_; rintro e W1 ⟨rfl, hb1⟩; have HX1 := Lib.hid (And.intro (HX0.out.1.trans (hb1.mono HX0.out.1.size)) ((hb1.block N (blk_lt HX0.out.2)).trans HX0.out.2)); obtain ⟨c10, c11, c12, c13, c14, c15, c16, c17, c18, c19, c110, c111, c112, c113, c114, c115, c1l⟩ := cells16q HX1.out.2; clear hb1))
              | (go_loud (go_at_call 128; refine (HGO.out W1 HX1.out.1).mono ?_; rintro e W2 ⟨rfl, hb2⟩; have HX2 := Lib.hid (And.intro (HX1.out.1.trans (hb2.mono HX1.out.1.size)) ((hb2.block N (blk_lt HX1.out.2)).trans HX1.out.2)); obtain ⟨c20, c21, c22, c23, c24, c25, c26, c27, c28, c29, c210, c211, c212, c213, c214, c215, c2l⟩ := cells16q HX2.out.2; clear hb2))
              | (go_loud (go_at_call 100; refine (HNU.out W2).mono ?_; rintro e W3 ⟨rfl, hb3⟩; have HX3 := Lib.hid (And.intro (HX2.out.1.trans (hb3.mono HX2.out.1.size)) ((hb3.block N (blk_lt HX2.out.2)).trans HX2.out.2)); obtain ⟨c30, c31, c32, c33, c34, c35, c36, c37, c38, c39, c310, c311, c312, c313, c314, c315, c3l⟩ := cells16q HX3.out.2; clear hb3)))
          refine bodyPost_ret (v := .tuple #[.int .i64 1, .bool Bnu]) (by simp [results, Tryz.results106, go_sem]) rfl ⟨?_, HX3.out.1⟩
          rw [← HR.out]
          first | rfl | done
  have e5 : (k == 5) = false := by simpa using k5
  clear k5
  by_cases k6 : k = 6
  · subst k6
    as_aux_lemma =>
      cases Bse with
      | false =>
        go_wp2_with
          (first
            | (go_loud (go_at_call 125; refine (HSE.out W0 HX0.out.1).mono ?_; rintro e W1 ⟨rfl, hb1⟩; have HX1 := Lib.hid (And.intro (HX0.out.1.trans (hb1.mono HX0.out.1.size)) ((hb1.block N (blk_lt HX0.out.2)).trans HX0.out.2)); obtain ⟨c10, c11, c12, c13, c14, c15, c16, c17, c18, c19, c110, c111, c112, c113, c114, c115, c1l⟩ := cells16q HX1.out.2; clear hb1)))
        refine bodyPost_ret (v := .tuple #[.int .i64 1, .bool false]) (by simp [results, Tryz.results106, go_sem]) rfl ⟨?_, HX1.out.1⟩
        rw [← HR.out]
        first | rfl | done
      | true =>
        cases Bgo with
        | false =>
          go_wp2_with
            (first
              | (go_loud (go_at_call 125; refine (HSE.out W0 HX0.out.1).mono ?_; rintro e W1 ⟨rfl, hb1⟩; have HX1 := Lib.hid (And.intro (HX0.out.1.trans (hb1.mono HX0.out.1.size)) ((hb1.block N (blk_lt HX0.out.2)).trans HX0.out.2)); obtain ⟨c10, c11, c12, c13, c14, c15, c16, c17, c18, c19, c110, c111, c112, c113, c114, c115, c1l⟩ := cells16q HX1.out.2; clear hb1))
              | (go_loud (go_at_call 128; refine (HGO.out W1 HX1.out.1).mono ?_; rintro e W2 ⟨rfl, hb2⟩; have HX2 := Lib.hid (And.intro (HX1.out.1.trans (hb2.mono HX1.out.1.size)) ((hb2.block N (blk_lt HX1.out.2)).trans HX1.out.2)); obtain ⟨c20, c21, c22, c23, c24, c25, c26, c27, c28, c29, c210, c211, c212, c213, c214, c215, c2l⟩ := cells16q HX2.out.2; clear hb2)))
          refine bodyPost_ret (v := .tuple #[.int .i64 1, .bool false]) (by simp [results, Tryz.results106, go_sem]) rfl ⟨?_, HX2.out.1⟩
          rw [← HR.out]
          first | rfl | done
        | true =>
          go_wp2_with
            (first
              | (go_loud (go_at_call 125; refine (HSE.out W0 HX0.out.1).mono ?_; rintro e W1 ⟨rfl, hb1⟩; have HX1 := Lib.hid (And.intro (HX0.out.1.trans (hb1.mono HX0.out.1.size)) ((hb1.block N (blk_lt HX0.out.2)).trans HX0.out.2)); obtain ⟨c10, c11, c12, c13, c14, c15, c16, c17, c18, c19, c110, c111, c112, c113, c114, c115, c1l⟩ := cells16q HX1.out.2; clear hb1))
              | (go_loud (go_at_call 128; refine (HGO.out W1 HX1.out.1).mono ?_; rintro e W2 ⟨rfl, hb2⟩; have HX2 := Lib.hid (And.intro (HX1.out.1.trans (hb2.mono HX1.out.1.size)) ((hb2.block N (blk_lt HX1.out.2)).trans HX1.out.2)); obtain ⟨c20, c21, c22, c23, c24, c25, c26, c27, c28, c29, c210, c211, c212, c213, c214, c215, c2l⟩ := cells16q HX2.out.2; clear hb2))
              | (go_loud (go_at_call 100; refine (HNU.out W2).mono ?_; rintro e W3 ⟨rfl, hb3⟩; have HX3 := Lib.hid (And.intro (HX2.out.1.trans (hb3.mono HX2.out.1.size)) ((hb3.block N (blk_lt HX2.out.2)).trans HX2.out.2)); obtain ⟨c30, c31, c32, c33, c34, c35, c36, c37, c38, c39, c310, c311, c312, c313, c314, c315, c3l⟩ := cells16q HX3.out.2; clear hb3)))
          refine bodyPost_ret (v := .tuple #[.int .i64 1, .bool Bnu]) (by simp [results, Tryz.results106, go_sem]) rfl ⟨?_, HX3.out.1⟩
          rw [← HR.out]
          first | rfl | done
  have e6 : (k == 6) = false := by simpa using k6
  clear k6
  by_cases k7 : k = 7
  · subst k7
    as_aux_lemma =>
      cases Bse with
      | false =>
        go_wp2_with
          (first
            | (go_loud (go_at_call 125; refine (HSE.out W0 HX0.out.1).mono ?_; rintro e W1 ⟨rfl, hb1⟩; have HX1 := Lib.hid (And.intro (HX0.out.1.trans (hb1.mono HX0.out.1.size)) ((hb1.block N (blk_lt HX0.out.2)).trans HX0.out.2)); obtain ⟨c10, c11, c12, c13, c14, c15, c16, c17, c18, c19, c110, c111, c112, c113, c114, c115, c1l⟩ := cells16q HX1.out.2; clear hb1)))
        refine bodyPost_ret (v := .tuple #[.int .i64 1, .bool false]) (by simp [results, Tryz.results106, go_sem]) rfl ⟨?_, HX1.out.1⟩
        rw [← HR.out]
        first | rfl | done
      | true =>
        cases Bnv with
        | false =>
          go_wp2_with
            (first
              | (go_loud (go_at_call 125; refine (HSE.out W0 HX0.out.1).mono ?_; rintro e W1 ⟨rfl, hb1⟩; have HX1 := Lib.hid (And.intro (HX0.out.1.trans (hb1.mono HX0.out.1.size)) ((hb1.block N (blk_lt HX0.out.2)).trans HX0.out.2)); obtain ⟨c10, c11, c12, c13, c14, c15, c16, c17, c18, c19, c110, c111, c112, c113, c114, c115, c1l⟩ := cells16q HX1.out.2; clear hb1))
              | (go_loud (go_at_call 99; refine (HNV.out W1).mono ?_; rintro e W2 ⟨rfl, hb2⟩; have HX2 := Lib.hid (And.intro (HX1.out.1.trans (hb2.mono HX1.out.1.size)) ((hb2.block N (blk_lt HX1.out.2)).trans HX1.out.2)); obtain ⟨c20, c21, c22, c23, c24, c25, c26, c27, c28, c29, c210, c211, c212, c213, c214, c215, c2l⟩ := cells16q HX2.out.2; clear hb2)))
          refine bodyPost_ret (v := .tuple #[.int .i64 1, .bool false]) (by simp [results, Tryz.results106, go_sem]) rfl ⟨?_, HX2.out.1⟩
          rw [← HR.out]
          first | rfl | done
        | true =>
          go_wp2_with
            (first
              | (go_loud (go_at_call 125; refine (HSE.out W0 HX0.out.1).mono ?_; rintro e W1 ⟨rfl, hb1⟩; have HX1 := Lib.hid (And.intro (HX0.out.1.trans (hb1.mono HX0.out.1.size)) ((hb1.block N (blk_lt HX0.out.2)).trans HX0.out.2)); obtain ⟨c10, c11, c12, c13, c14, c15, c16, c17, c18, c19, c110, c111, c112, c113, c114, c115, c1l⟩ := cells16q HX1.out.2; clear hb1))
              | (go_loud (go_at_call 99; refine (HNV.out W1).mono ?_; rintro e W2 ⟨rfl, hb2⟩; have HX2 := Lib.hid (And.intro (HX1.out.1.trans (hb2.mono HX1.out.1.size)) ((hb2.block N (blk_lt HX1.out.2)).trans HX1.out.2)); obtain ⟨c20, c21, c22, c23, c24, c25, c26, c27, c28, c29, c210, c211, c212, c213, c214, c215, c2l⟩ := cells16q HX2.out.2; clear hb2))
              | (go_loud (go_at_call 103; refine (HUN.out W2 HX2.out.1).mono ?_; rintro e W3 ⟨rfl, hb3⟩; have HX3 := Lib.hid (And.intro (HX2.out.1.trans (hb3.mono HX2.out.1.size)) ((hb3.block N (blk_lt HX2.out.2)).trans HX2.out.2)); obtain ⟨c30, c31, c32, c33, c34, c35, c36, c37, c38, c39, c310, c311, c312, c313, c314, c315, c3l⟩ := cells16q HX3.out.2; clear hb3)))
          refine bodyPost_ret (v := .tuple #[.int .i64 1, .bool Bun]) (by simp [results, Tryz.results106, go_sem]) rfl ⟨?_, HX3.out.1⟩
          rw [← HR.out]
          first | rfl | done
  have e7 : (k == 7) = false := by simpa using k7
  clear k7
  have HF := Lib.hid (show ((0 : Int), false) = R by
    have h := HR.out
    rw [e0, e1, e2, e3, e4, e5, e6, e7] at h
    exact h)
  go_wp2
  refine bodyPost_ret (v := .tuple #[.int .i64 0, .bool false]) (by simp [results, Tryz.results106, go_sem]) rfl ⟨?_, HX0.out.1⟩
  rw [← HF.out]

end Go.Proofs.YtghkbihgdabamaaGreatDoor
