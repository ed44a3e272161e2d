/-
  Statements of one line. Conditions: the reader lies in the heap; what is made and reckoned.
-/
import Derived.Test.YtggdpgaedmegbaaGreatDoorJPIsSet
import Derived.Test.YtggdpgaedmegbaaGreatDoorJPMade
import Derived.Test.YtggdpgaedmegbaaGreatDoorJPStruct
import Derived.Test.YtggdpgaedmegbaaGreatDoorJPStm
import Derived.Deep.RegionHeld3
namespace Go.Proofs.YtggdpgaedmegbaaGreatDoor
open Go.RowKit

set_option maxRecDepth 100000 in
set_option maxHeartbeats 40000000 in
theorem r_plain {w : World} {b g cap : Nat} {ts : List Tok} {i dp : Nat} (H : RdAt w b g cap ts i dp) {n : Nat} (hM : MadeC) (hK : ReckC) :
    Calls Tryz.prog 315 #[.pointer (some ⟨b, 0, none⟩)] w (RPost w b g cap ts i dp (plainR 0 (ts.drop i)) (VSt (n + 63))) := by
  obtain ⟨r, hQ⟩ : ∃ r, plainR 0 (ts.drop i) = r := ⟨_, rfl⟩
  rw [hQ]
  have HQ := Lib.hid hQ
  clear hQ
  have HGB := Lib.hid (And.intro H.toks.1 H.vars.size)
  have HBW := Lib.hid (show b < w.heap.size from (Array.getElem?_eq_some_iff.1 H.at_).1)
  have HJ0 := Lib.hid (Nat.le_refl i)
  obtain ⟨W0, hW⟩ : ∃ W0, W0 = w.alloc (.cells #[.int .i64 0, .int .i64 0, .string ⟨#[]⟩, .int .i64 0, .string ⟨#[]⟩, .slice none 0 0, .string ⟨#[]⟩, .slice none 0 0, .int .i64 0, .slice none 0 0, .string ⟨#[]⟩, .slice none 0 0, .string ⟨#[]⟩, .string ⟨#[]⟩, .bool false, .int .i64 0, .string ⟨#[]⟩, .slice none 0 0, .slice none 0 0, .slice none 0 0, .slice none 0 0] 108) := ⟨_, rfl⟩
  have hbW : Below w.heap.size w W0 := by rw [hW]; exact alloc_below _ _
  have hx0 : W0.heap[w.heap.size]? = some (.cells #[.int .i64 0, .int .i64 0, .string ⟨#[]⟩, .int .i64 0, .string ⟨#[]⟩, .slice none 0 0, .string ⟨#[]⟩, .slice none 0 0, .int .i64 0, .slice none 0 0, .string ⟨#[]⟩, .slice none 0 0, .string ⟨#[]⟩, .string ⟨#[]⟩, .bool false, .int .i64 0, .string ⟨#[]⟩, .slice none 0 0, .slice none 0 0, .slice none 0 0, .slice none 0 0] 108) := by rw [hW, heap_alloc_new]
  have HH0 := Lib.hid (H.under hbW)
  have HK0 := Lib.hid (Kb.of_below (b := b) hbW)
  obtain ⟨B, hB⟩ : ∃ B, B = w.heap.size := ⟨_, rfl⟩
  rw [← hB] at hx0
  have HX0 := Lib.hid hx0
  clear hbW hx0 H
  go_enter Tryz.func315, Tryz.ntmps315
  go_upto_region 1 with fail
  rw [← hW]
  simp only [← hB]
  clear hW
  have HBb := Lib.hid (show B ≠ b ∧ g ≠ B ∧ nG ≤ B ∧ w.heap.size ≤ B by have h1 := HBW.out; have h2 := HGB.out; rw [hB]; exact ⟨by omega, by omega, h2.2, Nat.le_refl _⟩)
  replace hB := Lib.hid hB
  have HM := Lib.hid hM
  have HRk := Lib.hid hK
  clear hM hK
  obtain ⟨t1, ht1, hh, -⟩ := HH0.out.tok
  have htk := takes_any HH0.out ht1 wLet (by decide)
  have HTK := Lib.hid htk
  have HT1 := Lib.hid ht1
  clear htk hh ht1
  by_cases hts : t1.text = wLet
  · have HS := Lib.hid hts
    clear hts
    go_upto_region 2 with (go_at_call 172; refine HTK.out.mono ?_; rintro e W1 ⟨h1, -⟩; obtain ⟨rfl, hk, hrd⟩ := h1 HS.out; have HK1 := Lib.hid (HK0.out.trans hk); have HH1 := Lib.hid hrd; have HJ1 := Lib.hid (Nat.le_succ_of_le HJ0.out); have HX1 := Lib.hid (hk.kept HX0.out HBb.out.1); clear h1 hk hrd HTK)
    have hQ := HQ.out
    unfold plainR at hQ
    rw [opt_yes HH0.out HT1.out HS.out] at hQ
    replace HQ := Lib.hid hQ
    clear hQ HS
    have hc := r_field HH1.out (tyC_all 61)
    have HC := Lib.hid hc
    clear hc
    rcases hr : fieldR (ts.drop (i + 1)) with ⟨a2, l2⟩ | ⟨er, p⟩
    rotate_left
    · have HR := Lib.hid hr
      clear hr
      go_wp2_with (go_at_call 242; refine HC.out.mono ?_; rintro e W2 hp; obtain ⟨he, hk⟩ := hp.no HR.out; unfold faultE at he; subst he; have HK2 := Lib.hid (HK1.out.trans hk); clear hk hp HC)
      exact ⟨rfl, RPost.fault HK2.out (HQ.out.symm.trans (bind_no HR.out))⟩
    have HR := Lib.hid hr
    clear hr
    go_upto_region 3 with
      (first
        | (go_at_call 242; refine HC.out.mono ?_; rintro e W2 hp; obtain ⟨hk, j2, v2, rfl, hl, hj, hrd, hv⟩ := hp.ok HR.out; subst hl; obtain ⟨⟨fn, fk, ft, fh, fl⟩, rfl, rfl, hp⟩ := hv; simp only [fdV, fdC, tyC, List.cons_append, List.nil_append]; have HPf := Lib.hid hp; clear hp; have HK2 := Lib.hid (HK1.out.trans hk); have HKK2 := Lib.hid hk; have HH2 := Lib.hid hrd; have HJ2 := Lib.hid (Nat.le_trans HJ1.out hj); have HX2 := Lib.hid (hk.kept HX1.out HBb.out.1); clear hk hp hrd hj HC)
        | (refine wpList_store_box rfl 56 (.tmp 3) (.tmp 8) rfl W2.heap.size 0 rfl (.agg #[.string fn, .int .i64 fk, .string ft, .slice fh.oa fl.length fh.cap]) rfl [.string fn, .int .i64 fk, .string ft, .slice fh.oa fl.length fh.cap] rfl [.string ⟨#[]⟩, .int .i64 0, .string ⟨#[]⟩, .slice none 0 0] 56 (heap_alloc_new W2 (.cells #[.string ⟨#[]⟩, .int .i64 0, .string ⟨#[]⟩, .slice none 0 0] 56)) (Nat.le_refl _) (show (Tryz.prog.info? 56).map (·.size) = some 4 by kernel_rfl) ?c1 W2.heap.size (Nat.le_refl _) (W2.alloc (.cells #[.string ⟨#[]⟩, .int .i64 0, .string ⟨#[]⟩, .slice none 0 0] 56)) (Below.refl _ _) ?_; rotate_left; intro W3 hb hbx hoth))
    case c1 => first | exact ⟨rfl, rfl, rfl, rfl⟩ | exact rfl | (intro v hv; simp at hv; first | (rcases hv with rfl | rfl | rfl | rfl <;> rfl) | (rcases hv with rfl | rfl | rfl <;> rfl) | (rcases hv with rfl | rfl <;> rfl) | (subst hv; rfl))
    have hQ := HQ.out
    rw [bind_ok HR.out] at hQ
    replace HQ := Lib.hid hQ
    clear hQ HR
    obtain ⟨O, hO⟩ : ∃ O, O = Obj.cells #[.string ⟨#[]⟩, .int .i64 0, .string ⟨#[]⟩, .slice none 0 0] 56 := ⟨_, rfl⟩
    rw [← hO] at hb hoth
    clear hO
    obtain ⟨P, hP⟩ : ∃ P, P = W2.heap.size := ⟨_, rfl⟩
    rw [← hP] at hb hbx hoth
    simp only [← hP]
    have hal := alloc_below W2 O
    rw [← hP] at hal
    have hBP : B < P := by rw [hP]; exact blk_lt HX2.out
    have hbP : b < P := by rw [hP]; exact blk_lt HH2.out.at_
    have hgP : g < P := by rw [hP]; exact HH2.out.toks.1
    have hwP : w.heap.size ≤ P := by rw [hP]; exact HK2.out.size
    have hnP : nG ≤ P := by have := HBb.out.2.2.1; omega
    have HB2 := Lib.hid (hal.trans hb)
    have HP_3 := Lib.hid (show W3.heap[P]? = some (.cells #[.string fn, .int .i64 fk, .string ft, .slice fh.oa fl.length fh.cap] 56) by have h := hbx; rw [splL_all [.string fn, .int .i64 fk, .string ft, .slice fh.oa fl.length fh.cap] [.string ⟨#[]⟩, .int .i64 0, .string ⟨#[]⟩, .slice none 0 0] rfl] at h; exact h)
    have HX3 := Lib.hid ((HB2.out.block B hBP).trans HX2.out)
    have HH3 := Lib.hid (show RdAt W3 b g cap ts j2 dp by have h1 := HH2.out; exact h1.keep (Kb.of_below (hP ▸ HB2.out)) ((HB2.out.block b hbP).trans h1.at_) h1.lt)
    have HK3 := Lib.hid (show Kb b w W3 from HK2.out.trans (Kb.of_below (hP ▸ HB2.out)))
    have HJ3 := Lib.hid HJ2.out
    have HNP := Lib.hid (show P ≠ b ∧ w.heap.size ≤ P ∧ g ≠ P ∧ nG ≤ P ∧ B ≠ P from ⟨by omega, hwP, by omega, hnP, by omega⟩)
    have HU1 := Lib.hid (FdH.und 62 _ _ _ (eb_und (B := W1.heap.size) (B' := W1.heap.size) (og := none) (og' := none) HB2.out.size fun x hx h1 h2 => ⟨h1, h2, HB2.out.block x (by rw [hP]; exact hx)⟩) HPf.out)
    clear hal hb hbx hoth hBP hbP hgP hwP hnP HB2
    replace hP := Lib.hid hP
    have HHd := Lib.hid HH3.out.dr
    have hc := r_isSet HHd.out HM.out HRk.out
    have HC := Lib.hid hc
    clear hc
    rcases hr : isSetR (ts.drop j2) with ⟨a4, l4⟩ | ⟨er, p⟩
    rotate_left
    · have HR := Lib.hid hr
      clear hr
      go_wp2_with fail
      obtain ⟨p0, p1, p2, p3, pf, pl⟩ := cells4p HP_3.out
      refine wp_region_held_drew (S := (fun w' => w'.cell? ⟨P, 0, none⟩ = some (.string fn) ∧ w'.cell? ⟨P, 1, none⟩ = some (.int .i64 fk) ∧ w'.cell? ⟨P, 2, none⟩ = some (.string ft) ∧ w'.cell? ⟨P, 3, none⟩ = some (.slice fh.oa fl.length fh.cap))) (by kernel_rfl) ?_ (fun hHeld => ?_)
      · exact ⟨p0, p1, p2, p3⟩
      clear p0 p1 p2 p3 pf pl
      refine wpAnyH_take (i := 0) (oi := { dst := some 9, op := Op.fieldAddr 56 (Operand.tmp 3) 0, type := 0, pos := "statements.go:67", after := #[], guard := none }) (v := ?vq0) rfl (by kernel_rfl) (by kernel_rfl) (by kernel_rfl) (fun _ _ _ h => h) (Or.inl ⟨by rfl, ?hq0⟩) (by assumption) ?_
      case hq0 => intro w hSw; (try dsimp only at hSw); go_simp; try (with_reducible rfl)
      (try simp only [Act.put, List.setIfInBounds_toArray, List.set_cons_zero, List.set_cons_succ])
      refine wpAnyH_take (i := 1) (oi := { dst := some 10, op := Op.load 9 (Operand.tmp 9), type := 9, pos := "statements.go:67", after := #[{ on := 0, ground := Ground.data }], guard := none }) (v := ?vq1) rfl (by kernel_rfl) (by kernel_rfl) (by kernel_rfl) (fun _ _ _ h => h) (Or.inl ⟨by rfl, ?hq1⟩) (by assumption) ?_
      case hq1 => intro w hSw; (try dsimp only at hSw); go_simp; try (with_reducible rfl)
      (try simp only [Act.put, List.setIfInBounds_toArray, List.set_cons_zero, List.set_cons_succ])
      refine wpAnyH_take (i := 2) (oi := { dst := some 11, op := Op.fieldAddr 56 (Operand.tmp 3) 1, type := 0, pos := "statements.go:67", after := #[], guard := none }) (v := ?vq2) rfl (by kernel_rfl) (by kernel_rfl) (by kernel_rfl) (fun _ _ _ h => h) (Or.inl ⟨by rfl, ?hq2⟩) (by assumption) ?_
      case hq2 => intro w hSw; (try dsimp only at hSw); go_simp; try (with_reducible rfl)
      (try simp only [Act.put, List.setIfInBounds_toArray, List.set_cons_zero, List.set_cons_succ])
      refine wpAnyH_take (i := 3) (oi := { dst := some 12, op := Op.load 51 (Operand.tmp 11), type := 51, pos := "statements.go:67", after := #[{ on := 2, ground := Ground.data }], guard := none }) (v := ?vq3) rfl (by kernel_rfl) (by kernel_rfl) (by kernel_rfl) (fun _ _ _ h => h) (Or.inl ⟨by rfl, ?hq3⟩) (by assumption) ?_
      case hq3 => intro w hSw; (try dsimp only at hSw); go_simp; try (with_reducible rfl)
      (try simp only [Act.put, List.setIfInBounds_toArray, List.set_cons_zero, List.set_cons_succ])
      refine wpAnyH_take (i := 4) (oi := { dst := some 13, op := Op.move (Operand.tmp 0), type := 251, pos := "statements.go:67", after := #[], guard := none }) (v := ?vq4) rfl (by kernel_rfl) (by kernel_rfl) (by kernel_rfl) (fun _ _ _ h => h) (Or.inl ⟨by rfl, ?hq4⟩) (by assumption) ?_
      case hq4 => intro w hSw; (try dsimp only at hSw); go_simp; try (with_reducible rfl)
      (try simp only [Act.put, List.setIfInBounds_toArray, List.set_cons_zero, List.set_cons_succ])
      refine wpAnyH_ready (rs := [5]) (by kernel_rfl) (by simp) ?_
      refine AllReadyH.cons (o := { dst := some 14, op := Op.call { callee := Callee.value (Operand.func 331), args := #[Operand.tmp 13], argTypes := #[251] }, type := 103, pos := "statements.go:67", after := #[{ on := 4, ground := Ground.data }], guard := none }) rfl (fun K hK => ?_) AllReadyH.nil
      go_simp
      go_at_call 331
      refine HC.out.mono ?_
      rintro e W4 hp
      obtain ⟨he, hk⟩ := hp.no HR.out
      unfold faultE at he
      subst he
      exact ⟨rfl, RPost.fault (HK3.out.drew.trans hk) (HQ.out.symm.trans (map_no HR.out))⟩
    have HR := Lib.hid hr
    clear hr
    go_wp2_with fail
    obtain ⟨p0, p1, p2, p3, pf, pl⟩ := cells4p HP_3.out
    refine wp_region_held_drew (S := (fun w' => w'.cell? ⟨P, 0, none⟩ = some (.string fn) ∧ w'.cell? ⟨P, 1, none⟩ = some (.int .i64 fk) ∧ w'.cell? ⟨P, 2, none⟩ = some (.string ft) ∧ w'.cell? ⟨P, 3, none⟩ = some (.slice fh.oa fl.length fh.cap))) (by kernel_rfl) ?_ (fun hHeld => ?_)
    · exact ⟨p0, p1, p2, p3⟩
    clear p0 p1 p2 p3 pf pl
    refine wpAnyH_take (i := 0) (oi := { dst := some 9, op := Op.fieldAddr 56 (Operand.tmp 3) 0, type := 0, pos := "statements.go:67", after := #[], guard := none }) (v := ?vq0) rfl (by kernel_rfl) (by kernel_rfl) (by kernel_rfl) (fun _ _ _ h => h) (Or.inl ⟨by rfl, ?hq0⟩) (by assumption) ?_
    case hq0 => intro w hSw; (try dsimp only at hSw); go_simp; try (with_reducible rfl)
    (try simp only [Act.put, List.setIfInBounds_toArray, List.set_cons_zero, List.set_cons_succ])
    refine wpAnyH_take (i := 1) (oi := { dst := some 10, op := Op.load 9 (Operand.tmp 9), type := 9, pos := "statements.go:67", after := #[{ on := 0, ground := Ground.data }], guard := none }) (v := ?vq1) rfl (by kernel_rfl) (by kernel_rfl) (by kernel_rfl) (fun _ _ _ h => h) (Or.inl ⟨by rfl, ?hq1⟩) (by assumption) ?_
    case hq1 => intro w hSw; (try dsimp only at hSw); go_simp; try (with_reducible rfl)
    (try simp only [Act.put, List.setIfInBounds_toArray, List.set_cons_zero, List.set_cons_succ])
    refine wpAnyH_take (i := 2) (oi := { dst := some 11, op := Op.fieldAddr 56 (Operand.tmp 3) 1, type := 0, pos := "statements.go:67", after := #[], guard := none }) (v := ?vq2) rfl (by kernel_rfl) (by kernel_rfl) (by kernel_rfl) (fun _ _ _ h => h) (Or.inl ⟨by rfl, ?hq2⟩) (by assumption) ?_
    case hq2 => intro w hSw; (try dsimp only at hSw); go_simp; try (with_reducible rfl)
    (try simp only [Act.put, List.setIfInBounds_toArray, List.set_cons_zero, List.set_cons_succ])
    refine wpAnyH_take (i := 3) (oi := { dst := some 12, op := Op.load 51 (Operand.tmp 11), type := 51, pos := "statements.go:67", after := #[{ on := 2, ground := Ground.data }], guard := none }) (v := ?vq3) rfl (by kernel_rfl) (by kernel_rfl) (by kernel_rfl) (fun _ _ _ h => h) (Or.inl ⟨by rfl, ?hq3⟩) (by assumption) ?_
    case hq3 => intro w hSw; (try dsimp only at hSw); go_simp; try (with_reducible rfl)
    (try simp only [Act.put, List.setIfInBounds_toArray, List.set_cons_zero, List.set_cons_succ])
    refine wpAnyH_take (i := 4) (oi := { dst := some 13, op := Op.move (Operand.tmp 0), type := 251, pos := "statements.go:67", after := #[], guard := none }) (v := ?vq4) rfl (by kernel_rfl) (by kernel_rfl) (by kernel_rfl) (fun _ _ _ h => h) (Or.inl ⟨by rfl, ?hq4⟩) (by assumption) ?_
    case hq4 => intro w hSw; (try dsimp only at hSw); go_simp; try (with_reducible rfl)
    (try simp only [Act.put, List.setIfInBounds_toArray, List.set_cons_zero, List.set_cons_succ])
    refine wpAnyH_ready (rs := [5]) (by kernel_rfl) (by simp) ?_
    refine AllReadyH.cons (o := { dst := some 14, op := Op.call { callee := Callee.value (Operand.func 331), args := #[Operand.tmp 13], argTypes := #[251] }, type := 103, pos := "statements.go:67", after := #[{ on := 4, ground := Ground.data }], guard := none }) rfl (fun K hK => ?_) AllReadyH.nil
    go_simp
    go_at_call 331
    refine HC.out.mono ?_
    rintro e W4 hp
    obtain ⟨hk, j4, v4, rfl, hl, hj, hrd, hv⟩ := hp.ok HR.out
    subst hl
    obtain ⟨⟨rk, rh, ro, ⟨rpn, rph, rpp⟩, rn, rv⟩, rfl, rfl, hp⟩ := hv
    simp only [rvV, rvC, plC, List.cons_append, List.nil_append]
    have HP2 := Lib.hid hp
    have HU2 := Lib.hid (FdH.und 62 _ _ _ (((Kb.refl b W3).drew.trans hk).und (B := W1.heap.size) (B' := W1.heap.size) (Nat.lt_of_lt_of_le HBW.out HK1.out.size) (Nat.le_refl _)) HU1.out)
    have HP_4 := Lib.hid (hk.kept (show W3.drew.heap[P]? = some (.cells #[.string fn, .int .i64 fk, .string ft, .slice fh.oa fl.length fh.cap] 56) from HP_3.out) HNP.out.1)
    have HX4 := Lib.hid (hk.kept (show W3.drew.heap[B]? = some (.cells #[.int .i64 0, .int .i64 0, .string ⟨#[]⟩, .int .i64 0, .string ⟨#[]⟩, .slice none 0 0, .string ⟨#[]⟩, .slice none 0 0, .int .i64 0, .slice none 0 0, .string ⟨#[]⟩, .slice none 0 0, .string ⟨#[]⟩, .string ⟨#[]⟩, .bool false, .int .i64 0, .string ⟨#[]⟩, .slice none 0 0, .slice none 0 0, .slice none 0 0, .slice none 0 0] 108) from HX3.out) HBb.out.1)
    have HK4 := Lib.hid (HK3.out.drew.trans hk)
    have HH4 := Lib.hid hrd
    have HJ4 := Lib.hid (Nat.le_trans HJ3.out hj)
    clear hk hp hrd hj HC
    refine hK.out _ _ ?_ (fun hHeld => ?_)
    · obtain ⟨p0, p1, p2, p3, pf, pl⟩ := cells4p HP_4.out
      exact ⟨p0, p1, p2, p3⟩
    clear hK K
    (try simp only [Act.put, List.setIfInBounds_toArray, List.set_cons_zero, List.set_cons_succ])
    refine wpAnyH_take (i := 6) (oi := { dst := some 15, op := Op.build 108 #[(0, Operand.const (Value.int IntKind.i64 0)), (2, Operand.tmp 10), (3, Operand.tmp 12), (5, Operand.tmp 14)], type := 108, pos := "statements.go:67", after := #[{ on := 1, ground := Ground.data }, { on := 3, ground := Ground.data }, { on := 5, ground := Ground.data }], guard := none }) (v := ?vq6) rfl (by kernel_rfl) (by kernel_rfl) (by kernel_rfl) (fun _ _ _ h => h) (Or.inl ⟨by rfl, ?hq6⟩) (by assumption) ?_
    case hq6 => intro w hSw; (try dsimp only at hSw); go_simp; try (with_reducible rfl)
    (try simp only [Act.put, List.setIfInBounds_toArray, List.set_cons_zero, List.set_cons_succ])
    refine wpAnyH_ready (rs := [7]) (by kernel_rfl) (by simp) ?_
    refine AllReadyH.cons (o := { dst := none, op := Op.store 108 (Operand.tmp 2) (Operand.tmp 15), type := 0, pos := "statements.go:67", after := #[{ on := 6, ground := Ground.data }, { on := 5, ground := Ground.chain }, { on := 0, ground := Ground.phase }, { on := 1, ground := Ground.phase }, { on := 2, ground := Ground.phase }, { on := 3, ground := Ground.phase }, { on := 4, ground := Ground.phase }, { on := 5, ground := Ground.phase }, { on := 6, ground := Ground.phase }], guard := none }) rfl (fun K hK => ?_) AllReadyH.nil
    rw [if_pos (by rfl)]
    refine wp_store_box 108 (.tmp 2) (.tmp 15) rfl B 0 rfl (.agg #[.int .i64 0, .int .i64 0, .string fn, .int .i64 fk, .string ft, .slice fh.oa fl.length fh.cap, .string ⟨#[]⟩, .slice none 0 0, .int .i64 rk, .slice rh.oa ro.length rh.cap, .string rpn, .slice rph.oa rpp.length rph.cap, .string rn, .string rv, .bool false, .int .i64 0, .string ⟨#[]⟩, .slice none 0 0, .slice none 0 0, .slice none 0 0, .slice none 0 0]) rfl [.int .i64 0, .int .i64 0, .string fn, .int .i64 fk, .string ft, .slice fh.oa fl.length fh.cap, .string ⟨#[]⟩, .slice none 0 0, .int .i64 rk, .slice rh.oa ro.length rh.cap, .string rpn, .slice rph.oa rpp.length rph.cap, .string rn, .string rv, .bool false, .int .i64 0, .string ⟨#[]⟩, .slice none 0 0, .slice none 0 0, .slice none 0 0, .slice none 0 0] rfl [.int .i64 0, .int .i64 0, .string ⟨#[]⟩, .int .i64 0, .string ⟨#[]⟩, .slice none 0 0, .string ⟨#[]⟩, .slice none 0 0, .int .i64 0, .slice none 0 0, .string ⟨#[]⟩, .slice none 0 0, .string ⟨#[]⟩, .string ⟨#[]⟩, .bool false, .int .i64 0, .string ⟨#[]⟩, .slice none 0 0, .slice none 0 0, .slice none 0 0, .slice none 0 0] 108 HX4.out (Nat.le_refl _) (show (Tryz.prog.info? 108).map (·.size) = some 21 by kernel_rfl) ?c1 B (Nat.le_refl _) W4 (Below.refl _ _) ?_
    case c1 => first | exact ⟨rfl, rfl, rfl, rfl, rfl, rfl, rfl, rfl, rfl, rfl, rfl, rfl, rfl, rfl, rfl, rfl, rfl, rfl, rfl, rfl, rfl⟩ | exact rfl | (intro v hv; simp at hv; first | (rcases hv with rfl | rfl | rfl | rfl | rfl | rfl | rfl | rfl | rfl | rfl | rfl | rfl | rfl | rfl | rfl | rfl | rfl | rfl | rfl | rfl | rfl <;> rfl) | (rcases hv with rfl | rfl | rfl | rfl | rfl | rfl | rfl | rfl | rfl | rfl | rfl | rfl | rfl | rfl | rfl | rfl | rfl | rfl | rfl | rfl <;> rfl) | (rcases hv with rfl | rfl | rfl | rfl | rfl | rfl | rfl | rfl | rfl | rfl | rfl | rfl | rfl | rfl | rfl | rfl | rfl | rfl | rfl <;> rfl) | (rcases hv with rfl | rfl | rfl | rfl | rfl | rfl | rfl | rfl | rfl | rfl | rfl | rfl | rfl | rfl | rfl | rfl | rfl | rfl <;> rfl) | (rcases hv with rfl | rfl | rfl | rfl | rfl | rfl | rfl | rfl | rfl | rfl | rfl | rfl | rfl | rfl | rfl | rfl | rfl <;> rfl) | (rcases hv with rfl | rfl | rfl | rfl | rfl | rfl | rfl | rfl | rfl | rfl | rfl | rfl | rfl | rfl | rfl | rfl <;> rfl) | (rcases hv with rfl | rfl | rfl | rfl | rfl | rfl | rfl | rfl | rfl | rfl | rfl | rfl | rfl | rfl | rfl <;> rfl) | (rcases hv with rfl | rfl | rfl | rfl | rfl | rfl | rfl | rfl | rfl | rfl | rfl | rfl | rfl | rfl <;> rfl) | (rcases hv with rfl | rfl | rfl | rfl | rfl | rfl | rfl | rfl | rfl | rfl | rfl | rfl | rfl <;> rfl) | (rcases hv with rfl | rfl | rfl | rfl | rfl | rfl | rfl | rfl | rfl | rfl | rfl | rfl <;> rfl) | (rcases hv with rfl | rfl | rfl | rfl | rfl | rfl | rfl | rfl | rfl | rfl | rfl <;> rfl) | (rcases hv with rfl | rfl | rfl | rfl | rfl | rfl | rfl | rfl | rfl | rfl <;> rfl) | (rcases hv with rfl | rfl | rfl | rfl | rfl | rfl | rfl | rfl | rfl <;> rfl) | (rcases hv with rfl | rfl | rfl | rfl | rfl | rfl | rfl | rfl <;> rfl) | (rcases hv with rfl | rfl | rfl | rfl | rfl | rfl | rfl <;> rfl) | (rcases hv with rfl | rfl | rfl | rfl | rfl | rfl <;> rfl) | (rcases hv with rfl | rfl | rfl | rfl | rfl <;> rfl) | (rcases hv with rfl | rfl | rfl | rfl <;> rfl) | (rcases hv with rfl | rfl | rfl <;> rfl) | (rcases hv with rfl | rfl <;> rfl) | (subst hv; rfl))
    intro WF hb hbx hoth
    have HF := Lib.hid (And.intro (HK4.out.box HBb.out.2.2.2 hb hoth) (HH4.out.box hb hoth HBb.out.1.symm HBb.out.2.1 HBb.out.2.2.1))
    have HUf := Lib.hid (FdH.und 62 _ _ _ (und_box (B' := w.heap.size) hb hoth (blk_lt HX1.out) HK1.out.size) HU2.out)
    have HUr := Lib.hid (RvH.und _ _ _ (und_box (B := W3.heap.size) (B' := w.heap.size) hb hoth (blk_lt HX3.out) HK3.out.size) HP2.out)
    clear hb
    have HRG := Lib.hid (rangeAt_of_box (w := WF) (b := B) (cs := [.int .i64 0, .int .i64 0, .string fn, .int .i64 fk, .string ft, .slice fh.oa fl.length fh.cap, .string ⟨#[]⟩, .slice none 0 0, .int .i64 rk, .slice rh.oa ro.length rh.cap, .string rpn, .slice rph.oa rpp.length rph.cap, .string rn, .string rv, .bool false, .int .i64 0, .string ⟨#[]⟩, .slice none 0 0, .slice none 0 0, .slice none 0 0, .slice none 0 0]) (t := 108) (by have h := hbx; rw [splL_all [.int .i64 0, .int .i64 0, .string fn, .int .i64 fk, .string ft, .slice fh.oa fl.length fh.cap, .string ⟨#[]⟩, .slice none 0 0, .int .i64 rk, .slice rh.oa ro.length rh.cap, .string rpn, .slice rph.oa rpp.length rph.cap, .string rn, .string rv, .bool false, .int .i64 0, .string ⟨#[]⟩, .slice none 0 0, .slice none 0 0, .slice none 0 0, .slice none 0 0] [.int .i64 0, .int .i64 0, .string ⟨#[]⟩, .int .i64 0, .string ⟨#[]⟩, .slice none 0 0, .string ⟨#[]⟩, .slice none 0 0, .int .i64 0, .slice none 0 0, .string ⟨#[]⟩, .slice none 0 0, .string ⟨#[]⟩, .string ⟨#[]⟩, .bool false, .int .i64 0, .string ⟨#[]⟩, .slice none 0 0, .slice none 0 0, .slice none 0 0, .slice none 0 0] rfl] at h; exact h))
    refine hK.out _ _ ?_ (fun hHeld => ?_)
    · obtain ⟨p0, p1, p2, p3, pf, pl⟩ := cells4p ((hoth P HNP.out.2.2.2.2.symm).trans HP_4.out)
      exact ⟨p0, p1, p2, p3⟩
    clear hK K
    (try simp only [Act.put, List.setIfInBounds_toArray, List.set_cons_zero, List.set_cons_succ])
    refine wpAnyH_done (by kernel_rfl) ?_ _
    go_wp2
    exact bodyPost_ret (v := .agg #[.int .i64 0, .int .i64 0, .string fn, .int .i64 fk, .string ft, .slice fh.oa fl.length fh.cap, .string ⟨#[]⟩, .slice none 0 0, .int .i64 rk, .slice rh.oa ro.length rh.cap, .string rpn, .slice rph.oa rpp.length rph.cap, .string rn, .string rv, .bool false, .int .i64 0, .string ⟨#[]⟩, .slice none 0 0, .slice none 0 0, .slice none 0 0, .slice none 0 0]) (results_one rfl rfl HRG.out Tryz.underlying108 rfl (by kernel_rfl)) rfl (RPost.done HF.out.1 (HQ.out.symm.trans (map_ok HR.out)) HJ4.out HF.out.2 ⟨(.mk 0 0 fn (.mk fk ft fh fl) pl0 ⟨rk, rh, ro, ⟨rpn, rph, rpp⟩, rn, rv⟩ op0 h0 [] h0 [] h0 [] : St5), rfl, rfl, (by unfold StH; exact ⟨(show I64 0 from ⟨by decide, by decide⟩), TyH.le (show 62 ≤ n + 62 by omega) HUf.out, Row.nil _ _ _ _, HUr.out, ⟨(show I64 0 from ⟨by decide, by decide⟩), Row.nil _ _ _ _⟩, Row.nil _ _ _ _, Row.nil _ _ _ _, Row.nil _ _ _ _⟩)⟩)
  · have HS := Lib.hid hts
    clear hts
    go_upto_region 4 with (go_at_call 172; refine HTK.out.mono ?_; rintro e W1 ⟨-, h1⟩; obtain ⟨rfl, hb⟩ := h1 HS.out; have hk := Kb.of_below (b := b) hb; have HK1 := Lib.hid (HK0.out.trans hk); have HH1 := Lib.hid (HH0.out.under hb); have HJ1 := Lib.hid HJ0.out; have HX1 := Lib.hid (hk.kept HX0.out HBb.out.1); clear h1 hk hb HTK)
    have hQ := HQ.out
    unfold plainR at hQ
    rw [opt_no HH0.out HT1.out HS.out] at hQ
    replace HQ := Lib.hid hQ
    clear hQ HS
    obtain ⟨t2, ht2, hh, -⟩ := HH1.out.tok
    have htk := takes_any HH1.out ht2 wYield (by decide)
    have HTK := Lib.hid htk
    have HT2 := Lib.hid ht2
    clear htk hh ht2
    by_cases hts : t2.text = wYield
    · have HS := Lib.hid hts
      clear hts
      go_upto_region 5 with (go_at_call 172; refine HTK.out.mono ?_; rintro e W2 ⟨h1, -⟩; obtain ⟨rfl, hk, hrd⟩ := h1 HS.out; have HK2 := Lib.hid (HK1.out.trans hk); have HH2 := Lib.hid hrd; have HJ2 := Lib.hid (Nat.le_succ_of_le HJ1.out); have HX2 := Lib.hid (hk.kept HX1.out HBb.out.1); clear h1 hk hrd HTK)
      have hQ := HQ.out
      rw [opt_yes HH1.out HT2.out HS.out] at hQ
      replace HQ := Lib.hid hQ
      clear hQ HS
      have hc := r_oper HH2.out
      have HC := Lib.hid hc
      clear hc
      rcases hr : operR (ts.drop (i + 1)) with ⟨a3, l3⟩ | ⟨er, p⟩
      rotate_left
      · have HR := Lib.hid hr
        clear hr
        go_wp2_with (go_at_call 327; refine HC.out.mono ?_; rintro e W3 hp; obtain ⟨he, hk⟩ := hp.no HR.out; unfold faultE at he; subst he; have HK3 := Lib.hid (HK2.out.trans hk); clear hk hp HC)
        exact ⟨rfl, RPost.fault HK3.out (HQ.out.symm.trans (bind_no HR.out))⟩
      have HR := Lib.hid hr
      clear hr
      go_wp2_with
        (first
          | (go_at_call 327; refine HC.out.mono ?_; rintro e W3 hp; obtain ⟨hk, j3, v3, rfl, hl, hj, hrd, hv⟩ := hp.ok HR.out; subst hl; obtain ⟨⟨xb, xi, ⟨xn, xh, xp⟩⟩, rfl, rfl, hp⟩ := hv; simp only [opV, opC, plC, List.cons_append, List.nil_append]; have HP := Lib.hid hp; clear hp; have HK3 := Lib.hid (HK2.out.trans hk); have HKK3 := Lib.hid hk; have HH3 := Lib.hid hrd; have HJ3 := Lib.hid (Nat.le_trans HJ2.out hj); have HX3 := Lib.hid (hk.kept HX2.out HBb.out.1); clear hk hp hrd hj HC)
          | (refine wpList_store_box rfl 108 (.tmp 2) (.tmp 21) rfl B 0 rfl (.agg #[.int .i64 5, .int .i64 0, .string ⟨#[]⟩, .int .i64 0, .string ⟨#[]⟩, .slice none 0 0, .string ⟨#[]⟩, .slice none 0 0, .int .i64 0, .slice none 0 0, .string ⟨#[]⟩, .slice none 0 0, .string ⟨#[]⟩, .string ⟨#[]⟩, .bool xb, .int .i64 xi, .string xn, .slice xh.oa xp.length xh.cap, .slice none 0 0, .slice none 0 0, .slice none 0 0]) rfl [.int .i64 5, .int .i64 0, .string ⟨#[]⟩, .int .i64 0, .string ⟨#[]⟩, .slice none 0 0, .string ⟨#[]⟩, .slice none 0 0, .int .i64 0, .slice none 0 0, .string ⟨#[]⟩, .slice none 0 0, .string ⟨#[]⟩, .string ⟨#[]⟩, .bool xb, .int .i64 xi, .string xn, .slice xh.oa xp.length xh.cap, .slice none 0 0, .slice none 0 0, .slice none 0 0] rfl [.int .i64 0, .int .i64 0, .string ⟨#[]⟩, .int .i64 0, .string ⟨#[]⟩, .slice none 0 0, .string ⟨#[]⟩, .slice none 0 0, .int .i64 0, .slice none 0 0, .string ⟨#[]⟩, .slice none 0 0, .string ⟨#[]⟩, .string ⟨#[]⟩, .bool false, .int .i64 0, .string ⟨#[]⟩, .slice none 0 0, .slice none 0 0, .slice none 0 0, .slice none 0 0] 108 HX3.out (Nat.le_refl _) (show (Tryz.prog.info? 108).map (·.size) = some 21 by kernel_rfl) ?c1 B (Nat.le_refl _) W3 (Below.refl _ _) ?_))
      case c1 => first | exact ⟨rfl, rfl, rfl, rfl, rfl, rfl, rfl, rfl, rfl, rfl, rfl, rfl, rfl, rfl, rfl, rfl, rfl, rfl, rfl, rfl, rfl⟩ | exact rfl | (intro v hv; simp at hv; first | (rcases hv with rfl | rfl | rfl | rfl | rfl | rfl | rfl | rfl | rfl | rfl | rfl | rfl | rfl | rfl | rfl | rfl | rfl | rfl | rfl | rfl | rfl <;> rfl) | (rcases hv with rfl | rfl | rfl | rfl | rfl | rfl | rfl | rfl | rfl | rfl | rfl | rfl | rfl | rfl | rfl | rfl | rfl | rfl | rfl | rfl <;> rfl) | (rcases hv with rfl | rfl | rfl | rfl | rfl | rfl | rfl | rfl | rfl | rfl | rfl | rfl | rfl | rfl | rfl | rfl | rfl | rfl | rfl <;> rfl) | (rcases hv with rfl | rfl | rfl | rfl | rfl | rfl | rfl | rfl | rfl | rfl | rfl | rfl | rfl | rfl | rfl | rfl | rfl | rfl <;> rfl) | (rcases hv with rfl | rfl | rfl | rfl | rfl | rfl | rfl | rfl | rfl | rfl | rfl | rfl | rfl | rfl | rfl | rfl | rfl <;> rfl) | (rcases hv with rfl | rfl | rfl | rfl | rfl | rfl | rfl | rfl | rfl | rfl | rfl | rfl | rfl | rfl | rfl | rfl <;> rfl) | (rcases hv with rfl | rfl | rfl | rfl | rfl | rfl | rfl | rfl | rfl | rfl | rfl | rfl | rfl | rfl | rfl <;> rfl) | (rcases hv with rfl | rfl | rfl | rfl | rfl | rfl | rfl | rfl | rfl | rfl | rfl | rfl | rfl | rfl <;> rfl) | (rcases hv with rfl | rfl | rfl | rfl | rfl | rfl | rfl | rfl | rfl | rfl | rfl | rfl | rfl <;> rfl) | (rcases hv with rfl | rfl | rfl | rfl | rfl | rfl | rfl | rfl | rfl | rfl | rfl | rfl <;> rfl) | (rcases hv with rfl | rfl | rfl | rfl | rfl | rfl | rfl | rfl | rfl | rfl | rfl <;> rfl) | (rcases hv with rfl | rfl | rfl | rfl | rfl | rfl | rfl | rfl | rfl | rfl <;> rfl) | (rcases hv with rfl | rfl | rfl | rfl | rfl | rfl | rfl | rfl | rfl <;> rfl) | (rcases hv with rfl | rfl | rfl | rfl | rfl | rfl | rfl | rfl <;> rfl) | (rcases hv with rfl | rfl | rfl | rfl | rfl | rfl | rfl <;> rfl) | (rcases hv with rfl | rfl | rfl | rfl | rfl | rfl <;> rfl) | (rcases hv with rfl | rfl | rfl | rfl | rfl <;> rfl) | (rcases hv with rfl | rfl | rfl | rfl <;> rfl) | (rcases hv with rfl | rfl | rfl <;> rfl) | (rcases hv with rfl | rfl <;> rfl) | (subst hv; rfl))
      intro WF hb hbx hoth
      have HF := Lib.hid (And.intro (HK3.out.box HBb.out.2.2.2 hb hoth) (HH3.out.box hb hoth HBb.out.1.symm HBb.out.2.1 HBb.out.2.2.1))
      have HU := Lib.hid (OpH.und _ _ _ (und_box (B' := w.heap.size) hb hoth (blk_lt HX2.out) HK2.out.size) HP.out)
      clear hb
      have HRG := Lib.hid (rangeAt_of_box (w := WF) (b := B) (cs := [.int .i64 5, .int .i64 0, .string ⟨#[]⟩, .int .i64 0, .string ⟨#[]⟩, .slice none 0 0, .string ⟨#[]⟩, .slice none 0 0, .int .i64 0, .slice none 0 0, .string ⟨#[]⟩, .slice none 0 0, .string ⟨#[]⟩, .string ⟨#[]⟩, .bool xb, .int .i64 xi, .string xn, .slice xh.oa xp.length xh.cap, .slice none 0 0, .slice none 0 0, .slice none 0 0]) (t := 108) (by have h := hbx; rw [splL_all [.int .i64 5, .int .i64 0, .string ⟨#[]⟩, .int .i64 0, .string ⟨#[]⟩, .slice none 0 0, .string ⟨#[]⟩, .slice none 0 0, .int .i64 0, .slice none 0 0, .string ⟨#[]⟩, .slice none 0 0, .string ⟨#[]⟩, .string ⟨#[]⟩, .bool xb, .int .i64 xi, .string xn, .slice xh.oa xp.length xh.cap, .slice none 0 0, .slice none 0 0, .slice none 0 0] [.int .i64 0, .int .i64 0, .string ⟨#[]⟩, .int .i64 0, .string ⟨#[]⟩, .slice none 0 0, .string ⟨#[]⟩, .slice none 0 0, .int .i64 0, .slice none 0 0, .string ⟨#[]⟩, .slice none 0 0, .string ⟨#[]⟩, .string ⟨#[]⟩, .bool false, .int .i64 0, .string ⟨#[]⟩, .slice none 0 0, .slice none 0 0, .slice none 0 0, .slice none 0 0] rfl] at h; exact h))
      go_wp2
      exact bodyPost_ret (v := .agg #[.int .i64 5, .int .i64 0, .string ⟨#[]⟩, .int .i64 0, .string ⟨#[]⟩, .slice none 0 0, .string ⟨#[]⟩, .slice none 0 0, .int .i64 0, .slice none 0 0, .string ⟨#[]⟩, .slice none 0 0, .string ⟨#[]⟩, .string ⟨#[]⟩, .bool xb, .int .i64 xi, .string xn, .slice xh.oa xp.length xh.cap, .slice none 0 0, .slice none 0 0, .slice none 0 0]) (results_one rfl rfl HRG.out Tryz.underlying108 rfl (by kernel_rfl)) rfl (RPost.done HF.out.1 (HQ.out.symm.trans (map_ok HR.out)) HJ3.out HF.out.2 ⟨(.mk 5 0 nil5 ty0 pl0 rv0 ⟨xb, xi, ⟨xn, xh, xp⟩⟩ h0 [] h0 [] h0 [] : St5), rfl, rfl, (by unfold StH; exact ⟨(show I64 5 from ⟨by decide, by decide⟩), TyH.le (show 1 ≤ n + 62 by omega) ⟨(show I64 0 from ⟨by decide, by decide⟩), Row.nil _ _ _ _⟩, Row.nil _ _ _ _, ⟨(show I64 0 from ⟨by decide, by decide⟩), Row.nil _ _ _ _, Row.nil _ _ _ _⟩, HU.out, Row.nil _ _ _ _, Row.nil _ _ _ _, Row.nil _ _ _ _⟩)⟩)
    · have HS := Lib.hid hts
      clear hts
      go_upto_region 6 with (go_at_call 172; refine HTK.out.mono ?_; rintro e W2 ⟨-, h1⟩; obtain ⟨rfl, hb⟩ := h1 HS.out; have hk := Kb.of_below (b := b) hb; have HK2 := Lib.hid (HK1.out.trans hk); have HH2 := Lib.hid (HH1.out.under hb); have HJ2 := Lib.hid HJ1.out; have HX2 := Lib.hid (hk.kept HX1.out HBb.out.1); clear h1 hk hb HTK)
      have hQ := HQ.out
      rw [opt_no HH1.out HT2.out HS.out] at hQ
      replace HQ := Lib.hid hQ
      clear hQ HS
      obtain ⟨t3, ht3, hh, -⟩ := HH2.out.tok
      have htk := takes_any HH2.out ht3 wReturn (by decide)
      have HTK := Lib.hid htk
      have HT3 := Lib.hid ht3
      clear htk hh ht3
      by_cases hts : t3.text = wReturn
      · have HS := Lib.hid hts
        clear hts
        go_upto_region 7 with (go_at_call 172; refine HTK.out.mono ?_; rintro e W3 ⟨h1, -⟩; obtain ⟨rfl, hk, hrd⟩ := h1 HS.out; have HK3 := Lib.hid (HK2.out.trans hk); have HH3 := Lib.hid hrd; have HJ3 := Lib.hid (Nat.le_succ_of_le HJ2.out); have HX3 := Lib.hid (hk.kept HX2.out HBb.out.1); clear h1 hk hrd HTK)
        have hQ := HQ.out
        rw [opt_yes HH2.out HT3.out HS.out] at hQ
        replace HQ := Lib.hid hQ
        clear hQ HS
        have hc := r_oper HH3.out
        have HC := Lib.hid hc
        clear hc
        rcases hr : operR (ts.drop (i + 1)) with ⟨a4, l4⟩ | ⟨er, p⟩
        rotate_left
        · have HR := Lib.hid hr
          clear hr
          go_wp2_with (go_at_call 327; refine HC.out.mono ?_; rintro e W4 hp; obtain ⟨he, hk⟩ := hp.no HR.out; unfold faultE at he; subst he; have HK4 := Lib.hid (HK3.out.trans hk); clear hk hp HC)
          exact ⟨rfl, RPost.fault HK4.out (HQ.out.symm.trans (bind_no HR.out))⟩
        have HR := Lib.hid hr
        clear hr
        go_wp2_with
          (first
            | (go_at_call 327; refine HC.out.mono ?_; rintro e W4 hp; obtain ⟨hk, j4, v4, rfl, hl, hj, hrd, hv⟩ := hp.ok HR.out; subst hl; obtain ⟨⟨xb, xi, ⟨xn, xh, xp⟩⟩, rfl, rfl, hp⟩ := hv; simp only [opV, opC, plC, List.cons_append, List.nil_append]; have HP := Lib.hid hp; clear hp; have HK4 := Lib.hid (HK3.out.trans hk); have HKK4 := Lib.hid hk; have HH4 := Lib.hid hrd; have HJ4 := Lib.hid (Nat.le_trans HJ3.out hj); have HX4 := Lib.hid (hk.kept HX3.out HBb.out.1); clear hk hp hrd hj HC)
            | (refine wpList_store_box rfl 108 (.tmp 2) (.tmp 27) rfl B 0 rfl (.agg #[.int .i64 6, .int .i64 0, .string ⟨#[]⟩, .int .i64 0, .string ⟨#[]⟩, .slice none 0 0, .string ⟨#[]⟩, .slice none 0 0, .int .i64 0, .slice none 0 0, .string ⟨#[]⟩, .slice none 0 0, .string ⟨#[]⟩, .string ⟨#[]⟩, .bool xb, .int .i64 xi, .string xn, .slice xh.oa xp.length xh.cap, .slice none 0 0, .slice none 0 0, .slice none 0 0]) rfl [.int .i64 6, .int .i64 0, .string ⟨#[]⟩, .int .i64 0, .string ⟨#[]⟩, .slice none 0 0, .string ⟨#[]⟩, .slice none 0 0, .int .i64 0, .slice none 0 0, .string ⟨#[]⟩, .slice none 0 0, .string ⟨#[]⟩, .string ⟨#[]⟩, .bool xb, .int .i64 xi, .string xn, .slice xh.oa xp.length xh.cap, .slice none 0 0, .slice none 0 0, .slice none 0 0] rfl [.int .i64 0, .int .i64 0, .string ⟨#[]⟩, .int .i64 0, .string ⟨#[]⟩, .slice none 0 0, .string ⟨#[]⟩, .slice none 0 0, .int .i64 0, .slice none 0 0, .string ⟨#[]⟩, .slice none 0 0, .string ⟨#[]⟩, .string ⟨#[]⟩, .bool false, .int .i64 0, .string ⟨#[]⟩, .slice none 0 0, .slice none 0 0, .slice none 0 0, .slice none 0 0] 108 HX4.out (Nat.le_refl _) (show (Tryz.prog.info? 108).map (·.size) = some 21 by kernel_rfl) ?c1 B (Nat.le_refl _) W4 (Below.refl _ _) ?_))
        case c1 => first | exact ⟨rfl, rfl, rfl, rfl, rfl, rfl, rfl, rfl, rfl, rfl, rfl, rfl, rfl, rfl, rfl, rfl, rfl, rfl, rfl, rfl, rfl⟩ | exact rfl | (intro v hv; simp at hv; first | (rcases hv with rfl | rfl | rfl | rfl | rfl | rfl | rfl | rfl | rfl | rfl | rfl | rfl | rfl | rfl | rfl | rfl | rfl | rfl | rfl | rfl | rfl <;> rfl) | (rcases hv with rfl | rfl | rfl | rfl | rfl | rfl | rfl | rfl | rfl | rfl | rfl | rfl | rfl | rfl | rfl | rfl | rfl | rfl | rfl | rfl <;> rfl) | (rcases hv with rfl | rfl | rfl | rfl | rfl | rfl | rfl | rfl | rfl | rfl | rfl | rfl | rfl | rfl | rfl | rfl | rfl | rfl | rfl <;> rfl) | (rcases hv with rfl | rfl | rfl | rfl | rfl | rfl | rfl | rfl | rfl | rfl | rfl | rfl | rfl | rfl | rfl | rfl | rfl | rfl <;> rfl) | (rcases hv with rfl | rfl | rfl | rfl | rfl | rfl | rfl | rfl | rfl | rfl | rfl | rfl | rfl | rfl | rfl | rfl | rfl <;> rfl) | (rcases hv with rfl | rfl | rfl | rfl | rfl | rfl | rfl | rfl | rfl | rfl | rfl | rfl | rfl | rfl | rfl | rfl <;> rfl) | (rcases hv with rfl | rfl | rfl | rfl | rfl | rfl | rfl | rfl | rfl | rfl | rfl | rfl | rfl | rfl | rfl <;> rfl) | (rcases hv with rfl | rfl | rfl | rfl | rfl | rfl | rfl | rfl | rfl | rfl | rfl | rfl | rfl | rfl <;> rfl) | (rcases hv with rfl | rfl | rfl | rfl | rfl | rfl | rfl | rfl | rfl | rfl | rfl | rfl | rfl <;> rfl) | (rcases hv with rfl | rfl | rfl | rfl | rfl | rfl | rfl | rfl | rfl | rfl | rfl | rfl <;> rfl) | (rcases hv with rfl | rfl | rfl | rfl | rfl | rfl | rfl | rfl | rfl | rfl | rfl <;> rfl) | (rcases hv with rfl | rfl | rfl | rfl | rfl | rfl | rfl | rfl | rfl | rfl <;> rfl) | (rcases hv with rfl | rfl | rfl | rfl | rfl | rfl | rfl | rfl | rfl <;> rfl) | (rcases hv with rfl | rfl | rfl | rfl | rfl | rfl | rfl | rfl <;> rfl) | (rcases hv with rfl | rfl | rfl | rfl | rfl | rfl | rfl <;> rfl) | (rcases hv with rfl | rfl | rfl | rfl | rfl | rfl <;> rfl) | (rcases hv with rfl | rfl | rfl | rfl | rfl <;> rfl) | (rcases hv with rfl | rfl | rfl | rfl <;> rfl) | (rcases hv with rfl | rfl | rfl <;> rfl) | (rcases hv with rfl | rfl <;> rfl) | (subst hv; rfl))
        intro WF hb hbx hoth
        have HF := Lib.hid (And.intro (HK4.out.box HBb.out.2.2.2 hb hoth) (HH4.out.box hb hoth HBb.out.1.symm HBb.out.2.1 HBb.out.2.2.1))
        have HU := Lib.hid (OpH.und _ _ _ (und_box (B' := w.heap.size) hb hoth (blk_lt HX3.out) HK3.out.size) HP.out)
        clear hb
        have HRG := Lib.hid (rangeAt_of_box (w := WF) (b := B) (cs := [.int .i64 6, .int .i64 0, .string ⟨#[]⟩, .int .i64 0, .string ⟨#[]⟩, .slice none 0 0, .string ⟨#[]⟩, .slice none 0 0, .int .i64 0, .slice none 0 0, .string ⟨#[]⟩, .slice none 0 0, .string ⟨#[]⟩, .string ⟨#[]⟩, .bool xb, .int .i64 xi, .string xn, .slice xh.oa xp.length xh.cap, .slice none 0 0, .slice none 0 0, .slice none 0 0]) (t := 108) (by have h := hbx; rw [splL_all [.int .i64 6, .int .i64 0, .string ⟨#[]⟩, .int .i64 0, .string ⟨#[]⟩, .slice none 0 0, .string ⟨#[]⟩, .slice none 0 0, .int .i64 0, .slice none 0 0, .string ⟨#[]⟩, .slice none 0 0, .string ⟨#[]⟩, .string ⟨#[]⟩, .bool xb, .int .i64 xi, .string xn, .slice xh.oa xp.length xh.cap, .slice none 0 0, .slice none 0 0, .slice none 0 0] [.int .i64 0, .int .i64 0, .string ⟨#[]⟩, .int .i64 0, .string ⟨#[]⟩, .slice none 0 0, .string ⟨#[]⟩, .slice none 0 0, .int .i64 0, .slice none 0 0, .string ⟨#[]⟩, .slice none 0 0, .string ⟨#[]⟩, .string ⟨#[]⟩, .bool false, .int .i64 0, .string ⟨#[]⟩, .slice none 0 0, .slice none 0 0, .slice none 0 0, .slice none 0 0] rfl] at h; exact h))
        go_wp2
        exact bodyPost_ret (v := .agg #[.int .i64 6, .int .i64 0, .string ⟨#[]⟩, .int .i64 0, .string ⟨#[]⟩, .slice none 0 0, .string ⟨#[]⟩, .slice none 0 0, .int .i64 0, .slice none 0 0, .string ⟨#[]⟩, .slice none 0 0, .string ⟨#[]⟩, .string ⟨#[]⟩, .bool xb, .int .i64 xi, .string xn, .slice xh.oa xp.length xh.cap, .slice none 0 0, .slice none 0 0, .slice none 0 0]) (results_one rfl rfl HRG.out Tryz.underlying108 rfl (by kernel_rfl)) rfl (RPost.done HF.out.1 (HQ.out.symm.trans (map_ok HR.out)) HJ4.out HF.out.2 ⟨(.mk 6 0 nil5 ty0 pl0 rv0 ⟨xb, xi, ⟨xn, xh, xp⟩⟩ h0 [] h0 [] h0 [] : St5), rfl, rfl, (by unfold StH; exact ⟨(show I64 6 from ⟨by decide, by decide⟩), TyH.le (show 1 ≤ n + 62 by omega) ⟨(show I64 0 from ⟨by decide, by decide⟩), Row.nil _ _ _ _⟩, Row.nil _ _ _ _, ⟨(show I64 0 from ⟨by decide, by decide⟩), Row.nil _ _ _ _, Row.nil _ _ _ _⟩, HU.out, Row.nil _ _ _ _, Row.nil _ _ _ _, Row.nil _ _ _ _⟩)⟩)
      · have HS := Lib.hid hts
        clear hts
        go_upto_region 8 with (go_at_call 172; refine HTK.out.mono ?_; rintro e W3 ⟨-, h1⟩; obtain ⟨rfl, hb⟩ := h1 HS.out; have hk := Kb.of_below (b := b) hb; have HK3 := Lib.hid (HK2.out.trans hk); have HH3 := Lib.hid (HH2.out.under hb); have HJ3 := Lib.hid HJ2.out; have HX3 := Lib.hid (hk.kept HX2.out HBb.out.1); clear h1 hk hb HTK)
        have hQ := HQ.out
        rw [opt_no HH2.out HT3.out HS.out] at hQ
        replace HQ := Lib.hid hQ
        clear hQ HS
        obtain ⟨t4, ht4, hh, -⟩ := HH3.out.tok
        have htk := takes_any HH3.out ht4 wPrint (by decide)
        have HTK := Lib.hid htk
        have HT4 := Lib.hid ht4
        clear htk hh ht4
        by_cases hts : t4.text = wPrint
        · have HS := Lib.hid hts
          clear hts
          go_upto_region 9 with (go_at_call 172; refine HTK.out.mono ?_; rintro e W4 ⟨h1, -⟩; obtain ⟨rfl, hk, hrd⟩ := h1 HS.out; have HK4 := Lib.hid (HK3.out.trans hk); have HH4 := Lib.hid hrd; have HJ4 := Lib.hid (Nat.le_succ_of_le HJ3.out); have HX4 := Lib.hid (hk.kept HX3.out HBb.out.1); clear h1 hk hrd HTK)
          have hQ := HQ.out
          rw [opt_yes HH3.out HT4.out HS.out] at hQ
          replace HQ := Lib.hid hQ
          clear hQ HS
          have hc := r_oper HH4.out
          have HC := Lib.hid hc
          clear hc
          rcases hr : operR (ts.drop (i + 1)) with ⟨a5, l5⟩ | ⟨er, p⟩
          rotate_left
          · have HR := Lib.hid hr
            clear hr
            go_wp2_with (go_at_call 327; refine HC.out.mono ?_; rintro e W5 hp; obtain ⟨he, hk⟩ := hp.no HR.out; unfold faultE at he; subst he; have HK5 := Lib.hid (HK4.out.trans hk); clear hk hp HC)
            exact ⟨rfl, RPost.fault HK5.out (HQ.out.symm.trans (bind_no HR.out))⟩
          have HR := Lib.hid hr
          clear hr
          go_wp2_with
            (first
              | (go_at_call 327; refine HC.out.mono ?_; rintro e W5 hp; obtain ⟨hk, j5, v5, rfl, hl, hj, hrd, hv⟩ := hp.ok HR.out; subst hl; obtain ⟨⟨xb, xi, ⟨xn, xh, xp⟩⟩, rfl, rfl, hp⟩ := hv; simp only [opV, opC, plC, List.cons_append, List.nil_append]; have HP := Lib.hid hp; clear hp; have HK5 := Lib.hid (HK4.out.trans hk); have HKK5 := Lib.hid hk; have HH5 := Lib.hid hrd; have HJ5 := Lib.hid (Nat.le_trans HJ4.out hj); have HX5 := Lib.hid (hk.kept HX4.out HBb.out.1); clear hk hp hrd hj HC)
              | (refine wpList_store_box rfl 108 (.tmp 2) (.tmp 33) rfl B 0 rfl (.agg #[.int .i64 7, .int .i64 0, .string ⟨#[]⟩, .int .i64 0, .string ⟨#[]⟩, .slice none 0 0, .string ⟨#[]⟩, .slice none 0 0, .int .i64 0, .slice none 0 0, .string ⟨#[]⟩, .slice none 0 0, .string ⟨#[]⟩, .string ⟨#[]⟩, .bool xb, .int .i64 xi, .string xn, .slice xh.oa xp.length xh.cap, .slice none 0 0, .slice none 0 0, .slice none 0 0]) rfl [.int .i64 7, .int .i64 0, .string ⟨#[]⟩, .int .i64 0, .string ⟨#[]⟩, .slice none 0 0, .string ⟨#[]⟩, .slice none 0 0, .int .i64 0, .slice none 0 0, .string ⟨#[]⟩, .slice none 0 0, .string ⟨#[]⟩, .string ⟨#[]⟩, .bool xb, .int .i64 xi, .string xn, .slice xh.oa xp.length xh.cap, .slice none 0 0, .slice none 0 0, .slice none 0 0] rfl [.int .i64 0, .int .i64 0, .string ⟨#[]⟩, .int .i64 0, .string ⟨#[]⟩, .slice none 0 0, .string ⟨#[]⟩, .slice none 0 0, .int .i64 0, .slice none 0 0, .string ⟨#[]⟩, .slice none 0 0, .string ⟨#[]⟩, .string ⟨#[]⟩, .bool false, .int .i64 0, .string ⟨#[]⟩, .slice none 0 0, .slice none 0 0, .slice none 0 0, .slice none 0 0] 108 HX5.out (Nat.le_refl _) (show (Tryz.prog.info? 108).map (·.size) = some 21 by kernel_rfl) ?c1 B (Nat.le_refl _) W5 (Below.refl _ _) ?_))
          case c1 => first | exact ⟨rfl, rfl, rfl, rfl, rfl, rfl, rfl, rfl, rfl, rfl, rfl, rfl, rfl, rfl, rfl, rfl, rfl, rfl, rfl, rfl, rfl⟩ | exact rfl | (intro v hv; simp at hv; first | (rcases hv with rfl | rfl | rfl | rfl | rfl | rfl | rfl | rfl | rfl | rfl | rfl | rfl | rfl | rfl | rfl | rfl | rfl | rfl | rfl | rfl | rfl <;> rfl) | (rcases hv with rfl | rfl | rfl | rfl | rfl | rfl | rfl | rfl | rfl | rfl | rfl | rfl | rfl | rfl | rfl | rfl | rfl | rfl | rfl | rfl <;> rfl) | (rcases hv with rfl | rfl | rfl | rfl | rfl | rfl | rfl | rfl | rfl | rfl | rfl | rfl | rfl | rfl | rfl | rfl | rfl | rfl | rfl <;> rfl) | (rcases hv with rfl | rfl | rfl | rfl | rfl | rfl | rfl | rfl | rfl | rfl | rfl | rfl | rfl | rfl | rfl | rfl | rfl | rfl <;> rfl) | (rcases hv with rfl | rfl | rfl | rfl | rfl | rfl | rfl | rfl | rfl | rfl | rfl | rfl | rfl | rfl | rfl | rfl | rfl <;> rfl) | (rcases hv with rfl | rfl | rfl | rfl | rfl | rfl | rfl | rfl | rfl | rfl | rfl | rfl | rfl | rfl | rfl | rfl <;> rfl) | (rcases hv with rfl | rfl | rfl | rfl | rfl | rfl | rfl | rfl | rfl | rfl | rfl | rfl | rfl | rfl | rfl <;> rfl) | (rcases hv with rfl | rfl | rfl | rfl | rfl | rfl | rfl | rfl | rfl | rfl | rfl | rfl | rfl | rfl <;> rfl) | (rcases hv with rfl | rfl | rfl | rfl | rfl | rfl | rfl | rfl | rfl | rfl | rfl | rfl | rfl <;> rfl) | (rcases hv with rfl | rfl | rfl | rfl | rfl | rfl | rfl | rfl | rfl | rfl | rfl | rfl <;> rfl) | (rcases hv with rfl | rfl | rfl | rfl | rfl | rfl | rfl | rfl | rfl | rfl | rfl <;> rfl) | (rcases hv with rfl | rfl | rfl | rfl | rfl | rfl | rfl | rfl | rfl | rfl <;> rfl) | (rcases hv with rfl | rfl | rfl | rfl | rfl | rfl | rfl | rfl | rfl <;> rfl) | (rcases hv with rfl | rfl | rfl | rfl | rfl | rfl | rfl | rfl <;> rfl) | (rcases hv with rfl | rfl | rfl | rfl | rfl | rfl | rfl <;> rfl) | (rcases hv with rfl | rfl | rfl | rfl | rfl | rfl <;> rfl) | (rcases hv with rfl | rfl | rfl | rfl | rfl <;> rfl) | (rcases hv with rfl | rfl | rfl | rfl <;> rfl) | (rcases hv with rfl | rfl | rfl <;> rfl) | (rcases hv with rfl | rfl <;> rfl) | (subst hv; rfl))
          intro WF hb hbx hoth
          have HF := Lib.hid (And.intro (HK5.out.box HBb.out.2.2.2 hb hoth) (HH5.out.box hb hoth HBb.out.1.symm HBb.out.2.1 HBb.out.2.2.1))
          have HU := Lib.hid (OpH.und _ _ _ (und_box (B' := w.heap.size) hb hoth (blk_lt HX4.out) HK4.out.size) HP.out)
          clear hb
          have HRG := Lib.hid (rangeAt_of_box (w := WF) (b := B) (cs := [.int .i64 7, .int .i64 0, .string ⟨#[]⟩, .int .i64 0, .string ⟨#[]⟩, .slice none 0 0, .string ⟨#[]⟩, .slice none 0 0, .int .i64 0, .slice none 0 0, .string ⟨#[]⟩, .slice none 0 0, .string ⟨#[]⟩, .string ⟨#[]⟩, .bool xb, .int .i64 xi, .string xn, .slice xh.oa xp.length xh.cap, .slice none 0 0, .slice none 0 0, .slice none 0 0]) (t := 108) (by have h := hbx; rw [splL_all [.int .i64 7, .int .i64 0, .string ⟨#[]⟩, .int .i64 0, .string ⟨#[]⟩, .slice none 0 0, .string ⟨#[]⟩, .slice none 0 0, .int .i64 0, .slice none 0 0, .string ⟨#[]⟩, .slice none 0 0, .string ⟨#[]⟩, .string ⟨#[]⟩, .bool xb, .int .i64 xi, .string xn, .slice xh.oa xp.length xh.cap, .slice none 0 0, .slice none 0 0, .slice none 0 0] [.int .i64 0, .int .i64 0, .string ⟨#[]⟩, .int .i64 0, .string ⟨#[]⟩, .slice none 0 0, .string ⟨#[]⟩, .slice none 0 0, .int .i64 0, .slice none 0 0, .string ⟨#[]⟩, .slice none 0 0, .string ⟨#[]⟩, .string ⟨#[]⟩, .bool false, .int .i64 0, .string ⟨#[]⟩, .slice none 0 0, .slice none 0 0, .slice none 0 0, .slice none 0 0] rfl] at h; exact h))
          go_wp2
          exact bodyPost_ret (v := .agg #[.int .i64 7, .int .i64 0, .string ⟨#[]⟩, .int .i64 0, .string ⟨#[]⟩, .slice none 0 0, .string ⟨#[]⟩, .slice none 0 0, .int .i64 0, .slice none 0 0, .string ⟨#[]⟩, .slice none 0 0, .string ⟨#[]⟩, .string ⟨#[]⟩, .bool xb, .int .i64 xi, .string xn, .slice xh.oa xp.length xh.cap, .slice none 0 0, .slice none 0 0, .slice none 0 0]) (results_one rfl rfl HRG.out Tryz.underlying108 rfl (by kernel_rfl)) rfl (RPost.done HF.out.1 (HQ.out.symm.trans (map_ok HR.out)) HJ5.out HF.out.2 ⟨(.mk 7 0 nil5 ty0 pl0 rv0 ⟨xb, xi, ⟨xn, xh, xp⟩⟩ h0 [] h0 [] h0 [] : St5), rfl, rfl, (by unfold StH; exact ⟨(show I64 7 from ⟨by decide, by decide⟩), TyH.le (show 1 ≤ n + 62 by omega) ⟨(show I64 0 from ⟨by decide, by decide⟩), Row.nil _ _ _ _⟩, Row.nil _ _ _ _, ⟨(show I64 0 from ⟨by decide, by decide⟩), Row.nil _ _ _ _, Row.nil _ _ _ _⟩, HU.out, Row.nil _ _ _ _, Row.nil _ _ _ _, Row.nil _ _ _ _⟩)⟩)
        · have HS := Lib.hid hts
          clear hts
          go_upto_region 10 with (go_at_call 172; refine HTK.out.mono ?_; rintro e W4 ⟨-, h1⟩; obtain ⟨rfl, hb⟩ := h1 HS.out; have hk := Kb.of_below (b := b) hb; have HK4 := Lib.hid (HK3.out.trans hk); have HH4 := Lib.hid (HH3.out.under hb); have HJ4 := Lib.hid HJ3.out; have HX4 := Lib.hid (hk.kept HX3.out HBb.out.1); clear h1 hk hb HTK)
          have hQ := HQ.out
          rw [opt_no HH3.out HT4.out HS.out] at hQ
          replace HQ := Lib.hid hQ
          clear hQ HS
          obtain ⟨t5, ht5, hh, -⟩ := HH4.out.tok
          have htk := takes_any HH4.out ht5 wDrop (by decide)
          have HTK := Lib.hid htk
          have HT5 := Lib.hid ht5
          clear htk hh ht5
          by_cases hts : t5.text = wDrop
          · have HS := Lib.hid hts
            clear hts
            go_upto_region 11 with (go_at_call 172; refine HTK.out.mono ?_; rintro e W5 ⟨h1, -⟩; obtain ⟨rfl, hk, hrd⟩ := h1 HS.out; have HK5 := Lib.hid (HK4.out.trans hk); have HH5 := Lib.hid hrd; have HJ5 := Lib.hid (Nat.le_succ_of_le HJ4.out); have HX5 := Lib.hid (hk.kept HX4.out HBb.out.1); clear h1 hk hrd HTK)
            have hQ := HQ.out
            rw [opt_yes HH4.out HT5.out HS.out] at hQ
            replace HQ := Lib.hid hQ
            clear hQ HS
            have hc := r_alone HH5.out
            have HC := Lib.hid hc
            clear hc
            rcases hr : aloneR (ts.drop (i + 1)) with ⟨a6, l6⟩ | ⟨er, p⟩
            rotate_left
            · have HR := Lib.hid hr
              clear hr
              go_wp2_with (go_at_call 328; refine HC.out.mono ?_; rintro e W6 hp; obtain ⟨he, hk⟩ := hp.no HR.out; unfold faultE at he; subst he; have HK6 := Lib.hid (HK5.out.trans hk); clear hk hp HC)
              exact ⟨rfl, RPost.fault HK6.out (HQ.out.symm.trans (bind_no HR.out))⟩
            have HR := Lib.hid hr
            clear hr
            go_wp2_with
              (first
                | (go_at_call 328; refine HC.out.mono ?_; rintro e W6 hp; obtain ⟨hk, j6, v6, rfl, hl, hj, hrd, hv⟩ := hp.ok HR.out; subst hl; obtain ⟨⟨xn, xh, xp⟩, rfl, rfl, hp⟩ := hv; simp only [plV, plC]; have HP := Lib.hid hp; clear hp; have HK6 := Lib.hid (HK5.out.trans hk); have HKK6 := Lib.hid hk; have HH6 := Lib.hid hrd; have HJ6 := Lib.hid (Nat.le_trans HJ5.out hj); have HX6 := Lib.hid (hk.kept HX5.out HBb.out.1); clear hk hp hrd hj HC)
                | (refine wpList_store_box rfl 108 (.tmp 2) (.tmp 39) rfl B 0 rfl (.agg #[.int .i64 8, .int .i64 0, .string ⟨#[]⟩, .int .i64 0, .string ⟨#[]⟩, .slice none 0 0, .string xn, .slice xh.oa xp.length xh.cap, .int .i64 0, .slice none 0 0, .string ⟨#[]⟩, .slice none 0 0, .string ⟨#[]⟩, .string ⟨#[]⟩, .bool false, .int .i64 0, .string ⟨#[]⟩, .slice none 0 0, .slice none 0 0, .slice none 0 0, .slice none 0 0]) rfl [.int .i64 8, .int .i64 0, .string ⟨#[]⟩, .int .i64 0, .string ⟨#[]⟩, .slice none 0 0, .string xn, .slice xh.oa xp.length xh.cap, .int .i64 0, .slice none 0 0, .string ⟨#[]⟩, .slice none 0 0, .string ⟨#[]⟩, .string ⟨#[]⟩, .bool false, .int .i64 0, .string ⟨#[]⟩, .slice none 0 0, .slice none 0 0, .slice none 0 0, .slice none 0 0] rfl [.int .i64 0, .int .i64 0, .string ⟨#[]⟩, .int .i64 0, .string ⟨#[]⟩, .slice none 0 0, .string ⟨#[]⟩, .slice none 0 0, .int .i64 0, .slice none 0 0, .string ⟨#[]⟩, .slice none 0 0, .string ⟨#[]⟩, .string ⟨#[]⟩, .bool false, .int .i64 0, .string ⟨#[]⟩, .slice none 0 0, .slice none 0 0, .slice none 0 0, .slice none 0 0] 108 HX6.out (Nat.le_refl _) (show (Tryz.prog.info? 108).map (·.size) = some 21 by kernel_rfl) ?c1 B (Nat.le_refl _) W6 (Below.refl _ _) ?_))
            case c1 => first | exact ⟨rfl, rfl, rfl, rfl, rfl, rfl, rfl, rfl, rfl, rfl, rfl, rfl, rfl, rfl, rfl, rfl, rfl, rfl, rfl, rfl, rfl⟩ | exact rfl | (intro v hv; simp at hv; first | (rcases hv with rfl | rfl | rfl | rfl | rfl | rfl | rfl | rfl | rfl | rfl | rfl | rfl | rfl | rfl | rfl | rfl | rfl | rfl | rfl | rfl | rfl <;> rfl) | (rcases hv with rfl | rfl | rfl | rfl | rfl | rfl | rfl | rfl | rfl | rfl | rfl | rfl | rfl | rfl | rfl | rfl | rfl | rfl | rfl | rfl <;> rfl) | (rcases hv with rfl | rfl | rfl | rfl | rfl | rfl | rfl | rfl | rfl | rfl | rfl | rfl | rfl | rfl | rfl | rfl | rfl | rfl | rfl <;> rfl) | (rcases hv with rfl | rfl | rfl | rfl | rfl | rfl | rfl | rfl | rfl | rfl | rfl | rfl | rfl | rfl | rfl | rfl | rfl | rfl <;> rfl) | (rcases hv with rfl | rfl | rfl | rfl | rfl | rfl | rfl | rfl | rfl | rfl | rfl | rfl | rfl | rfl | rfl | rfl | rfl <;> rfl) | (rcases hv with rfl | rfl | rfl | rfl | rfl | rfl | rfl | rfl | rfl | rfl | rfl | rfl | rfl | rfl | rfl | rfl <;> rfl) | (rcases hv with rfl | rfl | rfl | rfl | rfl | rfl | rfl | rfl | rfl | rfl | rfl | rfl | rfl | rfl | rfl <;> rfl) | (rcases hv with rfl | rfl | rfl | rfl | rfl | rfl | rfl | rfl | rfl | rfl | rfl | rfl | rfl | rfl <;> rfl) | (rcases hv with rfl | rfl | rfl | rfl | rfl | rfl | rfl | rfl | rfl | rfl | rfl | rfl | rfl <;> rfl) | (rcases hv with rfl | rfl | rfl | rfl | rfl | rfl | rfl | rfl | rfl | rfl | rfl | rfl <;> rfl) | (rcases hv with rfl | rfl | rfl | rfl | rfl | rfl | rfl | rfl | rfl | rfl | rfl <;> rfl) | (rcases hv with rfl | rfl | rfl | rfl | rfl | rfl | rfl | rfl | rfl | rfl <;> rfl) | (rcases hv with rfl | rfl | rfl | rfl | rfl | rfl | rfl | rfl | rfl <;> rfl) | (rcases hv with rfl | rfl | rfl | rfl | rfl | rfl | rfl | rfl <;> rfl) | (rcases hv with rfl | rfl | rfl | rfl | rfl | rfl | rfl <;> rfl) | (rcases hv with rfl | rfl | rfl | rfl | rfl | rfl <;> rfl) | (rcases hv with rfl | rfl | rfl | rfl | rfl <;> rfl) | (rcases hv with rfl | rfl | rfl | rfl <;> rfl) | (rcases hv with rfl | rfl | rfl <;> rfl) | (rcases hv with rfl | rfl <;> rfl) | (subst hv; rfl))
            intro WF hb hbx hoth
            have HF := Lib.hid (And.intro (HK6.out.box HBb.out.2.2.2 hb hoth) (HH6.out.box hb hoth HBb.out.1.symm HBb.out.2.1 HBb.out.2.2.1))
            have HU := Lib.hid (PlH.und _ _ _ (und_box (B' := w.heap.size) hb hoth (blk_lt HX5.out) HK5.out.size) HP.out)
            clear hb
            have HRG := Lib.hid (rangeAt_of_box (w := WF) (b := B) (cs := [.int .i64 8, .int .i64 0, .string ⟨#[]⟩, .int .i64 0, .string ⟨#[]⟩, .slice none 0 0, .string xn, .slice xh.oa xp.length xh.cap, .int .i64 0, .slice none 0 0, .string ⟨#[]⟩, .slice none 0 0, .string ⟨#[]⟩, .string ⟨#[]⟩, .bool false, .int .i64 0, .string ⟨#[]⟩, .slice none 0 0, .slice none 0 0, .slice none 0 0, .slice none 0 0]) (t := 108) (by have h := hbx; rw [splL_all [.int .i64 8, .int .i64 0, .string ⟨#[]⟩, .int .i64 0, .string ⟨#[]⟩, .slice none 0 0, .string xn, .slice xh.oa xp.length xh.cap, .int .i64 0, .slice none 0 0, .string ⟨#[]⟩, .slice none 0 0, .string ⟨#[]⟩, .string ⟨#[]⟩, .bool false, .int .i64 0, .string ⟨#[]⟩, .slice none 0 0, .slice none 0 0, .slice none 0 0, .slice none 0 0] [.int .i64 0, .int .i64 0, .string ⟨#[]⟩, .int .i64 0, .string ⟨#[]⟩, .slice none 0 0, .string ⟨#[]⟩, .slice none 0 0, .int .i64 0, .slice none 0 0, .string ⟨#[]⟩, .slice none 0 0, .string ⟨#[]⟩, .string ⟨#[]⟩, .bool false, .int .i64 0, .string ⟨#[]⟩, .slice none 0 0, .slice none 0 0, .slice none 0 0, .slice none 0 0] rfl] at h; exact h))
            go_wp2
            exact bodyPost_ret (v := .agg #[.int .i64 8, .int .i64 0, .string ⟨#[]⟩, .int .i64 0, .string ⟨#[]⟩, .slice none 0 0, .string xn, .slice xh.oa xp.length xh.cap, .int .i64 0, .slice none 0 0, .string ⟨#[]⟩, .slice none 0 0, .string ⟨#[]⟩, .string ⟨#[]⟩, .bool false, .int .i64 0, .string ⟨#[]⟩, .slice none 0 0, .slice none 0 0, .slice none 0 0, .slice none 0 0]) (results_one rfl rfl HRG.out Tryz.underlying108 rfl (by kernel_rfl)) rfl (RPost.done HF.out.1 (HQ.out.symm.trans (map_ok HR.out)) HJ6.out HF.out.2 ⟨(.mk 8 0 nil5 ty0 ⟨xn, xh, xp⟩ rv0 op0 h0 [] h0 [] h0 [] : St5), rfl, rfl, (by unfold StH; exact ⟨(show I64 8 from ⟨by decide, by decide⟩), TyH.le (show 1 ≤ n + 62 by omega) ⟨(show I64 0 from ⟨by decide, by decide⟩), Row.nil _ _ _ _⟩, HU.out, ⟨(show I64 0 from ⟨by decide, by decide⟩), Row.nil _ _ _ _, Row.nil _ _ _ _⟩, ⟨(show I64 0 from ⟨by decide, by decide⟩), Row.nil _ _ _ _⟩, Row.nil _ _ _ _, Row.nil _ _ _ _, Row.nil _ _ _ _⟩)⟩)
          · have HS := Lib.hid hts
            clear hts
            go_upto_region 12 with (go_at_call 172; refine HTK.out.mono ?_; rintro e W5 ⟨-, h1⟩; obtain ⟨rfl, hb⟩ := h1 HS.out; have hk := Kb.of_below (b := b) hb; have HK5 := Lib.hid (HK4.out.trans hk); have HH5 := Lib.hid (HH4.out.under hb); have HJ5 := Lib.hid HJ4.out; have HX5 := Lib.hid (hk.kept HX4.out HBb.out.1); clear h1 hk hb HTK)
            have hQ := HQ.out
            rw [opt_no HH4.out HT5.out HS.out] at hQ
            replace HQ := Lib.hid hQ
            clear hQ HS
            have hc := r_place HH5.out
            have HC := Lib.hid hc
            clear hc
            rcases hr : placeR (ts.drop i) with ⟨a6, l6⟩ | ⟨er, p⟩
            rotate_left
            · have HR := Lib.hid hr
              clear hr
              go_wp2_with (go_at_call 332; refine HC.out.mono ?_; rintro e W6 hp; obtain ⟨he, hk⟩ := hp.no HR.out; unfold faultE at he; subst he; have HK6 := Lib.hid (HK5.out.trans hk); clear hk hp HC)
              exact ⟨rfl, RPost.fault HK6.out (HQ.out.symm.trans (bind_no HR.out))⟩
            have HR := Lib.hid hr
            clear hr
            have hQ := HQ.out
            rw [bind_ok HR.out] at hQ
            have HQ1 := Lib.hid hQ
            clear hQ
            go_wp2_with
              (first
                | (go_at_call 332; refine HC.out.mono ?_; rintro e W6 hp; obtain ⟨hk, j6, v6, rfl, hl, hj, hrd, hv⟩ := hp.ok HR.out; subst hl; obtain ⟨⟨xn, xh, xp⟩, rfl, rfl, hp⟩ := hv; simp only [plV, plC]; have HP := Lib.hid hp; clear hp; have HK6 := Lib.hid (HK5.out.trans hk); have HKK6 := Lib.hid hk; have HH6 := Lib.hid hrd; have HJ6 := Lib.hid (Nat.le_trans HJ5.out hj); have HX6 := Lib.hid (hk.kept HX5.out HBb.out.1); clear hk hp hrd hj HC)
                | (go_at_call 331
                   refine (r_isSet HH6.out HM.out HRk.out).mono ?_
                   rintro e W7 hp
                   rcases hr2 : isSetR (ts.drop j6) with ⟨a7, l7⟩ | ⟨er, p⟩
                   rotate_left
                   · obtain ⟨he, hk⟩ := hp.no hr2
                     unfold faultE at he
                     subst he
                     exact ⟨rfl, RPost.fault (HK6.out.trans hk) (HQ1.out.symm.trans (map_no hr2))⟩
                   obtain ⟨hk, j7, v7, rfl, hl, hj, hrd, hv⟩ := hp.ok hr2
                   subst hl
                   obtain ⟨⟨rk, rh, ro, ⟨rpn, rph, rpp⟩, rn, rv⟩, rfl, rfl, hp⟩ := hv
                   simp only [rvV, rvC, plC, List.cons_append, List.nil_append]
                   have HP2 := Lib.hid hp
                   have HR3 := Lib.hid hr2
                   have HP1 := Lib.hid (PlH.und _ _ _ (hk.und (B := W5.heap.size) (B' := W5.heap.size) (Nat.lt_of_lt_of_le HBW.out HK5.out.size) (Nat.le_refl _)) HP.out)
                   have HK7 := Lib.hid (HK6.out.trans hk)
                   have HH7 := Lib.hid hrd
                   have HJ7 := Lib.hid (Nat.le_trans HJ6.out hj)
                   have HX7 := Lib.hid (hk.kept HX6.out HBb.out.1)
                   clear hk hp hrd hj hr2)
                | (refine wpList_store_box rfl 108 (.tmp 2) (.tmp 44) rfl B 0 rfl (.agg #[.int .i64 1, .int .i64 0, .string ⟨#[]⟩, .int .i64 0, .string ⟨#[]⟩, .slice none 0 0, .string xn, .slice xh.oa xp.length xh.cap, .int .i64 rk, .slice rh.oa ro.length rh.cap, .string rpn, .slice rph.oa rpp.length rph.cap, .string rn, .string rv, .bool false, .int .i64 0, .string ⟨#[]⟩, .slice none 0 0, .slice none 0 0, .slice none 0 0, .slice none 0 0]) rfl [.int .i64 1, .int .i64 0, .string ⟨#[]⟩, .int .i64 0, .string ⟨#[]⟩, .slice none 0 0, .string xn, .slice xh.oa xp.length xh.cap, .int .i64 rk, .slice rh.oa ro.length rh.cap, .string rpn, .slice rph.oa rpp.length rph.cap, .string rn, .string rv, .bool false, .int .i64 0, .string ⟨#[]⟩, .slice none 0 0, .slice none 0 0, .slice none 0 0, .slice none 0 0] rfl [.int .i64 0, .int .i64 0, .string ⟨#[]⟩, .int .i64 0, .string ⟨#[]⟩, .slice none 0 0, .string ⟨#[]⟩, .slice none 0 0, .int .i64 0, .slice none 0 0, .string ⟨#[]⟩, .slice none 0 0, .string ⟨#[]⟩, .string ⟨#[]⟩, .bool false, .int .i64 0, .string ⟨#[]⟩, .slice none 0 0, .slice none 0 0, .slice none 0 0, .slice none 0 0] 108 HX7.out (Nat.le_refl _) (show (Tryz.prog.info? 108).map (·.size) = some 21 by kernel_rfl) ?c1 B (Nat.le_refl _) W7 (Below.refl _ _) ?_))
            case c1 => first | exact ⟨rfl, rfl, rfl, rfl, rfl, rfl, rfl, rfl, rfl, rfl, rfl, rfl, rfl, rfl, rfl, rfl, rfl, rfl, rfl, rfl, rfl⟩ | exact rfl | (intro v hv; simp at hv; first | (rcases hv with rfl | rfl | rfl | rfl | rfl | rfl | rfl | rfl | rfl | rfl | rfl | rfl | rfl | rfl | rfl | rfl | rfl | rfl | rfl | rfl | rfl <;> rfl) | (rcases hv with rfl | rfl | rfl | rfl | rfl | rfl | rfl | rfl | rfl | rfl | rfl | rfl | rfl | rfl | rfl | rfl | rfl | rfl | rfl | rfl <;> rfl) | (rcases hv with rfl | rfl | rfl | rfl | rfl | rfl | rfl | rfl | rfl | rfl | rfl | rfl | rfl | rfl | rfl | rfl | rfl | rfl | rfl <;> rfl) | (rcases hv with rfl | rfl | rfl | rfl | rfl | rfl | rfl | rfl | rfl | rfl | rfl | rfl | rfl | rfl | rfl | rfl | rfl | rfl <;> rfl) | (rcases hv with rfl | rfl | rfl | rfl | rfl | rfl | rfl | rfl | rfl | rfl | rfl | rfl | rfl | rfl | rfl | rfl | rfl <;> rfl) | (rcases hv with rfl | rfl | rfl | rfl | rfl | rfl | rfl | rfl | rfl | rfl | rfl | rfl | rfl | rfl | rfl | rfl <;> rfl) | (rcases hv with rfl | rfl | rfl | rfl | rfl | rfl | rfl | rfl | rfl | rfl | rfl | rfl | rfl | rfl | rfl <;> rfl) | (rcases hv with rfl | rfl | rfl | rfl | rfl | rfl | rfl | rfl | rfl | rfl | rfl | rfl | rfl | rfl <;> rfl) | (rcases hv with rfl | rfl | rfl | rfl | rfl | rfl | rfl | rfl | rfl | rfl | rfl | rfl | rfl <;> rfl) | (rcases hv with rfl | rfl | rfl | rfl | rfl | rfl | rfl | rfl | rfl | rfl | rfl | rfl <;> rfl) | (rcases hv with rfl | rfl | rfl | rfl | rfl | rfl | rfl | rfl | rfl | rfl | rfl <;> rfl) | (rcases hv with rfl | rfl | rfl | rfl | rfl | rfl | rfl | rfl | rfl | rfl <;> rfl) | (rcases hv with rfl | rfl | rfl | rfl | rfl | rfl | rfl | rfl | rfl <;> rfl) | (rcases hv with rfl | rfl | rfl | rfl | rfl | rfl | rfl | rfl <;> rfl) | (rcases hv with rfl | rfl | rfl | rfl | rfl | rfl | rfl <;> rfl) | (rcases hv with rfl | rfl | rfl | rfl | rfl | rfl <;> rfl) | (rcases hv with rfl | rfl | rfl | rfl | rfl <;> rfl) | (rcases hv with rfl | rfl | rfl | rfl <;> rfl) | (rcases hv with rfl | rfl | rfl <;> rfl) | (rcases hv with rfl | rfl <;> rfl) | (subst hv; rfl))
            intro WF hb hbx hoth
            have HF := Lib.hid (And.intro (HK7.out.box HBb.out.2.2.2 hb hoth) (HH7.out.box hb hoth HBb.out.1.symm HBb.out.2.1 HBb.out.2.2.1))
            have HUp := Lib.hid (PlH.und _ _ _ (und_box (B' := w.heap.size) hb hoth (blk_lt HX5.out) HK5.out.size) HP1.out)
            have HUr := Lib.hid (RvH.und _ _ _ (und_box (B' := w.heap.size) hb hoth (blk_lt HX6.out) HK6.out.size) HP2.out)
            clear hb
            have HRG := Lib.hid (rangeAt_of_box (w := WF) (b := B) (cs := [.int .i64 1, .int .i64 0, .string ⟨#[]⟩, .int .i64 0, .string ⟨#[]⟩, .slice none 0 0, .string xn, .slice xh.oa xp.length xh.cap, .int .i64 rk, .slice rh.oa ro.length rh.cap, .string rpn, .slice rph.oa rpp.length rph.cap, .string rn, .string rv, .bool false, .int .i64 0, .string ⟨#[]⟩, .slice none 0 0, .slice none 0 0, .slice none 0 0, .slice none 0 0]) (t := 108) (by have h := hbx; rw [splL_all [.int .i64 1, .int .i64 0, .string ⟨#[]⟩, .int .i64 0, .string ⟨#[]⟩, .slice none 0 0, .string xn, .slice xh.oa xp.length xh.cap, .int .i64 rk, .slice rh.oa ro.length rh.cap, .string rpn, .slice rph.oa rpp.length rph.cap, .string rn, .string rv, .bool false, .int .i64 0, .string ⟨#[]⟩, .slice none 0 0, .slice none 0 0, .slice none 0 0, .slice none 0 0] [.int .i64 0, .int .i64 0, .string ⟨#[]⟩, .int .i64 0, .string ⟨#[]⟩, .slice none 0 0, .string ⟨#[]⟩, .slice none 0 0, .int .i64 0, .slice none 0 0, .string ⟨#[]⟩, .slice none 0 0, .string ⟨#[]⟩, .string ⟨#[]⟩, .bool false, .int .i64 0, .string ⟨#[]⟩, .slice none 0 0, .slice none 0 0, .slice none 0 0, .slice none 0 0] rfl] at h; exact h))
            go_wp2
            exact bodyPost_ret (v := .agg #[.int .i64 1, .int .i64 0, .string ⟨#[]⟩, .int .i64 0, .string ⟨#[]⟩, .slice none 0 0, .string xn, .slice xh.oa xp.length xh.cap, .int .i64 rk, .slice rh.oa ro.length rh.cap, .string rpn, .slice rph.oa rpp.length rph.cap, .string rn, .string rv, .bool false, .int .i64 0, .string ⟨#[]⟩, .slice none 0 0, .slice none 0 0, .slice none 0 0, .slice none 0 0]) (results_one rfl rfl HRG.out Tryz.underlying108 rfl (by kernel_rfl)) rfl (RPost.done HF.out.1 (HQ1.out.symm.trans (map_ok HR3.out)) HJ7.out HF.out.2 ⟨(.mk 1 0 nil5 ty0 ⟨xn, xh, xp⟩ ⟨rk, rh, ro, ⟨rpn, rph, rpp⟩, rn, rv⟩ op0 h0 [] h0 [] h0 [] : St5), rfl, rfl, (by unfold StH; exact ⟨(show I64 1 from ⟨by decide, by decide⟩), TyH.le (show 1 ≤ n + 62 by omega) ⟨(show I64 0 from ⟨by decide, by decide⟩), Row.nil _ _ _ _⟩, HUp.out, HUr.out, ⟨(show I64 0 from ⟨by decide, by decide⟩), Row.nil _ _ _ _⟩, Row.nil _ _ _ _, Row.nil _ _ _ _, Row.nil _ _ _ _⟩)⟩)
end Go.Proofs.YtggdpgaedmegbaaGreatDoor
