/-
  What is reckoned: an operand, or two with a sign between. Conditions: the reader lies in the heap.
-/
import Derived.Test.YtggdpgaedmegbaaGreatDoorJPMade
import Derived.Test.YtggdpgaedmegbaaGreatDoorJPStruct
import Derived.Test.YtggdpgaedmegbaaGreatDoorJPStm
import Derived.Deep.RegionHeld3
namespace Go.Proofs.YtggdpgaedmegbaaGreatDoor
open Go.RowKit

def signW : Nat → List UInt8
  | 0 => wPlus
  | 1 => wMinus
  | 2 => wStar
  | 3 => wLess
  | _ => wSame
def recM (a : Op5) : Nat → Rd Rv5
  | 0 => pureR ⟨0, h0, [a], pl0, nil5, nil5⟩
  | m + 1 => optR (signW (4 - m)) (mapR operR (two5 ((5 - m : Nat) : Int) a)) (recM a m)
theorem signW_ne (k : Nat) : signW k ≠ [] := by
  match k with
  | 0 => decide
  | 1 => decide
  | 2 => decide
  | 3 => decide
  | k + 4 => simp [signW, wSame]
theorem sign_at (k : Nat) (hk : k < 5) (w : World) : (Instr.index 378 (.agg #[.string (strB [43]), .string (strB [45]), .string (strB [42]), .string (strB [60]), .string (strB [61, 61])]) (.int .i64 k)).run Tryz.prog w = .ok (.string (strB (signW k))) w := by
  have h : k = 0 ∨ k = 1 ∨ k = 2 ∨ k = 3 ∨ k = 4 := by omega
  rcases h with rfl | rfl | rfl | rfl | rfl
  · simp [Instr.index, run_underlying Tryz.underlying378, asIntOf, go_sem, signW, wPlus, wMinus, wStar, wLess, wSame]
  · simp [Instr.index, run_underlying Tryz.underlying378, asIntOf, go_sem, signW, wPlus, wMinus, wStar, wLess, wSame]
  · simp [Instr.index, run_underlying Tryz.underlying378, asIntOf, go_sem, signW, wPlus, wMinus, wStar, wLess, wSame]
  · simp [Instr.index, run_underlying Tryz.underlying378, asIntOf, go_sem, signW, wPlus, wMinus, wStar, wLess, wSame]
  · simp [Instr.index, run_underlying Tryz.underlying378, asIntOf, go_sem, signW, wPlus, wMinus, wStar, wLess, wSame]
theorem cells5g {w : World} {k : Nat} {v0 v1 v2 v3 v4 : Value} {t : TypeId} {fr : Nat × Nat} (h : w.heap[k]? = some (.cells #[v0, v1, v2, v3, v4] t fr)) :
    w.cell? ⟨k, 0, none⟩ = some v0 ∧ w.cell? ⟨k, 1, none⟩ = some v1 ∧ w.cell? ⟨k, 2, none⟩ = some v2 ∧ w.cell? ⟨k, 3, none⟩ = some v3 ∧ w.cell? ⟨k, 4, none⟩ = some v4 :=
  ⟨by simp [World.cell?, h], by simp [World.cell?, h], by simp [World.cell?, h], by simp [World.cell?, h], by simp [World.cell?, h]⟩
set_option maxRecDepth 100000 in
set_option maxHeartbeats 4000000 in
theorem r_reckoned {w : World} {b g cap : Nat} {ts : List Tok} {i dp : Nat} (H : RdAt w b g cap ts i dp) :
    Calls Tryz.prog 343 #[.pointer (some ⟨b, 0, none⟩)] w (RPost w b g cap ts i dp (reckonedR (ts.drop i)) VRv) := by
  obtain ⟨r, hQ⟩ : ∃ r, reckonedR (ts.drop i) = r := ⟨_, rfl⟩
  rw [hQ]
  have HQ := Lib.hid hQ
  clear hQ
  have HGB := Lib.hid (And.intro H.toks.1 H.vars.size)
  have HBW := Lib.hid (show b < w.heap.size from (Array.getElem?_eq_some_iff.1 H.at_).1)
  have HJ0 := Lib.hid (Nat.le_refl i)
  obtain ⟨W0, hW⟩ : ∃ W0, W0 = w.alloc (.cells #[.int .i64 0, .slice none 0 0, .string ⟨#[]⟩, .slice none 0 0, .string ⟨#[]⟩, .string ⟨#[]⟩] 103) := ⟨_, rfl⟩
  have hbW : Below w.heap.size w W0 := by rw [hW]; exact alloc_below _ _
  have hx0 : W0.heap[w.heap.size]? = some (.cells #[.int .i64 0, .slice none 0 0, .string ⟨#[]⟩, .slice none 0 0, .string ⟨#[]⟩, .string ⟨#[]⟩] 103) := by rw [hW, heap_alloc_new]
  have HH0 := Lib.hid (H.under hbW)
  have HK0 := Lib.hid (Kb.of_below (b := b) hbW)
  obtain ⟨B, hB⟩ : ∃ B, B = w.heap.size := ⟨_, rfl⟩
  rw [← hB] at hx0
  have HX0 := Lib.hid hx0
  clear hbW hx0 H
  go_enter Tryz.func343, Tryz.ntmps343
  go_upto_region 1 with fail
  rw [← hW]
  simp only [← hB]
  clear hW
  have HBb := Lib.hid (show B ≠ b ∧ g ≠ B ∧ nG ≤ B ∧ w.heap.size ≤ B by have h1 := HBW.out; have h2 := HGB.out; rw [hB]; exact ⟨by omega, by omega, h2.2, Nat.le_refl _⟩)
  replace hB := Lib.hid hB
  have hc := r_oper HH0.out
  have HC := Lib.hid hc
  clear hc
  rcases hr : operR (ts.drop i) with ⟨a1, l1⟩ | ⟨er, p⟩
  rotate_left
  · have HR := Lib.hid hr
    clear hr
    go_wp2_with (go_at_call 327; refine HC.out.mono ?_; rintro e W1 hp; obtain ⟨he, hk⟩ := hp.no HR.out; unfold faultE at he; subst he; have HK1 := Lib.hid (HK0.out.trans hk); clear hk hp HC)
    exact ⟨rfl, RPost.fault HK1.out (HQ.out.symm.trans (bind_no HR.out))⟩
  have HR := Lib.hid hr
  clear hr
  go_upto_region 2 with
    (first
      | (go_at_call 327; refine HC.out.mono ?_; rintro e W1 hp; obtain ⟨hk, j1, v1, rfl, hl, hj, hrd, hv⟩ := hp.ok HR.out; subst hl; obtain ⟨⟨xb, xi, ⟨xn, xh, xp⟩⟩, rfl, rfl, hp⟩ := hv; simp only [opV, opC, plC, List.cons_append, List.nil_append]; have HP := Lib.hid hp; clear hp; have HK1 := Lib.hid (HK0.out.trans hk); have HKK1 := Lib.hid hk; have HH1 := Lib.hid hrd; have HJ1 := Lib.hid (Nat.le_trans HJ0.out hj); have HX1 := Lib.hid (hk.kept HX0.out HBb.out.1); clear hk hp hrd hj HC)
      | (refine wpList_store_box rfl 105 (.tmp 3) (.tmp 7) rfl W1.heap.size 0 rfl (.agg #[.bool xb, .int .i64 xi, .string xn, .slice xh.oa xp.length xh.cap]) rfl [.bool xb, .int .i64 xi, .string xn, .slice xh.oa xp.length xh.cap] rfl [.bool false, .int .i64 0, .string ⟨#[]⟩, .slice none 0 0] 105 (heap_alloc_new W1 (.cells #[.bool false, .int .i64 0, .string ⟨#[]⟩, .slice none 0 0] 105)) (Nat.le_refl _) (show (Tryz.prog.info? 105).map (·.size) = some 4 by kernel_rfl) ?c1 W1.heap.size (Nat.le_refl _) (W1.alloc (.cells #[.bool false, .int .i64 0, .string ⟨#[]⟩, .slice none 0 0] 105)) (Below.refl _ _) ?_; rotate_left; intro W2 hb hbx hoth))
  case c1 => first | exact ⟨rfl, rfl, rfl, rfl⟩ | exact rfl | (intro v hv; simp at hv; first | (rcases hv with rfl | rfl | rfl | rfl <;> rfl) | (rcases hv with rfl | rfl | rfl <;> rfl) | (rcases hv with rfl | rfl <;> rfl) | (subst hv; rfl))
  have hQ := HQ.out
  unfold reckonedR at hQ
  rw [bind_ok HR.out] at hQ
  replace HQ := Lib.hid (show recM (erOp ⟨xb, xi, ⟨xn, xh, xp⟩⟩) 5 (ts.drop j1) = r from hQ)
  clear hQ HR
  obtain ⟨O, hO⟩ : ∃ O, O = Obj.cells #[.bool false, .int .i64 0, .string ⟨#[]⟩, .slice none 0 0] 105 := ⟨_, rfl⟩
  rw [← hO] at hb hoth
  clear hO
  obtain ⟨P, hP⟩ : ∃ P, P = W1.heap.size := ⟨_, rfl⟩
  rw [← hP] at hb hbx hoth
  simp only [← hP]
  have hal := alloc_below W1 O
  rw [← hP] at hal
  have hBP : B < P := by rw [hP]; exact blk_lt HX1.out
  have hbP : b < P := by rw [hP]; exact blk_lt HH1.out.at_
  have hgP : g < P := by rw [hP]; exact HH1.out.toks.1
  have hwP : w.heap.size ≤ P := by rw [hP]; exact HK1.out.size
  have hnP : nG ≤ P := by have := HBb.out.2.2.1; omega
  have HB2 := Lib.hid (hal.trans hb)
  have HP_2 := Lib.hid (show W2.heap[P]? = some (.cells #[.bool xb, .int .i64 xi, .string xn, .slice xh.oa xp.length xh.cap] 105) from hbx)
  have HX2 := Lib.hid ((HB2.out.block B hBP).trans HX1.out)
  have HH2 := Lib.hid (show RdAt W2 b g cap ts j1 dp by have h1 := HH1.out; exact h1.keep (Kb.of_below (hP ▸ HB2.out)) ((HB2.out.block b hbP).trans h1.at_) h1.lt)
  have HK2 := Lib.hid (show Kb b w W2 from HK1.out.trans (Kb.of_below (hP ▸ HB2.out)))
  have HJ2 := Lib.hid HJ1.out
  have HNP := Lib.hid (show P ≠ b ∧ w.heap.size ≤ P ∧ g ≠ P ∧ nG ≤ P ∧ B ≠ P from ⟨by omega, hwP, by omega, hnP, by omega⟩)
  have HU1 := Lib.hid (OpH.und _ _ _ (eb_und (B := W0.heap.size) (B' := W0.heap.size) (og := none) (og' := none) HB2.out.size fun x hx h1 h2 => ⟨h1, h2, HB2.out.block x (by rw [hP]; exact hx)⟩) HP.out)
  clear hal hb hbx hoth hBP hbP hgP hwP hnP HB2
  replace hP := Lib.hid hP
  have HBP := Lib.hid (show B ≠ P from HNP.out.2.2.2.2)
  obtain ⟨st, fr, hps⟩ := HH2.out.vars.psigns
  obtain ⟨s0, s1, s2, s3, s4⟩ := cells5g hps
  clear hps
  go_wp2_with fail
  clear s0 s1 s2 s3 s4
  go_loopw [9] (fun u9 wr => ∃ (k mm j : Nat), u9 = .int .i64 k ∧ k + mm = 5 ∧ wr.heap[P]? = some (.cells #[.bool xb, .int .i64 xi, .string xn, .slice xh.oa xp.length xh.cap] 105) ∧ wr.heap[B]? = some (.cells #[.int .i64 0, .slice none 0 0, .string ⟨#[]⟩, .slice none 0 0, .string ⟨#[]⟩, .string ⟨#[]⟩] 103) ∧ RdAt wr b g cap ts j dp ∧ Kb b w wr ∧ Kb b W2 wr ∧ i ≤ j ∧ recM (erOp ⟨xb, xi, ⟨xn, xh, xp⟩⟩) mm (ts.drop j) = r) (fun u9 _ => 5 - (intOf u9).toNat)
  case atStart => exact ⟨0, 5, j1, rfl, rfl, HP_2.out, HX2.out, HH2.out, HK2.out, Kb.refl b W2, HJ2.out, HQ.out⟩
  case round =>
    obtain ⟨k, mm, j, rfl, hkm, hp2, hx2, hrd, hko, hk2, hj, hr⟩ := hrel
    obtain ⟨t, ht, hh, -⟩ := hrd.tok
    have HP_R := Lib.hid hp2
    have HXR := Lib.hid hx2
    have HHR := Lib.hid hrd
    have HKR := Lib.hid hko
    have HK2R := Lib.hid hk2
    have HJR := Lib.hid hj
    have HQR := Lib.hid hr
    have HTR := Lib.hid ht
    have HKM := Lib.hid hkm
    by_cases hk5 : k < 5
    · obtain ⟨m', rfl⟩ : ∃ m', mm = m' + 1 := ⟨mm - 1, by omega⟩
      have t1 : decide ((k : Int) < 5) = true := by simp; omega
      have hkb : (k : Int) < 5 := by omega
      have hk0 : (0 : Int) ≤ k := by omega
      have hidx := sign_at k hk5
      have HTK := Lib.hid (takes_any hrd ht (signW k) (signW_ne k))
      have hrc : recM (erOp ⟨xb, xi, ⟨xn, xh, xp⟩⟩) (m' + 1) (ts.drop j) = optR (signW k) (mapR operR (two5 ((k + 1 : Nat) : Int) (erOp ⟨xb, xi, ⟨xn, xh, xp⟩⟩))) (recM (erOp ⟨xb, xi, ⟨xn, xh, xp⟩⟩) m') (ts.drop j) := by
        rw [recM, show 4 - m' = k by omega, show 5 - m' = k + 1 by omega]
      have HRC := Lib.hid hrc
      have HK5 := Lib.hid hk5
      clear hkm hp2 hx2 hrd hko hk2 hj hr ht hh hrc hk5
      by_cases hts : t.text = signW k
      · have HS := Lib.hid hts
        clear hts
        have hrr : r = mapR operR (two5 ((k + 1 : Nat) : Int) (erOp ⟨xb, xi, ⟨xn, xh, xp⟩⟩)) (ts.drop (j + 1)) := by rw [← HQR.out, HRC.out, opt_yes HHR.out HTR.out HS.out]
        have HRR := Lib.hid hrr
        clear hrr
        go_upto_region 6 with (go_at_call 172; refine HTK.out.mono ?_; rintro e W3 ⟨h1, -⟩; obtain ⟨rfl, hk, hrd⟩ := h1 HS.out; have HK3 := Lib.hid (HKR.out.trans hk); have HH3 := Lib.hid hrd; have HJ3 := Lib.hid (Nat.le_succ_of_le HJR.out); have HP_3 := Lib.hid (hk.kept HP_R.out HNP.out.1); have HX3 := Lib.hid (hk.kept HXR.out HBb.out.1); have HK23 := Lib.hid (HK2R.out.trans hk); clear h1 hk hrd HTK)
        clear t1 hidx hkb hk0
        have HHd := Lib.hid HH3.out.dr
        have hc := r_oper HHd.out
        have HC := Lib.hid hc
        clear hc
        rcases hr : operR (ts.drop (j + 1)) with ⟨a4, l4⟩ | ⟨er, p⟩
        rotate_left
        · have HR := Lib.hid hr
          clear hr
          go_wp2_with fail
          obtain ⟨p0, p1, p2, p3, pf, pl⟩ := cells4p HP_3.out
          refine wp_region_held_drew (S := (fun w' => w'.cell? ⟨P, 0, none⟩ = some (.bool xb) ∧ w'.cell? ⟨P, 1, none⟩ = some (.int .i64 xi) ∧ w'.cell? ⟨P, 2, none⟩ = some (.string xn) ∧ w'.cell? ⟨P, 3, none⟩ = some (.slice xh.oa xp.length xh.cap))) (by kernel_rfl) ?_ (fun hHeld => ?_)
          · exact ⟨p0, p1, p2, p3⟩
          clear p0 p1 p2 p3 pf pl
          refine wpAnyH_take (i := 0) (oi := { dst := some 16, op := Op.move (Operand.tmp 4), type := 3, pos := "statements.go:164", after := #[], guard := none }) (v := ?vq0) rfl (by kernel_rfl) (by kernel_rfl) (by kernel_rfl) (fun _ _ _ h => h) (Or.inl ⟨by rfl, ?hq0⟩) (by assumption) ?_
          case hq0 => intro w hSw; (try dsimp only at hSw); go_simp; try (with_reducible rfl)
          (try simp only [Act.put, List.setIfInBounds_toArray, List.set_cons_zero, List.set_cons_succ])
          refine wpAnyH_take (i := 1) (oi := { dst := some 17, op := Op.binOp BinOp.add 82 (Operand.const (Value.int IntKind.i64 1)) (Operand.tmp 16) 82, type := 82, pos := "statements.go:164", after := #[{ on := 0, ground := Ground.data }], guard := none }) (v := .int .i64 ((k : Int) + 1)) rfl (by kernel_rfl) (by kernel_rfl) (by kernel_rfl) (fun _ _ _ h => h) (Or.inl ⟨by rfl, ?hq1⟩) (by assumption) ?_
          case hq1 => intro w hSw; (try dsimp only at hSw); go_simp; have hk5 := HK5.out; rw [IntKind.wrap_i64]; omega
          (try simp only [Act.put, List.setIfInBounds_toArray, List.set_cons_zero, List.set_cons_succ])
          refine wpAnyH_take (i := 2) (oi := { dst := some 18, op := Op.load 105 (Operand.tmp 3), type := 105, pos := "statements.go:164", after := #[], guard := none }) (v := ?vq2) rfl (by kernel_rfl) (by kernel_rfl) (by kernel_rfl) (fun _ _ _ h => h) (Or.inl ⟨by rfl, ?hq2⟩) (by assumption) ?_
          case hq2 => intro w hSw; (try dsimp only at hSw); go_simp; try (with_reducible rfl)
          (try simp only [Act.put, List.setIfInBounds_toArray, List.set_cons_zero, List.set_cons_succ])
          refine wpAnyH_take (i := 3) (oi := { dst := some 19, op := Op.move (Operand.tmp 0), type := 251, pos := "statements.go:164", after := #[], guard := none }) (v := ?vq3) rfl (by kernel_rfl) (by kernel_rfl) (by kernel_rfl) (fun _ _ _ h => h) (Or.inl ⟨by rfl, ?hq3⟩) (by assumption) ?_
          case hq3 => intro w hSw; (try dsimp only at hSw); go_simp; try (with_reducible rfl)
          (try simp only [Act.put, List.setIfInBounds_toArray, List.set_cons_zero, List.set_cons_succ])
          refine wpAnyH_ready (rs := [4]) (by kernel_rfl) (by simp) ?_
          refine AllReadyH.cons (o := { dst := some 20, op := Op.call { callee := Callee.value (Operand.func 327), args := #[Operand.tmp 19], argTypes := #[251] }, type := 105, pos := "statements.go:164", after := #[{ on := 3, ground := Ground.data }], guard := none }) rfl (fun K hK => ?_) AllReadyH.nil
          go_simp
          go_at_call 327
          refine HC.out.mono ?_
          rintro e W4 hp
          obtain ⟨he, hk⟩ := hp.no HR.out
          unfold faultE at he
          subst he
          exact ⟨rfl, RPost.fault (HK3.out.drew.trans hk) (HRR.out.trans (map_no HR.out))⟩
        have HR := Lib.hid hr
        clear hr
        go_wp2_with fail
        obtain ⟨p0, p1, p2, p3, pf, pl⟩ := cells4p HP_3.out
        refine wp_region_held_drew (S := (fun w' => w'.cell? ⟨P, 0, none⟩ = some (.bool xb) ∧ w'.cell? ⟨P, 1, none⟩ = some (.int .i64 xi) ∧ w'.cell? ⟨P, 2, none⟩ = some (.string xn) ∧ w'.cell? ⟨P, 3, none⟩ = some (.slice xh.oa xp.length xh.cap))) (by kernel_rfl) ?_ (fun hHeld => ?_)
        · exact ⟨p0, p1, p2, p3⟩
        clear p0 p1 p2 p3 pf pl
        refine wpAnyH_take (i := 0) (oi := { dst := some 16, op := Op.move (Operand.tmp 4), type := 3, pos := "statements.go:164", after := #[], guard := none }) (v := ?vq0) rfl (by kernel_rfl) (by kernel_rfl) (by kernel_rfl) (fun _ _ _ h => h) (Or.inl ⟨by rfl, ?hq0⟩) (by assumption) ?_
        case hq0 => intro w hSw; (try dsimp only at hSw); go_simp; try (with_reducible rfl)
        (try simp only [Act.put, List.setIfInBounds_toArray, List.set_cons_zero, List.set_cons_succ])
        refine wpAnyH_take (i := 1) (oi := { dst := some 17, op := Op.binOp BinOp.add 82 (Operand.const (Value.int IntKind.i64 1)) (Operand.tmp 16) 82, type := 82, pos := "statements.go:164", after := #[{ on := 0, ground := Ground.data }], guard := none }) (v := .int .i64 ((k : Int) + 1)) rfl (by kernel_rfl) (by kernel_rfl) (by kernel_rfl) (fun _ _ _ h => h) (Or.inl ⟨by rfl, ?hq1⟩) (by assumption) ?_
        case hq1 => intro w hSw; (try dsimp only at hSw); go_simp; have hk5 := HK5.out; rw [IntKind.wrap_i64]; omega
        (try simp only [Act.put, List.setIfInBounds_toArray, List.set_cons_zero, List.set_cons_succ])
        refine wpAnyH_take (i := 2) (oi := { dst := some 18, op := Op.load 105 (Operand.tmp 3), type := 105, pos := "statements.go:164", after := #[], guard := none }) (v := ?vq2) rfl (by kernel_rfl) (by kernel_rfl) (by kernel_rfl) (fun _ _ _ h => h) (Or.inl ⟨by rfl, ?hq2⟩) (by assumption) ?_
        case hq2 => intro w hSw; (try dsimp only at hSw); go_simp; try (with_reducible rfl)
        (try simp only [Act.put, List.setIfInBounds_toArray, List.set_cons_zero, List.set_cons_succ])
        refine wpAnyH_take (i := 3) (oi := { dst := some 19, op := Op.move (Operand.tmp 0), type := 251, pos := "statements.go:164", after := #[], guard := none }) (v := ?vq3) rfl (by kernel_rfl) (by kernel_rfl) (by kernel_rfl) (fun _ _ _ h => h) (Or.inl ⟨by rfl, ?hq3⟩) (by assumption) ?_
        case hq3 => intro w hSw; (try dsimp only at hSw); go_simp; try (with_reducible rfl)
        (try simp only [Act.put, List.setIfInBounds_toArray, List.set_cons_zero, List.set_cons_succ])
        refine wpAnyH_ready (rs := [4]) (by kernel_rfl) (by simp) ?_
        refine AllReadyH.cons (o := { dst := some 20, op := Op.call { callee := Callee.value (Operand.func 327), args := #[Operand.tmp 19], argTypes := #[251] }, type := 105, pos := "statements.go:164", after := #[{ on := 3, ground := Ground.data }], guard := none }) rfl (fun K hK => ?_) AllReadyH.nil
        go_simp
        go_at_call 327
        refine HC.out.mono ?_
        rintro e W4 hp
        obtain ⟨hk, j4, v4, rfl, hl, hj, hrd, hv⟩ := hp.ok HR.out
        subst hl
        obtain ⟨⟨yb, yi, ⟨yn, yh, yp⟩⟩, rfl, rfl, hp⟩ := hv
        simp only [opV, opC, plC, List.cons_append, List.nil_append]
        have HP2 := Lib.hid hp
        have HU2 := Lib.hid (OpH.und _ _ _ ((HK23.out.drew.trans hk).und (B := W0.heap.size) (B' := W0.heap.size) (Nat.lt_of_lt_of_le HBW.out HK0.out.size) (Nat.le_refl _)) HU1.out)
        have HP_4 := Lib.hid (hk.kept (show W3.drew.heap[P]? = some (.cells #[.bool xb, .int .i64 xi, .string xn, .slice xh.oa xp.length xh.cap] 105) from HP_3.out) HNP.out.1)
        have HX4 := Lib.hid (hk.kept (show W3.drew.heap[B]? = some (.cells #[.int .i64 0, .slice none 0 0, .string ⟨#[]⟩, .slice none 0 0, .string ⟨#[]⟩, .string ⟨#[]⟩] 103) from HX3.out) HBb.out.1)
        have HK4 := Lib.hid (HK3.out.drew.trans hk)
        have HH4 := Lib.hid hrd
        have HJ4 := Lib.hid (Nat.le_trans HJ3.out hj)
        have HKK4 := Lib.hid hk
        clear hk hp hrd hj HC
        refine hK.out _ _ ?_ (fun hHeld => ?_)
        · obtain ⟨p0, p1, p2, p3, pf, pl⟩ := cells4p HP_4.out
          exact ⟨p0, p1, p2, p3⟩
        clear hK K
        (try simp only [Act.put, List.setIfInBounds_toArray, List.set_cons_zero, List.set_cons_succ])
        refine wpAnyH_ready (rs := [5]) (by kernel_rfl) (by simp) ?_
        refine AllReadyH.cons (o := { dst := some 21, op := Op.buildSlice 101 2 #[(0, Operand.tmp 18), (1, Operand.tmp 20)], type := 101, pos := "statements.go:164", after := #[{ on := 2, ground := Ground.data }, { on := 4, ground := Ground.data }], guard := none }) rfl (fun K hK => ?_) AllReadyH.nil
        go_simp
        refine hK.out _ _ ?_ (fun hHeld => ?_)
        · obtain ⟨p0, p1, p2, p3, pf, pl⟩ := cells4p (((alloc_below W4 (.cells #[.bool xb, .int .i64 xi, .string xn, .slice xh.oa xp.length xh.cap, .bool yb, .int .i64 yi, .string yn, .slice yh.oa yp.length yh.cap] 105)).block P (blk_lt HP_4.out)).trans HP_4.out)
          exact ⟨p0, p1, p2, p3⟩
        clear hK K
        (try simp only [Act.put, List.setIfInBounds_toArray, List.set_cons_zero, List.set_cons_succ])
        refine wpAnyH_take (i := 6) (oi := { dst := some 22, op := Op.build 103 #[(0, Operand.tmp 17), (1, Operand.tmp 21)], type := 103, pos := "statements.go:164", after := #[{ on := 1, ground := Ground.data }, { on := 5, ground := Ground.data }], guard := none }) (v := ?vq6) rfl (by kernel_rfl) (by kernel_rfl) (by kernel_rfl) (fun _ _ _ h => h) (Or.inl ⟨by rfl, ?hq6⟩) (by assumption) ?_
        case hq6 => intro w hSw; (try dsimp only at hSw); go_simp; try (with_reducible rfl)
        (try simp only [Act.put, List.setIfInBounds_toArray, List.set_cons_zero, List.set_cons_succ])
        refine wpAnyH_ready (rs := [7]) (by kernel_rfl) (by simp) ?_
        refine AllReadyH.cons (o := { dst := none, op := Op.store 103 (Operand.tmp 2) (Operand.tmp 22), type := 0, pos := "statements.go:164", after := #[{ on := 6, ground := Ground.data }, { on := 4, ground := Ground.chain }, { on := 0, ground := Ground.phase }, { on := 1, ground := Ground.phase }, { on := 2, ground := Ground.phase }, { on := 3, ground := Ground.phase }, { on := 4, ground := Ground.phase }, { on := 5, ground := Ground.phase }, { on := 6, ground := Ground.phase }], guard := none }) rfl (fun K hK => ?_) AllReadyH.nil
        rw [if_pos (by rfl)]
        refine wp_store_box 103 (.tmp 2) (.tmp 22) rfl B 0 rfl (.agg #[.int .i64 ((k : Int) + 1), .slice (some ⟨W4.heap.size, 0, none⟩) 2 2, .string ⟨#[]⟩, .slice none 0 0, .string ⟨#[]⟩, .string ⟨#[]⟩]) rfl [.int .i64 ((k : Int) + 1), .slice (some ⟨W4.heap.size, 0, none⟩) 2 2, .string ⟨#[]⟩, .slice none 0 0, .string ⟨#[]⟩, .string ⟨#[]⟩] rfl [.int .i64 0, .slice none 0 0, .string ⟨#[]⟩, .slice none 0 0, .string ⟨#[]⟩, .string ⟨#[]⟩] 103 (keepB HX4.out (alloc_below W4 (.cells #[.bool xb, .int .i64 xi, .string xn, .slice xh.oa xp.length xh.cap, .bool yb, .int .i64 yi, .string yn, .slice yh.oa yp.length yh.cap] 105))) (Nat.le_refl _) (show (Tryz.prog.info? 103).map (·.size) = some 6 by kernel_rfl) ?c1 B (Nat.le_refl _) (W4.alloc (.cells #[.bool xb, .int .i64 xi, .string xn, .slice xh.oa xp.length xh.cap, .bool yb, .int .i64 yi, .string yn, .slice yh.oa yp.length yh.cap] 105)) (Below.refl _ _) ?_
        case c1 => first | exact ⟨rfl, rfl, rfl, rfl, rfl, rfl⟩ | exact rfl | (intro v hv; simp at hv; first | (rcases hv with rfl | rfl | rfl | rfl | rfl | rfl <;> rfl) | (rcases hv with rfl | rfl | rfl | rfl | rfl <;> rfl) | (rcases hv with rfl | rfl | rfl | rfl <;> rfl) | (rcases hv with rfl | rfl | rfl <;> rfl) | (rcases hv with rfl | rfl <;> rfl) | (subst hv; rfl))
        intro WF hb hbx hoth
        have hne : W4.heap.size ≠ B := fun e => by have := blk_lt HX4.out; omega
        have HF := Lib.hid (And.intro ((HK4.out.alloc (.cells #[.bool xb, .int .i64 xi, .string xn, .slice xh.oa xp.length xh.cap, .bool yb, .int .i64 yi, .string yn, .slice yh.oa yp.length yh.cap] 105)).box HBb.out.2.2.2 hb hoth) ((HH4.out.under (alloc_below W4 (.cells #[.bool xb, .int .i64 xi, .string xn, .slice xh.oa xp.length xh.cap, .bool yb, .int .i64 yi, .string yn, .slice yh.oa yp.length yh.cap] 105))).box hb hoth HBb.out.1.symm HBb.out.2.1 HBb.out.2.2.1))
        have HZ := Lib.hid ((hoth _ hne).trans (heap_alloc_new W4 (.cells #[.bool xb, .int .i64 xi, .string xn, .slice xh.oa xp.length xh.cap, .bool yb, .int .i64 yi, .string yn, .slice yh.oa yp.length yh.cap] 105)))
        have hue : ∀ B, Und (eb W4 B none) (eb (W4.alloc (.cells #[.bool xb, .int .i64 xi, .string xn, .slice xh.oa xp.length xh.cap, .bool yb, .int .i64 yi, .string yn, .slice yh.oa yp.length yh.cap] 105)) B none) := fun B => eb_und (alloc_below W4 (.cells #[.bool xb, .int .i64 xi, .string xn, .slice xh.oa xp.length xh.cap, .bool yb, .int .i64 yi, .string yn, .slice yh.oa yp.length yh.cap] 105)).size fun x hx h1 h2 => ⟨h1, h2, (alloc_below W4 (.cells #[.bool xb, .int .i64 xi, .string xn, .slice xh.oa xp.length xh.cap, .bool yb, .int .i64 yi, .string yn, .slice yh.oa yp.length yh.cap] 105)).block x hx⟩
        have HUa := Lib.hid (OpH.und _ _ _ ((hue W0.heap.size).trans (und_box (B' := w.heap.size) hb hoth (blk_lt HX0.out) HK0.out.size)) HU2.out)
        have HUb := Lib.hid (OpH.und _ _ _ ((hue W3.drew.heap.size).trans (und_box (B' := w.heap.size) hb hoth (show B < W3.drew.heap.size from blk_lt HX3.out) HK3.out.size)) HP2.out)
        have hpf := (hoth P HNP.out.2.2.2.2.symm).trans (((alloc_below W4 (.cells #[.bool xb, .int .i64 xi, .string xn, .slice xh.oa xp.length xh.cap, .bool yb, .int .i64 yi, .string yn, .slice yh.oa yp.length yh.cap] 105)).block P (blk_lt HP_4.out)).trans HP_4.out)
        have HPF := Lib.hid hpf
        clear hb hne hue hpf
        obtain ⟨q0, q1, q2, q3, q4, q5, qf, ql⟩ := cells6p (show WF.heap[B]? = some (.cells #[.int .i64 ((k : Int) + 1), .slice (some ⟨W4.heap.size, 0, none⟩) 2 2, .string ⟨#[]⟩, .slice none 0 0, .string ⟨#[]⟩, .string ⟨#[]⟩] 103) from hbx)
        have HSZ := Lib.hid HK4.out.size
        refine hK.out _ _ ?_ (fun hHeld => ?_)
        · obtain ⟨p0, p1, p2, p3, pf, pl⟩ := cells4p HPF.out
          exact ⟨p0, p1, p2, p3⟩
        clear hK K
        (try simp only [Act.put, List.setIfInBounds_toArray, List.set_cons_zero, List.set_cons_succ])
        refine wpAnyH_done (by kernel_rfl) ?_ _
        go_wp2
        refine bodyPost_ret (v := .agg #[.int .i64 ((k : Int) + 1), .slice (some ⟨W4.heap.size, 0, none⟩) 2 2, .string ⟨#[]⟩, .slice none 0 0, .string ⟨#[]⟩, .string ⟨#[]⟩]) (by simp [results, Tryz.results343, go_sem, q0, q1, q2, q3, q4, q5]) rfl (RPost.done HF.out.1 (HRR.out.trans (map_ok HR.out)) HJ4.out HF.out.2 ⟨⟨(k : Int) + 1, ⟨some ⟨W4.heap.size, 0, none⟩, 2⟩, [⟨xb, xi, ⟨xn, xh, xp⟩⟩, ⟨yb, yi, ⟨yn, yh, yp⟩⟩], ⟨nil5, h0, []⟩, nil5, nil5⟩, rfl, rfl, ?_⟩)
        exact ⟨show I64 ((k : Int) + 1) from (by have := HK5.out; unfold I64; omega), row_lit (xs := [(⟨xb, xi, ⟨xn, xh, xp⟩⟩ : Op5), ⟨yb, yi, ⟨yn, yh, yp⟩⟩]) HZ.out opC_len HSZ.out (show 2 ≤ maxLen by decide) (fun x hx => by
          rcases List.mem_cons.1 hx with rfl | hx
          · exact HUa.out
          · obtain rfl : x = (⟨yb, yi, ⟨yn, yh, yp⟩⟩ : Op5) := by simpa using hx
            exact HUb.out), Row.nil _ _ _ _⟩
      · have HS := Lib.hid hts
        clear hts
        have hrr : recM (erOp ⟨xb, xi, ⟨xn, xh, xp⟩⟩) m' (ts.drop j) = r := by rw [← HQR.out, HRC.out, opt_no HHR.out HTR.out HS.out]
        have HRR := Lib.hid hrr
        clear hrr
        go_wp2_with (go_at_call 172; refine HTK.out.mono ?_; rintro e W3 ⟨-, h1⟩; obtain ⟨rfl, hb⟩ := h1 HS.out; have hk := Kb.of_below (b := b) hb; have HK3 := Lib.hid (HKR.out.trans hk); have HH3 := Lib.hid (HHR.out.under hb); have HP_3 := Lib.hid (hk.kept HP_R.out HNP.out.1); have HX3 := Lib.hid (hk.kept HXR.out HBb.out.1); have HK23 := Lib.hid (HK2R.out.trans hk); clear h1 hk hb HTK)
        go_roundw
        case rel => exact ⟨k + 1, m', j, by go_num, by have := HKM.out; omega, HP_3.out, HX3.out, HH3.out, HK3.out, HK23.out, HJR.out, HRR.out⟩
        case measure => simp [intOf]; have := HK5.out; omega
    · have t1 : decide ((k : Int) < 5) = false := by simp; omega
      obtain rfl : mm = 0 := by omega
      clear hkm hp2 hx2 hrd hko hk2 hj hr ht hh hk5
      obtain ⟨p0, p1, p2, p3, pf, pl⟩ := cells4p HP_R.out
      go_wp2_with (refine wpList_store_box rfl 103 (.tmp 2) (.tmp 26) rfl B 0 rfl (.agg #[.int .i64 0, .slice (some ⟨wr.heap.size, 0, none⟩) 1 1, .string ⟨#[]⟩, .slice none 0 0, .string ⟨#[]⟩, .string ⟨#[]⟩]) rfl [.int .i64 0, .slice (some ⟨wr.heap.size, 0, none⟩) 1 1, .string ⟨#[]⟩, .slice none 0 0, .string ⟨#[]⟩, .string ⟨#[]⟩] rfl [.int .i64 0, .slice none 0 0, .string ⟨#[]⟩, .slice none 0 0, .string ⟨#[]⟩, .string ⟨#[]⟩] 103 (keepB HXR.out (alloc_below wr (.cells #[.bool xb, .int .i64 xi, .string xn, .slice xh.oa xp.length xh.cap] 105))) (Nat.le_refl _) (show (Tryz.prog.info? 103).map (·.size) = some 6 by kernel_rfl) ?c1 B (Nat.le_refl _) (wr.alloc (.cells #[.bool xb, .int .i64 xi, .string xn, .slice xh.oa xp.length xh.cap] 105)) (Below.refl _ _) ?_)
      case c1 => first | exact ⟨rfl, rfl, rfl, rfl, rfl, rfl⟩ | exact rfl | (intro v hv; simp at hv; first | (rcases hv with rfl | rfl | rfl | rfl | rfl | rfl <;> rfl) | (rcases hv with rfl | rfl | rfl | rfl | rfl <;> rfl) | (rcases hv with rfl | rfl | rfl | rfl <;> rfl) | (rcases hv with rfl | rfl | rfl <;> rfl) | (rcases hv with rfl | rfl <;> rfl) | (subst hv; rfl))
      intro WF hb hbx hoth
      have hne : wr.heap.size ≠ B := fun e => by have := blk_lt HXR.out; omega
      have HF := Lib.hid (And.intro ((HKR.out.alloc (.cells #[.bool xb, .int .i64 xi, .string xn, .slice xh.oa xp.length xh.cap] 105)).box HBb.out.2.2.2 hb hoth) ((HHR.out.under (alloc_below wr (.cells #[.bool xb, .int .i64 xi, .string xn, .slice xh.oa xp.length xh.cap] 105))).box hb hoth HBb.out.1.symm HBb.out.2.1 HBb.out.2.2.1))
      have HZ := Lib.hid ((hoth _ hne).trans (heap_alloc_new wr (.cells #[.bool xb, .int .i64 xi, .string xn, .slice xh.oa xp.length xh.cap] 105)))
      have hue : ∀ B, Und (eb wr B none) (eb (wr.alloc (.cells #[.bool xb, .int .i64 xi, .string xn, .slice xh.oa xp.length xh.cap] 105)) B none) := fun B => eb_und (alloc_below wr (.cells #[.bool xb, .int .i64 xi, .string xn, .slice xh.oa xp.length xh.cap] 105)).size fun x hx h1 h2 => ⟨h1, h2, (alloc_below wr (.cells #[.bool xb, .int .i64 xi, .string xn, .slice xh.oa xp.length xh.cap] 105)).block x hx⟩
      have HUa := Lib.hid (OpH.und _ _ _ (((HK2R.out.und (B := W0.heap.size) (B' := W0.heap.size) (Nat.lt_of_lt_of_le HBW.out HK0.out.size) (Nat.le_refl _)).trans (hue W0.heap.size)).trans (und_box (B' := w.heap.size) hb hoth (blk_lt HX0.out) HK0.out.size)) HU1.out)
      clear hb hne hue
      obtain ⟨q0, q1, q2, q3, q4, q5, qf, ql⟩ := cells6p (show WF.heap[B]? = some (.cells #[.int .i64 0, .slice (some ⟨wr.heap.size, 0, none⟩) 1 1, .string ⟨#[]⟩, .slice none 0 0, .string ⟨#[]⟩, .string ⟨#[]⟩] 103) from hbx)
      have HSZ := Lib.hid HKR.out.size
      go_wp2
      refine bodyPost_ret (v := .agg #[.int .i64 0, .slice (some ⟨wr.heap.size, 0, none⟩) 1 1, .string ⟨#[]⟩, .slice none 0 0, .string ⟨#[]⟩, .string ⟨#[]⟩]) (by simp [results, Tryz.results343, go_sem, q0, q1, q2, q3, q4, q5]) rfl (RPost.done HF.out.1 HQR.out.symm HJR.out HF.out.2 ⟨⟨0, ⟨some ⟨wr.heap.size, 0, none⟩, 1⟩, [⟨xb, xi, ⟨xn, xh, xp⟩⟩], ⟨nil5, h0, []⟩, nil5, nil5⟩, rfl, rfl, ?_⟩)
      exact ⟨show I64 0 from ⟨by decide, by decide⟩, row_lit (xs := [(⟨xb, xi, ⟨xn, xh, xp⟩⟩ : Op5)]) HZ.out opC_len HSZ.out (show 1 ≤ maxLen by decide) (fun x hx => by
        obtain rfl : x = (⟨xb, xi, ⟨xn, xh, xp⟩⟩ : Op5) := by simpa using hx
        exact HUa.out), Row.nil _ _ _ _⟩
theorem reck_all : ReckC := fun _ _ _ _ _ _ _ H => r_reckoned H
theorem made_all : MadeC := fun _ _ _ _ _ _ _ H => r_made H
end Go.Proofs.YtggdpgaedmegbaaGreatDoor
