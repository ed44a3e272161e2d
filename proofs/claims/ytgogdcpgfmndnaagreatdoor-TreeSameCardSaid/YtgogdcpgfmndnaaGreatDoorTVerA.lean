/-
  Sameness is symmetric and reflexive; of the reference's text: names, no names, places, operands, types, fields, sets. Conditions: what is read lies in the heap.
-/
import Derived.Test.YtgogdcpgfmndnaaGreatDoorTModel
import Derived.Test.YtgogdcpgfmndnaaGreatDoorTValA
import Derived.Test.YtgogdcpgfmndnaaGreatDoorTRefA
import Derived.Test.YtgogdcpgfmndnaaGreatDoorNRefN
import Derived.Test.YtgogdcpgfmndnaaGreatDoorNRefR
import Derived.Test.YtgogdcpgfmndnaaGreatDoorTValC
namespace Go.Proofs.YtgogdcpgfmndnaaGreatDoor
open Go.RowKit

theorem dec_comm {α : Type} [DecidableEq α] (a b : α) : decide (a = b) = decide (b = a) := decide_eq_decide.2 eq_comm
theorem eqL_comm {α : Type} {g : α → α → Bool} (h : ∀ a b, g a b = g b a) : ∀ a b, eqL g a b = eqL g b a
  | [], [] => rfl
  | [], _ :: _ => rfl
  | _ :: _, [] => rfl
  | x :: a, y :: b => by rw [eqL, eqL, h x y, eqL_comm h a b]
theorem eqL_refl {α : Type} {g : α → α → Bool} (h : ∀ a, g a a = true) : ∀ a, eqL g a a = true
  | [] => rfl
  | x :: a => by rw [eqL, h x, eqL_refl h a]; rfl
theorem stepEq_comm (a b : ByteArray) : stepEq a b = stepEq b a := dec_comm a b
theorem stepEq_refl (a : ByteArray) : stepEq a a = true := by simp [stepEq]
theorem plEq_comm (a b : Pl5) : plEq a b = plEq b a := by rw [plEq, plEq, dec_comm, eqL_comm stepEq_comm]
theorem plEq_refl (a : Pl5) : plEq a a = true := by simp [plEq, eqL_refl stepEq_refl]
mutual
theorem tyEq_comm : ∀ a b, tyEq a b = tyEq b a
  | .mk k nm _ l, .mk k' nm' _ l' => by rw [tyEq, tyEq, tysEq_comm l l', dec_comm k k', dec_comm nm nm']
theorem tysEq_comm : ∀ a b, tysEq a b = tysEq b a
  | [], [] => rfl
  | [], _ :: _ => rfl
  | _ :: _, [] => rfl
  | x :: a, y :: b => by rw [tysEq, tysEq, tyEq_comm x y, tysEq_comm a b]
end
mutual
theorem tyEq_refl : ∀ a, tyEq a a = true
  | .mk k nm _ l => by rw [tyEq, tysEq_refl l]; simp
theorem tysEq_refl : ∀ a, tysEq a a = true
  | [] => rfl
  | x :: a => by rw [tysEq, tyEq_refl x, tysEq_refl a]; rfl
end
theorem opEq_comm (a b : Op5) : opEq a b = opEq b a := by rw [opEq, opEq, dec_comm a.num, dec_comm a.n, plEq_comm]
theorem opEq_refl (a : Op5) : opEq a a = true := by simp [opEq, plEq_refl]
theorem rvEq_comm (a b : Rv5) : rvEq a b = rvEq b a := by rw [rvEq, rvEq, dec_comm a.k, dec_comm a.nm, dec_comm a.vr, plEq_comm, eqL_comm opEq_comm]
theorem rvEq_refl (a : Rv5) : rvEq a a = true := by simp [rvEq, plEq_refl, eqL_refl opEq_refl]
mutual
theorem stEq_comm : ∀ a b, stEq a b = stEq b a
  | .mk k _ nm ty p rv op _ th _ el _ ar, .mk k' _ nm' ty' p' rv' op' _ th' _ el' _ ar' => by
    rw [stEq, stEq, dec_comm k k', dec_comm nm nm', tyEq_comm ty ty', plEq_comm p p', rvEq_comm rv rv', opEq_comm op op', stsEq_comm th th', stsEq_comm el el', arsEq_comm ar ar']
theorem stsEq_comm : ∀ a b, stsEq a b = stsEq b a
  | [], [] => rfl
  | [], _ :: _ => by rw [stsEq_eq, stsEq_eq]; rfl
  | _ :: _, [] => by rw [stsEq_eq, stsEq_eq]; rfl
  | x :: a, y :: b => by rw [stsEq, stsEq, stEq_comm x y, stsEq_comm a b]
theorem arEq_comm : ∀ a b, arEq a b = arEq b a
  | .mk vr bi _ body, .mk vr' bi' _ body' => by rw [arEq, arEq, dec_comm vr vr', dec_comm bi bi', stsEq_comm body body']
theorem arsEq_comm : ∀ a b, arsEq a b = arsEq b a
  | [], [] => rfl
  | [], _ :: _ => by rw [arsEq_eq, arsEq_eq]; rfl
  | _ :: _, [] => by rw [arsEq_eq, arsEq_eq]; rfl
  | x :: a, y :: b => by rw [arsEq, arsEq, arEq_comm x y, arsEq_comm a b]
end
mutual
theorem stEq_refl : ∀ a, stEq a a = true
  | .mk k _ nm ty p rv op _ th _ el _ ar => by rw [stEq, tyEq_refl, plEq_refl, rvEq_refl, opEq_refl, stsEq_refl th, stsEq_refl el, arsEq_refl ar]; simp
theorem stsEq_refl : ∀ a, stsEq a a = true
  | [] => by rw [stsEq]
  | x :: a => by rw [stsEq, stEq_refl x, stsEq_refl a]; rfl
theorem arEq_refl : ∀ a, arEq a a = true
  | .mk vr bi _ body => by rw [arEq, stsEq_refl body]; simp
theorem arsEq_refl : ∀ a, arsEq a a = true
  | [] => by rw [arsEq]
  | x :: a => by rw [arsEq, arEq_refl x, arsEq_refl a]; rfl
end
theorem fdEq_comm (a b : Fd5) : fdEq a b = fdEq b a := by rw [fdEq, fdEq, dec_comm a.nm, tyEq_comm]
theorem fdEq_refl (a : Fd5) : fdEq a a = true := by simp [fdEq, tyEq_refl]
theorem suEq_comm (a b : Su5) : suEq a b = suEq b a := by rw [suEq, suEq, dec_comm a.nm, dec_comm a.drop, eqL_comm fdEq_comm]
theorem suEq_refl (a : Su5) : suEq a a = true := by simp [suEq, eqL_refl fdEq_refl]
theorem enEq_comm (a b : En5) : enEq a b = enEq b a := by rw [enEq, enEq, dec_comm a.nm, eqL_comm fdEq_comm]
theorem enEq_refl (a : En5) : enEq a a = true := by simp [enEq, eqL_refl fdEq_refl]
theorem fnEq_comm (a b : Fn5) : fnEq a b = fnEq b a := by rw [fnEq, fnEq, dec_comm a.nm, eqL_comm fdEq_comm, eqL_comm stEq_comm]
theorem fnEq_refl (a : Fn5) : fnEq a a = true := by simp [fnEq, eqL_refl fdEq_refl, eqL_refl stEq_refl]
theorem soEq_comm (a b : So5) : soEq a b = soEq b a := by rw [soEq, soEq, eqL_comm suEq_comm, eqL_comm enEq_comm, eqL_comm fnEq_comm]
theorem soEq_refl (a : So5) : soEq a a = true := by simp [soEq, eqL_refl suEq_refl, eqL_refl enEq_refl, eqL_refl fnEq_refl]

theorem eqL_nil {α : Type} (g : α → α → Bool) : ∀ l : List α, eqL g l [] = decide (l.length = 0)
  | [] => rfl
  | _ :: _ => rfl
theorem int_eq0 (k z : Int) : decide (k = z) = (k == z) := by rw [Bool.eq_iff_iff]; simp

set_option maxRecDepth 100000 in
set_option maxHeartbeats 2000000 in
theorem rgreat_any (s : ByteArray) (w : World) : Calls Tryz.prog 28 #[.string s] w fun e w' => e = .returned (.bool (greatN s)) ∧ Below w.heap.size w w' := by
  have h1 := Lib.hid (rupper_any s)
  have h2 := Lib.hid (rreserved_any s)
  have HG : greatN s = (upperB (bs s) && !resB (bs s)) := by
    unfold greatN freeN upperB
    cases wordB (bs s) <;> cases resB (bs s) <;> simp
  rw [HG]
  clear HG
  generalize upperB (bs s) = b1 at h1 ⊢
  generalize resB (bs s) = b2 at h2 ⊢
  cases b1 with
  | false =>
    go_enter Tryz.func28, Tryz.ntmps28
    go_wp2_with (go_at_call 63; refine (h1.out _).mono ?_; rintro e w1 ⟨rfl, rfl⟩)
    go_ret
    exact ⟨by first | done | rfl, Below.refl _ _⟩
  | true =>
  cases b2 with
  | false =>
    go_enter Tryz.func28, Tryz.ntmps28
    go_wp2_with (first | (go_at_call 63; refine (h1.out _).mono ?_; rintro e w1 ⟨rfl, rfl⟩) | (go_at_call 64; refine (h2.out _).mono ?_; rintro e w2 ⟨rfl, hb⟩; have HB := Lib.hid hb; clear hb))
    go_ret
    exact ⟨by first | done | rfl, HB.out⟩
  | true =>
    go_enter Tryz.func28, Tryz.ntmps28
    go_wp2_with (first | (go_at_call 63; refine (h1.out _).mono ?_; rintro e w1 ⟨rfl, rfl⟩) | (go_at_call 64; refine (h2.out _).mono ?_; rintro e w2 ⟨rfl, hb⟩; have HB := Lib.hid hb; clear hb))
    go_ret
    exact ⟨by first | done | rfl, HB.out⟩

set_option maxRecDepth 100000 in
set_option maxHeartbeats 2000000 in
theorem rsmall_any (s : ByteArray) (w : World) : Calls Tryz.prog 32 #[.string s] w fun e w' => e = .returned (.bool (smallN s)) ∧ Below w.heap.size w w' := by
  have h0 := Lib.hid (rword_any s)
  have h1 := Lib.hid (rupper_any s)
  have h2 := Lib.hid (rreserved_any s)
  have HG : smallN s = (wordB (bs s) && !upperB (bs s) && !resB (bs s)) := by
    unfold smallN freeN
    cases wordB (bs s) <;> cases resB (bs s) <;> simp
  rw [HG]
  clear HG
  generalize wordB (bs s) = b0 at h0 ⊢
  generalize upperB (bs s) = b1 at h1 ⊢
  generalize resB (bs s) = b2 at h2 ⊢
  cases b0 with
  | false =>
    go_enter Tryz.func32, Tryz.ntmps32
    go_wp2_with (first | (go_at_call 65; refine (h0.out _).mono ?_; rintro e w1 ⟨rfl, rfl⟩) | (go_at_call 63; refine (h1.out _).mono ?_; rintro e w1 ⟨rfl, rfl⟩))
    go_ret
    exact ⟨by first | done | rfl, Below.refl _ _⟩
  | true =>
  cases b1 with
  | true =>
    go_enter Tryz.func32, Tryz.ntmps32
    go_wp2_with (first | (go_at_call 65; refine (h0.out _).mono ?_; rintro e w1 ⟨rfl, rfl⟩) | (go_at_call 63; refine (h1.out _).mono ?_; rintro e w1 ⟨rfl, rfl⟩))
    go_ret
    exact ⟨by first | done | rfl, Below.refl _ _⟩
  | false =>
  cases b2 with
  | false =>
    go_enter Tryz.func32, Tryz.ntmps32
    go_wp2_with (first | (go_at_call 65; refine (h0.out _).mono ?_; rintro e w1 ⟨rfl, rfl⟩) | (go_at_call 63; refine (h1.out _).mono ?_; rintro e w1 ⟨rfl, rfl⟩) | (go_at_call 64; refine (h2.out _).mono ?_; rintro e w2 ⟨rfl, hb⟩; have HB := Lib.hid hb; clear hb))
    go_ret
    exact ⟨by first | done | rfl, HB.out⟩
  | true =>
    go_enter Tryz.func32, Tryz.ntmps32
    go_wp2_with (first | (go_at_call 65; refine (h0.out _).mono ?_; rintro e w1 ⟨rfl, rfl⟩) | (go_at_call 63; refine (h1.out _).mono ?_; rintro e w1 ⟨rfl, rfl⟩) | (go_at_call 64; refine (h2.out _).mono ?_; rintro e w2 ⟨rfl, hb⟩; have HB := Lib.hid hb; clear hb))
    go_ret
    exact ⟨by first | done | rfl, HB.out⟩

set_option maxRecDepth 100000 in
set_option maxHeartbeats 4000000 in
theorem rnoPlace_any (p : Pl5) (w : World) : Calls Tryz.prog 90 #[plV p] w fun e w' => e = .returned (.bool (noPl p)) ∧ Below w.heap.size w w' := by
  obtain ⟨pn1, ph1, pp1⟩ := p
  obtain ⟨R, hR⟩ : ∃ R, R = (noPl ⟨pn1, ph1, pp1⟩) := ⟨_, rfl⟩
  rw [← hR]
  replace hR : R = ((emptyN pn1) && (decide (pp1.length = 0))) := hR.trans (by rw [noPl, plEq, plZ, eqL_nil]; rfl)
  obtain ⟨b0, hb0⟩ : ∃ b, b = (emptyN pn1) := ⟨_, rfl⟩
  rw [← hb0] at hR
  obtain ⟨b1, hb1⟩ : ∃ b, b = (decide (pp1.length = 0)) := ⟨_, rfl⟩
  rw [← hb1] at hR
  simp only [plV, plC]
  obtain ⟨W0, hW0⟩ : ∃ W, W = (w.alloc (.cells #[.string pn1, .slice ph1.oa pp1.length ph1.cap] 39)) := ⟨_, rfl⟩
  have HW0 : Below w.heap.size w W0 := by rw [hW0]; exact (Below.refl _ _).alloc (Nat.le_refl _) _
  replace HW0 := Lib.hid HW0
  cases b0 with
  | false =>
    obtain ⟨em0a, em0b⟩ := empty_no hb0.symm
    clear hb0
    clear hb1
    have HR := Lib.hid (show R = false by rw [hR]; first | done | rfl)
    clear hR
    go_enter Tryz.func90, Tryz.ntmps90
    go_wp2_with fail
    go_ret
    exact ⟨by rw [HR.out]; first | done | rfl, (by rw [← hW0]; exact HW0.out)⟩
  | true =>
    obtain rfl := empty_of hb0.symm
    clear hb0
    cases b1 with
    | false =>
      have tl1 : ((pp1.length : Int) == 0) = false := by have : ¬ pp1.length = 0 := of_decide_eq_false hb1.symm; simpa using this
      clear hb1
      have HR := Lib.hid (show R = false by rw [hR]; first | done | rfl)
      clear hR
      go_enter Tryz.func90, Tryz.ntmps90
      go_wp2_with fail
      go_ret
      exact ⟨by rw [HR.out]; first | done | rfl, (by rw [← hW0]; exact HW0.out)⟩
    | true =>
      have tl1 : ((pp1.length : Int) == 0) = true := by have : pp1.length = 0 := (of_decide_eq_true hb1.symm); simp [this]
      clear hb1
      have HR := Lib.hid (show R = true by rw [hR]; first | done | rfl)
      clear hR
      go_enter Tryz.func90, Tryz.ntmps90
      go_wp2_with fail
      go_ret
      exact ⟨by rw [HR.out]; first | done | rfl, (by rw [← hW0]; exact HW0.out)⟩

set_option maxRecDepth 100000 in
set_option maxHeartbeats 4000000 in
theorem rnoTy_any (t : Ty5) (w : World) : Calls Tryz.prog 30 #[tyV t] w fun e w' => e = .returned (.bool (tyEq t tyZ)) ∧ Below w.heap.size w w' := by
  obtain ⟨k1, nm1, h1, l1⟩ := t
  obtain ⟨R, hR⟩ : ∃ R, R = (tyEq (.mk k1 nm1 h1 l1) tyZ) := ⟨_, rfl⟩
  rw [← hR]
  replace hR : R = ((decide (k1 = 0)) && (emptyN nm1) && (decide (l1.length = 0))) := hR.trans (by rw [tyZ, tyEq, tysEq_eq, eqL_nil]; rfl)
  obtain ⟨b0, hb0⟩ : ∃ b, b = (decide (k1 = 0)) := ⟨_, rfl⟩
  rw [← hb0] at hR
  obtain ⟨b1, hb1⟩ : ∃ b, b = (emptyN nm1) := ⟨_, rfl⟩
  rw [← hb1] at hR
  obtain ⟨b2, hb2⟩ : ∃ b, b = (decide (l1.length = 0)) := ⟨_, rfl⟩
  rw [← hb2] at hR
  simp only [tyV, tyC]
  obtain ⟨W0, hW0⟩ : ∃ W, W = (w.alloc (.cells #[.int .i64 k1, .string nm1, .slice h1.oa l1.length h1.cap] 45)) := ⟨_, rfl⟩
  have HW0 : Below w.heap.size w W0 := by rw [hW0]; exact (Below.refl _ _).alloc (Nat.le_refl _) _
  replace HW0 := Lib.hid HW0
  cases b0 with
  | false =>
    have tn0 : (k1 == 0) = false := by have : ¬ k1 = 0 := of_decide_eq_false hb0.symm; simpa using this
    clear hb0
    clear hb1
    clear hb2
    have HR := Lib.hid (show R = false by rw [hR]; first | done | rfl)
    clear hR
    go_enter Tryz.func30, Tryz.ntmps30
    go_wp2_with fail
    go_ret
    exact ⟨by rw [HR.out]; first | done | rfl, (by rw [← hW0]; exact HW0.out)⟩
  | true =>
    have tn0 : (k1 == 0) = true := by have : k1 = 0 := of_decide_eq_true hb0.symm; simpa using this
    clear hb0
    cases b1 with
    | false =>
      obtain ⟨em1a, em1b⟩ := empty_no hb1.symm
      clear hb1
      clear hb2
      have HR := Lib.hid (show R = false by rw [hR]; first | done | rfl)
      clear hR
      go_enter Tryz.func30, Tryz.ntmps30
      go_wp2_with fail
      go_ret
      exact ⟨by rw [HR.out]; first | done | rfl, (by rw [← hW0]; exact HW0.out)⟩
    | true =>
      obtain rfl := empty_of hb1.symm
      clear hb1
      cases b2 with
      | false =>
        have tl2 : ((l1.length : Int) == 0) = false := by have : ¬ l1.length = 0 := of_decide_eq_false hb2.symm; simpa using this
        clear hb2
        have HR := Lib.hid (show R = false by rw [hR]; first | done | rfl)
        clear hR
        go_enter Tryz.func30, Tryz.ntmps30
        go_wp2_with fail
        go_ret
        exact ⟨by rw [HR.out]; first | done | rfl, (by rw [← hW0]; exact HW0.out)⟩
      | true =>
        have tl2 : ((l1.length : Int) == 0) = true := by have : l1.length = 0 := (of_decide_eq_true hb2.symm); simp [this]
        clear hb2
        have HR := Lib.hid (show R = true by rw [hR]; first | done | rfl)
        clear hR
        go_enter Tryz.func30, Tryz.ntmps30
        go_wp2_with fail
        go_ret
        exact ⟨by rw [HR.out]; first | done | rfl, (by rw [← hW0]; exact HW0.out)⟩

set_option maxRecDepth 100000 in
set_option maxHeartbeats 4000000 in
theorem rnoOper_pl (oi1 : Int) (pn1 : ByteArray) (ph1 : Hd) (pp1 : List ByteArray) (w : World) : Calls Tryz.prog 92 #[opV ⟨false, oi1, ⟨pn1, ph1, pp1⟩⟩] w fun e w' => e = .returned (.bool (opEq ⟨false, oi1, ⟨pn1, ph1, pp1⟩⟩ opZ)) ∧ Below w.heap.size w w' := by
  obtain ⟨R, hR⟩ : ∃ R, R = (opEq ⟨false, oi1, ⟨pn1, ph1, pp1⟩⟩ opZ) := ⟨_, rfl⟩
  rw [← hR]
  replace hR : R = ((decide (oi1 = 0)) && (noPl ⟨pn1, ph1, pp1⟩)) := hR.trans (by rw [opZ, opEq, noPl]; simp)
  obtain ⟨b0, hb0⟩ : ∃ b, b = (decide (oi1 = 0)) := ⟨_, rfl⟩
  rw [← hb0] at hR
  have hc1 : ∀ W, Below w.heap.size w W → Calls Tryz.prog 90 #[plV ⟨pn1, ph1, pp1⟩] W fun e w' => e = .returned (.bool (noPl ⟨pn1, ph1, pp1⟩)) ∧ Below W.heap.size W w' := fun W hW => rnoPlace_any _ W
  obtain ⟨b1, hb1⟩ : ∃ b, b = (noPl ⟨pn1, ph1, pp1⟩) := ⟨_, rfl⟩
  rw [← hb1] at hR hc1
  clear hb1
  simp only [plV, plC] at hc1
  replace hc1 := Lib.hid hc1
  simp only [opV, opC, plC, List.cons_append, List.nil_append]
  obtain ⟨W0, hW0⟩ : ∃ W, W = (w.alloc (.cells #[.bool false, .int .i64 oi1, .string pn1, .slice ph1.oa pp1.length ph1.cap] 41)) := ⟨_, rfl⟩
  have HW0 : Below w.heap.size w W0 := by rw [hW0]; exact (Below.refl _ _).alloc (Nat.le_refl _) _
  replace HW0 := Lib.hid HW0
  cases b0 with
  | false =>
    have tn0 : (oi1 == 0) = false := by have : ¬ oi1 = 0 := of_decide_eq_false hb0.symm; simpa using this
    clear hb0
    have HR := Lib.hid (show R = false by rw [hR]; first | done | rfl)
    clear hR
    go_enter Tryz.func92, Tryz.ntmps92
    go_wp2_with fail
    go_ret
    exact ⟨by rw [HR.out]; first | done | rfl, (by rw [← hW0]; exact HW0.out)⟩
  | true =>
    have tn0 : (oi1 == 0) = true := by have : oi1 = 0 := of_decide_eq_true hb0.symm; simpa using this
    clear hb0
    cases b1 with
    | false =>
      have HR := Lib.hid (show R = false by rw [hR]; first | done | rfl)
      clear hR
      go_enter Tryz.func92, Tryz.ntmps92
      go_wp2_with fail
      rw [← hW0]
      clear hW0
      refine (hc1.out _ HW0.out).mono ?_
      rintro e w1 ⟨rfl, hb1'⟩
      have B1 := Lib.hid (HW0.out.trans (hb1'.mono HW0.out.size))
      have K1 := Lib.hid hb1'
      clear hb1'
      go_wp2_with fail
      go_ret
      exact ⟨by rw [HR.out]; first | done | rfl, B1.out⟩
    | true =>
      have HR := Lib.hid (show R = true by rw [hR]; first | done | rfl)
      clear hR
      go_enter Tryz.func92, Tryz.ntmps92
      go_wp2_with fail
      rw [← hW0]
      clear hW0
      refine (hc1.out _ HW0.out).mono ?_
      rintro e w1 ⟨rfl, hb1'⟩
      have B1 := Lib.hid (HW0.out.trans (hb1'.mono HW0.out.size))
      have K1 := Lib.hid hb1'
      clear hb1'
      go_wp2_with fail
      go_ret
      exact ⟨by rw [HR.out]; first | done | rfl, B1.out⟩

set_option maxRecDepth 100000 in
set_option maxHeartbeats 2000000 in
theorem rnoOper_any (o : Op5) (w : World) : Calls Tryz.prog 92 #[opV o] w fun e w' => e = .returned (.bool (opEq o opZ)) ∧ Below w.heap.size w w' := by
  obtain ⟨num, n, ⟨pn, ph, pp⟩⟩ := o
  cases num with
  | false => exact rnoOper_pl n pn ph pp w
  | true =>
    have HR : opEq ⟨true, n, ⟨pn, ph, pp⟩⟩ opZ = false := by rw [opZ, opEq]; simp
    rw [HR]
    clear HR
    simp only [opV, opC, plC, List.cons_append, List.nil_append]
    go_enter Tryz.func92, Tryz.ntmps92
    go_wp2_with fail
    go_ret
    exact ⟨by first | done | rfl, alloc_below _ _⟩

set_option maxRecDepth 100000 in
set_option maxHeartbeats 4000000 in
theorem rnoRv_any (v : Rv5) (w : World) : Calls Tryz.prog 91 #[rvV v] w fun e w' => e = .returned (.bool (rvEq v rvZ)) ∧ Below w.heap.size w w' := by
  obtain ⟨rk1, rh1, ro1, ⟨pnr1, phr1, ppr1⟩, rn1, rr1⟩ := v
  obtain ⟨R, hR⟩ : ∃ R, R = (rvEq ⟨rk1, rh1, ro1, ⟨pnr1, phr1, ppr1⟩, rn1, rr1⟩ rvZ) := ⟨_, rfl⟩
  rw [← hR]
  replace hR : R = ((decide (rk1 = 0)) && (decide (ro1.length = 0)) && (noPl ⟨pnr1, phr1, ppr1⟩) && (emptyN rn1) && (emptyN rr1)) := hR.trans (by rw [rvZ, rvEq, eqL_nil]; simp only [noPl, emptyN]; ac_rfl)
  obtain ⟨b0, hb0⟩ : ∃ b, b = (decide (rk1 = 0)) := ⟨_, rfl⟩
  rw [← hb0] at hR
  obtain ⟨b1, hb1⟩ : ∃ b, b = (decide (ro1.length = 0)) := ⟨_, rfl⟩
  rw [← hb1] at hR
  have hc2 : ∀ W, Below w.heap.size w W → Calls Tryz.prog 90 #[plV ⟨pnr1, phr1, ppr1⟩] W fun e w' => e = .returned (.bool (noPl ⟨pnr1, phr1, ppr1⟩)) ∧ Below W.heap.size W w' := fun W hW => rnoPlace_any _ W
  obtain ⟨b2, hb2⟩ : ∃ b, b = (noPl ⟨pnr1, phr1, ppr1⟩) := ⟨_, rfl⟩
  rw [← hb2] at hR hc2
  clear hb2
  simp only [plV, plC] at hc2
  replace hc2 := Lib.hid hc2
  obtain ⟨b3, hb3⟩ : ∃ b, b = (emptyN rn1) := ⟨_, rfl⟩
  rw [← hb3] at hR
  obtain ⟨b4, hb4⟩ : ∃ b, b = (emptyN rr1) := ⟨_, rfl⟩
  rw [← hb4] at hR
  simp only [rvV, rvC, plC, List.cons_append, List.nil_append]
  obtain ⟨W0, hW0⟩ : ∃ W, W = (w.alloc (.cells #[.int .i64 rk1, .slice rh1.oa ro1.length rh1.cap, .string pnr1, .slice phr1.oa ppr1.length phr1.cap, .string rn1, .string rr1] 49)) := ⟨_, rfl⟩
  have HW0 : Below w.heap.size w W0 := by rw [hW0]; exact (Below.refl _ _).alloc (Nat.le_refl _) _
  replace HW0 := Lib.hid HW0
  have r0 : W0.rangeAt (w.heap.size) 0 [.int .i64 rk1, .slice rh1.oa ro1.length rh1.cap, .string pnr1, .slice phr1.oa ppr1.length phr1.cap, .string rn1, .string rr1] := by
    have := rangeAt_box w [.int .i64 rk1, .slice rh1.oa ro1.length rh1.cap, .string pnr1, .slice phr1.oa ppr1.length phr1.cap, .string rn1, .string rr1] 49
    rw [hW0]
    simpa using this
  have hz2 := Lib.hid (show ∀ w', Below W0.heap.size W0 w' → (w'.cell? ⟨w.heap.size, 4, none⟩ = some (.string rn1) ∧ w'.cell? ⟨w.heap.size, 5, none⟩ = some (.string rr1)) from fun w' hb => ⟨rangeAt_below r0 hb 4 _ rfl, rangeAt_below r0 hb 5 _ rfl⟩)
  clear r0
  cases b0 with
  | false =>
    have tn0 : (rk1 == 0) = false := by have : ¬ rk1 = 0 := of_decide_eq_false hb0.symm; simpa using this
    clear hb0
    clear hb1
    clear hb3
    clear hb4
    have HR := Lib.hid (show R = false by rw [hR]; first | done | rfl)
    clear hR
    go_enter Tryz.func91, Tryz.ntmps91
    go_wp2_with fail
    go_ret
    exact ⟨by rw [HR.out]; first | done | rfl, (by rw [← hW0]; exact HW0.out)⟩
  | true =>
    have tn0 : (rk1 == 0) = true := by have : rk1 = 0 := of_decide_eq_true hb0.symm; simpa using this
    clear hb0
    cases b1 with
    | false =>
      have tl1 : ((ro1.length : Int) == 0) = false := by have : ¬ ro1.length = 0 := of_decide_eq_false hb1.symm; simpa using this
      clear hb1
      clear hb3
      clear hb4
      have HR := Lib.hid (show R = false by rw [hR]; first | done | rfl)
      clear hR
      go_enter Tryz.func91, Tryz.ntmps91
      go_wp2_with fail
      go_ret
      exact ⟨by rw [HR.out]; first | done | rfl, (by rw [← hW0]; exact HW0.out)⟩
    | true =>
      have tl1 : ((ro1.length : Int) == 0) = true := by have : ro1.length = 0 := (of_decide_eq_true hb1.symm); simp [this]
      clear hb1
      cases b2 with
      | false =>
        clear hb3
        clear hb4
        have HR := Lib.hid (show R = false by rw [hR]; first | done | rfl)
        clear hR
        go_enter Tryz.func91, Tryz.ntmps91
        go_wp2_with fail
        rw [← hW0]
        clear hW0
        refine (hc2.out _ HW0.out).mono ?_
        rintro e w1 ⟨rfl, hb1'⟩
        have B1 := Lib.hid (HW0.out.trans (hb1'.mono HW0.out.size))
        have K1 := Lib.hid hb1'
        clear hb1'
        obtain ⟨z2_0, z2_1⟩ := hz2.out _ K1.out
        go_wp2_with fail
        go_ret
        exact ⟨by rw [HR.out]; first | done | rfl, B1.out⟩
      | true =>
        cases b3 with
        | false =>
          obtain ⟨em3a, em3b⟩ := empty_no hb3.symm
          clear hb3
          clear hb4
          have HR := Lib.hid (show R = false by rw [hR]; first | done | rfl)
          clear hR
          go_enter Tryz.func91, Tryz.ntmps91
          go_wp2_with fail
          rw [← hW0]
          clear hW0
          refine (hc2.out _ HW0.out).mono ?_
          rintro e w1 ⟨rfl, hb1'⟩
          have B1 := Lib.hid (HW0.out.trans (hb1'.mono HW0.out.size))
          have K1 := Lib.hid hb1'
          clear hb1'
          obtain ⟨z2_0, z2_1⟩ := hz2.out _ K1.out
          go_wp2_with fail
          go_ret
          exact ⟨by rw [HR.out]; first | done | rfl, B1.out⟩
        | true =>
          obtain rfl := empty_of hb3.symm
          clear hb3
          cases b4 with
          | false =>
            obtain ⟨em4a, em4b⟩ := empty_no hb4.symm
            clear hb4
            have HR := Lib.hid (show R = false by rw [hR]; first | done | rfl)
            clear hR
            go_enter Tryz.func91, Tryz.ntmps91
            go_wp2_with fail
            rw [← hW0]
            clear hW0
            refine (hc2.out _ HW0.out).mono ?_
            rintro e w1 ⟨rfl, hb1'⟩
            have B1 := Lib.hid (HW0.out.trans (hb1'.mono HW0.out.size))
            have K1 := Lib.hid hb1'
            clear hb1'
            obtain ⟨z2_0, z2_1⟩ := hz2.out _ K1.out
            go_wp2_with fail
            go_ret
            exact ⟨by rw [HR.out]; first | done | rfl, B1.out⟩
          | true =>
            obtain rfl := empty_of hb4.symm
            clear hb4
            have HR := Lib.hid (show R = true by rw [hR]; first | done | rfl)
            clear hR
            go_enter Tryz.func91, Tryz.ntmps91
            go_wp2_with fail
            rw [← hW0]
            clear hW0
            refine (hc2.out _ HW0.out).mono ?_
            rintro e w1 ⟨rfl, hb1'⟩
            have B1 := Lib.hid (HW0.out.trans (hb1'.mono HW0.out.size))
            have K1 := Lib.hid hb1'
            clear hb1'
            obtain ⟨z2_0, z2_1⟩ := hz2.out _ K1.out
            go_wp2_with fail
            go_ret
            exact ⟨by rw [HR.out]; first | done | rfl, B1.out⟩

set_option maxRecDepth 100000 in
set_option maxHeartbeats 4000000 in
theorem rvalidPlace_bare (p : Pl5) (w : World) (hP : PlH w p) : Calls Tryz.prog 94 #[plV p, .bool true] w fun e w' => e = .returned (.bool (aloneB p)) ∧ Below w.heap.size w w' := by
  obtain ⟨n1, ⟨oa, capa⟩, la⟩ := p
  obtain ⟨ha1, ha2, ha3, -⟩ := hP
  dsimp only at ha1 ha2 ha3
  unfold maxLen at ha2
  replace ha3 := Lib.hid ha3
  obtain ⟨R, hR⟩ : ∃ R, R = aloneB ⟨n1, ⟨oa, capa⟩, la⟩ := ⟨_, rfl⟩
  rw [← hR]
  replace hR : R = (smallN n1 && decide (la.length = 0)) := hR
  simp only [plV, plC]
  have hs := Lib.hid (fun W => rsmall_any n1 W)
  have hb0 := alloc_below w (.cells #[.string n1, .slice oa la.length capa] 39)
  have hx0 := heap_alloc_new w (.cells #[.string n1, .slice oa la.length capa] 39)
  obtain ⟨W0, hW0⟩ : ∃ W, W = w.alloc (.cells #[.string n1, .slice oa la.length capa] 39) := ⟨_, rfl⟩
  rw [← hW0] at hb0 hx0
  have HB0 := Lib.hid hb0
  have HX0 := Lib.hid hx0
  clear hb0 hx0
  generalize smallN n1 = b0 at hR hs
  cases b0 with
  | false =>
    have HR := Lib.hid (show R = false by rw [hR]; rfl)
    clear hR
    go_enter Tryz.func94, Tryz.ntmps94
    go_wp2_with (go_at_call 32; refine (hs.out _).mono ?_; rintro e w1 ⟨rfl, hb⟩; rw [← hW0] at hb; have HB1 := Lib.hid (HB0.out.trans (hb.mono HB0.out.size)); clear hb)
    go_ret
    exact ⟨by rw [HR.out]; first | done | rfl, HB1.out⟩
  | true =>
    rw [Bool.true_and] at hR
    by_cases hl : la.length = 0
    · have HR := Lib.hid (show R = true by rw [hR]; simp [hl])
      have tp : ¬ 0 < la.length := by omega
      clear hR hl
      go_enter Tryz.func94, Tryz.ntmps94
      go_wp2_with (go_at_call 32; refine (hs.out _).mono ?_; rintro e w1 ⟨rfl, hb⟩; rw [← hW0] at hb; have HX1 := Lib.hid (keepB HX0.out hb); obtain ⟨x0, x1, -⟩ := cells2 HX1.out; have HB1 := Lib.hid (HB0.out.trans (hb.mono HB0.out.size)); clear hb)
      go_loopw [5] (fun u wr => u = .int .i64 0 ∧ Below w.heap.size w wr ∧ wr.heap[w.heap.size]? = some (.cells #[.string n1, .slice oa la.length capa] 39)) (fun _ _ => 0)
      case atStart => exact ⟨rfl, HB1.out, HX1.out⟩
      case round =>
        obtain ⟨rfl, hbw, hx⟩ := hrel
        obtain ⟨y0, y1, -⟩ := cells2 hx
        go_wp2
        go_ret
        exact ⟨by rw [HR.out]; first | done | rfl, hbw⟩
    · have HR := Lib.hid (show R = false by rw [hR]; simp [hl])
      have tp : decide (0 < (la.length : Int)) = true := by simp; omega
      clear hR
      go_enter Tryz.func94, Tryz.ntmps94
      go_wp2_with (go_at_call 32; refine (hs.out _).mono ?_; rintro e w1 ⟨rfl, hb⟩; rw [← hW0] at hb; have HX1 := Lib.hid (keepB HX0.out hb); obtain ⟨x0, x1, -⟩ := cells2 HX1.out; have HB1 := Lib.hid (HB0.out.trans (hb.mono HB0.out.size)); clear hb)
      go_ret
      exact ⟨by rw [HR.out]; first | done | rfl, HB1.out⟩

set_option maxRecDepth 100000 in
set_option maxHeartbeats 4000000 in
theorem rvalidPlace_any (p : Pl5) (w : World) (hP : PlH w p) : Calls Tryz.prog 94 #[plV p, .bool false] w fun e w' => e = .returned (.bool (plOk p)) ∧ Below w.heap.size w w' := by
  obtain ⟨n1, ⟨oa, capa⟩, la⟩ := p
  obtain ⟨ha1, ha2, ha3, -⟩ := hP
  dsimp only at ha1 ha2 ha3
  unfold maxLen at ha2
  replace ha3 := Lib.hid ha3
  obtain ⟨R, hR⟩ : ∃ R, R = plOk ⟨n1, ⟨oa, capa⟩, la⟩ := ⟨_, rfl⟩
  rw [← hR]
  replace hR : R = (smallN n1 && la.all stepOk) := hR
  simp only [plV, plC]
  have hs := Lib.hid (fun W => rsmall_any n1 W)
  have hb0 := alloc_below w (.cells #[.string n1, .slice oa la.length capa] 39)
  have hx0 := heap_alloc_new w (.cells #[.string n1, .slice oa la.length capa] 39)
  obtain ⟨W0, hW0⟩ : ∃ W, W = w.alloc (.cells #[.string n1, .slice oa la.length capa] 39) := ⟨_, rfl⟩
  rw [← hW0] at hb0 hx0
  have HB0 := Lib.hid hb0
  have HX0 := Lib.hid hx0
  clear hb0 hx0
  generalize smallN n1 = b0 at hR hs
  cases b0 with
  | false =>
    have HR := Lib.hid (show R = false by rw [hR]; rfl)
    clear hR
    go_enter Tryz.func94, Tryz.ntmps94
    go_wp2_with (go_at_call 32; refine (hs.out _).mono ?_; rintro e w1 ⟨rfl, hb⟩; rw [← hW0] at hb; have HB1 := Lib.hid (HB0.out.trans (hb.mono HB0.out.size)); clear hb)
    go_ret
    exact ⟨by rw [HR.out]; first | done | rfl, HB1.out⟩
  | true =>
    rw [Bool.true_and] at hR
    have HR := Lib.hid hR
    clear hR
    go_enter Tryz.func94, Tryz.ntmps94
    go_wp2_with (go_at_call 32; refine (hs.out _).mono ?_; rintro e w1 ⟨rfl, hb⟩; rw [← hW0] at hb; have HX1 := Lib.hid (keepB HX0.out hb); obtain ⟨x0, x1, -⟩ := cells2 HX1.out; have HB1 := Lib.hid (HB0.out.trans (hb.mono HB0.out.size)); clear hb)
    clear x0 x1
    go_loopw [5] (fun u wr => ∃ j : Nat, j ≤ la.length ∧ u = .int .i64 j ∧ (la.drop j).all stepOk = R ∧ Below w.heap.size w wr ∧ wr.heap[w.heap.size]? = some (.cells #[.string n1, .slice oa la.length capa] 39)) (fun u _ => la.length - (intOf u).toNat)
    case atStart => exact ⟨0, by omega, rfl, by simpa using HR.out.symm, HB1.out, HX1.out⟩
    case round =>
      clear HB1 HX1 HR HB0 HX0
      obtain ⟨j, hj, rfl, hs', hbw, hx⟩ := hrel
      obtain ⟨x0, x1, -⟩ := cells2 hx
      have HS := Lib.hid hs'
      have HX := Lib.hid hx
      clear hs' hx
      by_cases hjl : j < la.length
      · have t1 : decide ((j : Int) < la.length) = true := by simp; omega
        obtain ⟨ba, offa, rfl, hxlt, hxc⟩ := ha3.out (by omega)
        obtain ⟨x, hx⟩ : ∃ x, la[j]? = some x := ⟨_, List.getElem?_eq_getElem hjl⟩
        have hdx : la.drop j = x :: la.drop (j + 1) := by rw [List.drop_eq_getElem_cons hjl]; rw [List.getElem?_eq_getElem hjl] at hx; rw [Option.some.inj hx]
        have HD := Lib.hid (show (stepOk x && (la.drop (j + 1)).all stepOk) = R by rw [← HS.out, hdx, List.all_cons])
        have gx0 : wr.cell? ⟨ba, offa + j, none⟩ = some (.string x) := (hbw.cell (p := ⟨ba, offa + j, none⟩) hxlt).trans (by simpa using hxc j _ hx 0 _ rfl)
        have HBW := Lib.hid hbw
        clear hx hxc hdx HS hbw
        cases he : emptyN x with
        | true =>
          have HE := Lib.hid (show stepOk x = true by rw [stepOk, he]; rfl)
          obtain rfl := empty_of he
          clear he
          go_wp2
          go_roundw
          case rel => exact ⟨j + 1, by omega, by go_num, by rw [← HD.out, HE.out]; simp, HBW.out, HX.out⟩
          case measure => simp [intOf]; omega
        | false =>
          obtain ⟨e1, e2⟩ := empty_no he
          have hq := Lib.hid (fun W => rsmall_any x W)
          have HE := Lib.hid (show stepOk x = smallN x by rw [stepOk, he]; rfl)
          clear he
          generalize smallN x = b1 at hq HE
          cases b1 with
          | true =>
            go_wp2_with (go_at_call 32; refine (hq.out _).mono ?_; rintro e w1 ⟨rfl, hb⟩; have HB2 := Lib.hid (HBW.out.trans (hb.mono HBW.out.size)); have HX2 := Lib.hid ((hb.block _ (Array.getElem?_eq_some_iff.1 HX.out).1).trans HX.out); clear hb)
            go_roundw
            case rel => exact ⟨j + 1, by omega, by go_num, by rw [← HD.out, HE.out]; simp, HB2.out, HX2.out⟩
            case measure => simp [intOf]; omega
          | false =>
            go_wp2_with (go_at_call 32; refine (hq.out _).mono ?_; rintro e w1 ⟨rfl, hb⟩; have HB2 := Lib.hid (HBW.out.trans (hb.mono HBW.out.size)); clear hb)
            go_ret
            exact ⟨by rw [← HD.out, HE.out]; first | done | rfl, HB2.out⟩
      · have t1 : decide ((j : Int) < la.length) = false := by simp; omega
        obtain rfl : j = la.length := by omega
        have HZ := Lib.hid (show true = R by rw [← HS.out, List.drop_length]; rfl)
        go_wp2
        go_ret
        exact ⟨by rw [← HZ.out]; first | done | rfl, hbw⟩

set_option maxRecDepth 100000 in
set_option maxHeartbeats 4000000 in
theorem rvalidOper_num (oi1 : Int) (pn1 : ByteArray) (ph1 : Hd) (pp1 : List ByteArray) (w : World) : Calls Tryz.prog 95 #[opV ⟨true, oi1, ⟨pn1, ph1, pp1⟩⟩] w fun e w' => e = .returned (.bool (opOk ⟨true, oi1, ⟨pn1, ph1, pp1⟩⟩)) ∧ Below w.heap.size w w' := by
  obtain ⟨R, hR⟩ : ∃ R, R = (opOk ⟨true, oi1, ⟨pn1, ph1, pp1⟩⟩) := ⟨_, rfl⟩
  rw [← hR]
  replace hR : R = ((noPl ⟨pn1, ph1, pp1⟩) && (decide (oi1 ≠ -9223372036854775808))) := hR.trans (by rw [opOk, if_pos rfl, Bool.and_comm])
  have hc0 : ∀ W, Below w.heap.size w W → Calls Tryz.prog 90 #[plV ⟨pn1, ph1, pp1⟩] W fun e w' => e = .returned (.bool (noPl ⟨pn1, ph1, pp1⟩)) ∧ Below W.heap.size W w' := fun W hW => rnoPlace_any _ W
  obtain ⟨b0, hb0⟩ : ∃ b, b = (noPl ⟨pn1, ph1, pp1⟩) := ⟨_, rfl⟩
  rw [← hb0] at hR hc0
  clear hb0
  simp only [plV, plC] at hc0
  replace hc0 := Lib.hid hc0
  obtain ⟨b1, hb1⟩ : ∃ b, b = (decide (oi1 ≠ -9223372036854775808)) := ⟨_, rfl⟩
  rw [← hb1] at hR
  simp only [opV, opC, plC, List.cons_append, List.nil_append]
  obtain ⟨W0, hW0⟩ : ∃ W, W = (w.alloc (.cells #[.bool true, .int .i64 oi1, .string pn1, .slice ph1.oa pp1.length ph1.cap] 41)) := ⟨_, rfl⟩
  have HW0 : Below w.heap.size w W0 := by rw [hW0]; exact (Below.refl _ _).alloc (Nat.le_refl _) _
  replace HW0 := Lib.hid HW0
  have r0 : W0.rangeAt (w.heap.size) 0 [.bool true, .int .i64 oi1, .string pn1, .slice ph1.oa pp1.length ph1.cap] := by
    have := rangeAt_box w [.bool true, .int .i64 oi1, .string pn1, .slice ph1.oa pp1.length ph1.cap] 41
    rw [hW0]
    simpa using this
  have hz0 := Lib.hid (show ∀ w', Below W0.heap.size W0 w' → (w'.cell? ⟨w.heap.size, 1, none⟩ = some (.int .i64 oi1)) from fun w' hb => rangeAt_below r0 hb 1 _ rfl)
  clear r0
  cases b0 with
  | false =>
    clear hb1
    have HR := Lib.hid (show R = false by rw [hR]; first | done | rfl)
    clear hR
    go_enter Tryz.func95, Tryz.ntmps95
    go_wp2_with fail
    rw [← hW0]
    clear hW0
    refine (hc0.out _ HW0.out).mono ?_
    rintro e w1 ⟨rfl, hb1'⟩
    have B1 := Lib.hid (HW0.out.trans (hb1'.mono HW0.out.size))
    have K1 := Lib.hid hb1'
    clear hb1'
    have z0_0 := hz0.out _ K1.out
    go_wp2_with fail
    go_ret
    exact ⟨by rw [HR.out]; first | done | rfl, B1.out⟩
  | true =>
    cases b1 with
    | false =>
      have tn : (oi1 != -9223372036854775808) = false := by have : ¬ oi1 ≠ -9223372036854775808 := of_decide_eq_false hb1.symm; simpa using this
      clear hb1
      have HR := Lib.hid (show R = false by rw [hR]; first | done | rfl)
      clear hR
      go_enter Tryz.func95, Tryz.ntmps95
      go_wp2_with fail
      rw [← hW0]
      clear hW0
      refine (hc0.out _ HW0.out).mono ?_
      rintro e w1 ⟨rfl, hb1'⟩
      have B1 := Lib.hid (HW0.out.trans (hb1'.mono HW0.out.size))
      have K1 := Lib.hid hb1'
      clear hb1'
      have z0_0 := hz0.out _ K1.out
      go_wp2_with fail
      go_ret
      exact ⟨by rw [HR.out]; first | done | rfl, B1.out⟩
    | true =>
      have tn : (oi1 != -9223372036854775808) = true := by have : oi1 ≠ -9223372036854775808 := of_decide_eq_true hb1.symm; simpa using this
      clear hb1
      have HR := Lib.hid (show R = true by rw [hR]; first | done | rfl)
      clear hR
      go_enter Tryz.func95, Tryz.ntmps95
      go_wp2_with fail
      rw [← hW0]
      clear hW0
      refine (hc0.out _ HW0.out).mono ?_
      rintro e w1 ⟨rfl, hb1'⟩
      have B1 := Lib.hid (HW0.out.trans (hb1'.mono HW0.out.size))
      have K1 := Lib.hid hb1'
      clear hb1'
      have z0_0 := hz0.out _ K1.out
      go_wp2_with fail
      go_ret
      exact ⟨by rw [HR.out]; first | done | rfl, B1.out⟩

set_option maxRecDepth 100000 in
set_option maxHeartbeats 4000000 in
theorem rvalidOper_pl (oi1 : Int) (pn1 : ByteArray) (ph1 : Hd) (pp1 : List ByteArray) (w : World) (hP : PlH w ⟨pn1, ph1, pp1⟩) : Calls Tryz.prog 95 #[opV ⟨false, oi1, ⟨pn1, ph1, pp1⟩⟩] w fun e w' => e = .returned (.bool (opOk ⟨false, oi1, ⟨pn1, ph1, pp1⟩⟩)) ∧ Below w.heap.size w w' := by
  obtain ⟨R, hR⟩ : ∃ R, R = (opOk ⟨false, oi1, ⟨pn1, ph1, pp1⟩⟩) := ⟨_, rfl⟩
  rw [← hR]
  replace hR : R = ((decide (oi1 = 0)) && (plOk ⟨pn1, ph1, pp1⟩)) := hR.trans (by rfl)
  obtain ⟨b0, hb0⟩ : ∃ b, b = (decide (oi1 = 0)) := ⟨_, rfl⟩
  rw [← hb0] at hR
  have hc1 : ∀ W, Below w.heap.size w W → Calls Tryz.prog 94 #[plV ⟨pn1, ph1, pp1⟩, .bool false] W fun e w' => e = .returned (.bool (plOk ⟨pn1, ph1, pp1⟩)) ∧ Below W.heap.size W w' := fun W hW => rvalidPlace_any _ W (hP.below hW)
  obtain ⟨b1, hb1⟩ : ∃ b, b = (plOk ⟨pn1, ph1, pp1⟩) := ⟨_, rfl⟩
  rw [← hb1] at hR hc1
  clear hb1
  simp only [plV, plC] at hc1
  replace hc1 := Lib.hid hc1
  simp only [opV, opC, plC, List.cons_append, List.nil_append]
  obtain ⟨W0, hW0⟩ : ∃ W, W = (w.alloc (.cells #[.bool false, .int .i64 oi1, .string pn1, .slice ph1.oa pp1.length ph1.cap] 41)) := ⟨_, rfl⟩
  have HW0 : Below w.heap.size w W0 := by rw [hW0]; exact (Below.refl _ _).alloc (Nat.le_refl _) _
  replace HW0 := Lib.hid HW0
  cases b0 with
  | false =>
    have tn0 : (oi1 == 0) = false := by have : ¬ oi1 = 0 := of_decide_eq_false hb0.symm; simpa using this
    clear hb0
    have HR := Lib.hid (show R = false by rw [hR]; first | done | rfl)
    clear hR
    go_enter Tryz.func95, Tryz.ntmps95
    go_wp2_with fail
    go_ret
    exact ⟨by rw [HR.out]; first | done | rfl, (by rw [← hW0]; exact HW0.out)⟩
  | true =>
    have tn0 : (oi1 == 0) = true := by have : oi1 = 0 := of_decide_eq_true hb0.symm; simpa using this
    clear hb0
    cases b1 with
    | false =>
      have HR := Lib.hid (show R = false by rw [hR]; first | done | rfl)
      clear hR
      go_enter Tryz.func95, Tryz.ntmps95
      go_wp2_with fail
      rw [← hW0]
      clear hW0
      refine (hc1.out _ HW0.out).mono ?_
      rintro e w1 ⟨rfl, hb1'⟩
      have B1 := Lib.hid (HW0.out.trans (hb1'.mono HW0.out.size))
      have K1 := Lib.hid hb1'
      clear hb1'
      go_wp2_with fail
      go_ret
      exact ⟨by rw [HR.out]; first | done | rfl, B1.out⟩
    | true =>
      have HR := Lib.hid (show R = true by rw [hR]; first | done | rfl)
      clear hR
      go_enter Tryz.func95, Tryz.ntmps95
      go_wp2_with fail
      rw [← hW0]
      clear hW0
      refine (hc1.out _ HW0.out).mono ?_
      rintro e w1 ⟨rfl, hb1'⟩
      have B1 := Lib.hid (HW0.out.trans (hb1'.mono HW0.out.size))
      have K1 := Lib.hid hb1'
      clear hb1'
      go_wp2_with fail
      go_ret
      exact ⟨by rw [HR.out]; first | done | rfl, B1.out⟩

theorem rvalidOper_any (o : Op5) (w : World) (hO : OpH w o) : Calls Tryz.prog 95 #[opV o] w fun e w' => e = .returned (.bool (opOk o)) ∧ Below w.heap.size w w' := by
  obtain ⟨num, n, ⟨pn, ph, pp⟩⟩ := o
  cases num with
  | true => exact rvalidOper_num n pn ph pp w
  | false => exact rvalidOper_pl n pn ph pp w hO.2

set_option maxRecDepth 100000 in
set_option maxHeartbeats 4000000 in
theorem rvTy1 (nm1 : ByteArray) (h1 : Hd) (l1 : List Ty5) (j : Nat) (w : World) : Calls Tryz.prog 31 #[tyV (.mk 1 nm1 h1 l1), .int .i64 j] w fun e w' => e = .returned (.bool (tyOk (60 - j) (.mk 1 nm1 h1 l1))) ∧ Below w.heap.size w w' := by
  obtain ⟨R, hR⟩ : ∃ R, R = (tyOk (60 - j) (.mk 1 nm1 h1 l1)) := ⟨_, rfl⟩
  rw [← hR]
  replace hR : R = ((emptyN nm1) && (decide (l1.length = 0))) := hR.trans (by rw [tyOk_no _ rfl, innerOk, Bool.and_comm]; rfl)
  obtain ⟨b0, hb0⟩ : ∃ b, b = (emptyN nm1) := ⟨_, rfl⟩
  rw [← hb0] at hR
  obtain ⟨b1, hb1⟩ : ∃ b, b = (decide (l1.length = 0)) := ⟨_, rfl⟩
  rw [← hb1] at hR
  simp only [tyV, tyC]
  obtain ⟨W0, hW0⟩ : ∃ W, W = (w.alloc (.cells #[.int .i64 1, .string nm1, .slice h1.oa l1.length h1.cap] 45)) := ⟨_, rfl⟩
  have HW0 : Below w.heap.size w W0 := by rw [hW0]; exact (Below.refl _ _).alloc (Nat.le_refl _) _
  replace HW0 := Lib.hid HW0
  cases b0 with
  | false =>
    obtain ⟨em0a, em0b⟩ := empty_no hb0.symm
    clear hb0
    clear hb1
    have HR := Lib.hid (show R = false by rw [hR]; first | done | rfl)
    clear hR
    go_enter Tryz.func31, Tryz.ntmps31
    go_wp2_with fail
    go_ret
    exact ⟨by rw [HR.out]; first | done | rfl, (by rw [← hW0]; exact HW0.out)⟩
  | true =>
    obtain rfl := empty_of hb0.symm
    clear hb0
    cases b1 with
    | false =>
      have tl1 : ((l1.length : Int) == 0) = false := by have : ¬ l1.length = 0 := of_decide_eq_false hb1.symm; simpa using this
      clear hb1
      have HR := Lib.hid (show R = false by rw [hR]; first | done | rfl)
      clear hR
      go_enter Tryz.func31, Tryz.ntmps31
      go_wp2_with fail
      go_ret
      exact ⟨by rw [HR.out]; first | done | rfl, (by rw [← hW0]; exact HW0.out)⟩
    | true =>
      have tl1 : ((l1.length : Int) == 0) = true := by have : l1.length = 0 := (of_decide_eq_true hb1.symm); simp [this]
      clear hb1
      have HR := Lib.hid (show R = true by rw [hR]; first | done | rfl)
      clear hR
      go_enter Tryz.func31, Tryz.ntmps31
      go_wp2_with fail
      go_ret
      exact ⟨by rw [HR.out]; first | done | rfl, (by rw [← hW0]; exact HW0.out)⟩

set_option maxRecDepth 100000 in
set_option maxHeartbeats 4000000 in
theorem rvTy2 (nm1 : ByteArray) (h1 : Hd) (l1 : List Ty5) (j : Nat) (w : World) : Calls Tryz.prog 31 #[tyV (.mk 2 nm1 h1 l1), .int .i64 j] w fun e w' => e = .returned (.bool (tyOk (60 - j) (.mk 2 nm1 h1 l1))) ∧ Below w.heap.size w w' := by
  obtain ⟨R, hR⟩ : ∃ R, R = (tyOk (60 - j) (.mk 2 nm1 h1 l1)) := ⟨_, rfl⟩
  rw [← hR]
  replace hR : R = ((greatN nm1) && (decide (l1.length = 0))) := hR.trans (by rw [tyOk_no _ rfl, innerOk, Bool.and_comm]; rfl)
  have hc0 : ∀ W, Below w.heap.size w W → Calls Tryz.prog 28 #[.string nm1] W fun e w' => e = .returned (.bool (greatN nm1)) ∧ Below W.heap.size W w' := fun W hW => rgreat_any nm1 W
  obtain ⟨b0, hb0⟩ : ∃ b, b = (greatN nm1) := ⟨_, rfl⟩
  rw [← hb0] at hR hc0
  clear hb0
  replace hc0 := Lib.hid hc0
  obtain ⟨b1, hb1⟩ : ∃ b, b = (decide (l1.length = 0)) := ⟨_, rfl⟩
  rw [← hb1] at hR
  simp only [tyV, tyC]
  obtain ⟨W0, hW0⟩ : ∃ W, W = (w.alloc (.cells #[.int .i64 2, .string nm1, .slice h1.oa l1.length h1.cap] 45)) := ⟨_, rfl⟩
  have HW0 : Below w.heap.size w W0 := by rw [hW0]; exact (Below.refl _ _).alloc (Nat.le_refl _) _
  replace HW0 := Lib.hid HW0
  have r0 : W0.rangeAt (w.heap.size) 0 [.int .i64 2, .string nm1, .slice h1.oa l1.length h1.cap] := by
    have := rangeAt_box w [.int .i64 2, .string nm1, .slice h1.oa l1.length h1.cap] 45
    rw [hW0]
    simpa using this
  have hz0 := Lib.hid (show ∀ w', Below W0.heap.size W0 w' → (w'.cell? ⟨w.heap.size, 2, none⟩ = some (.slice h1.oa l1.length h1.cap)) from fun w' hb => rangeAt_below r0 hb 2 _ rfl)
  clear r0
  cases b0 with
  | false =>
    clear hb1
    have HR := Lib.hid (show R = false by rw [hR]; first | done | rfl)
    clear hR
    go_enter Tryz.func31, Tryz.ntmps31
    go_wp2_with fail
    rw [← hW0]
    clear hW0
    refine (hc0.out _ HW0.out).mono ?_
    rintro e w1 ⟨rfl, hb1'⟩
    have B1 := Lib.hid (HW0.out.trans (hb1'.mono HW0.out.size))
    have K1 := Lib.hid hb1'
    clear hb1'
    have z0_0 := hz0.out _ K1.out
    go_wp2_with fail
    go_ret
    exact ⟨by rw [HR.out]; first | done | rfl, B1.out⟩
  | true =>
    cases b1 with
    | false =>
      have tl1 : ((l1.length : Int) == 0) = false := by have : ¬ l1.length = 0 := of_decide_eq_false hb1.symm; simpa using this
      clear hb1
      have HR := Lib.hid (show R = false by rw [hR]; first | done | rfl)
      clear hR
      go_enter Tryz.func31, Tryz.ntmps31
      go_wp2_with fail
      rw [← hW0]
      clear hW0
      refine (hc0.out _ HW0.out).mono ?_
      rintro e w1 ⟨rfl, hb1'⟩
      have B1 := Lib.hid (HW0.out.trans (hb1'.mono HW0.out.size))
      have K1 := Lib.hid hb1'
      clear hb1'
      have z0_0 := hz0.out _ K1.out
      go_wp2_with fail
      go_ret
      exact ⟨by rw [HR.out]; first | done | rfl, B1.out⟩
    | true =>
      have tl1 : ((l1.length : Int) == 0) = true := by have : l1.length = 0 := (of_decide_eq_true hb1.symm); simp [this]
      clear hb1
      have HR := Lib.hid (show R = true by rw [hR]; first | done | rfl)
      clear hR
      go_enter Tryz.func31, Tryz.ntmps31
      go_wp2_with fail
      rw [← hW0]
      clear hW0
      refine (hc0.out _ HW0.out).mono ?_
      rintro e w1 ⟨rfl, hb1'⟩
      have B1 := Lib.hid (HW0.out.trans (hb1'.mono HW0.out.size))
      have K1 := Lib.hid hb1'
      clear hb1'
      have z0_0 := hz0.out _ K1.out
      go_wp2_with fail
      go_ret
      exact ⟨by rw [HR.out]; first | done | rfl, B1.out⟩

set_option maxRecDepth 100000 in
set_option maxHeartbeats 4000000 in
theorem rvTy7 (nm1 : ByteArray) (h1 : Hd) (l1 : List Ty5) (j : Nat) (w : World) : Calls Tryz.prog 31 #[tyV (.mk 7 nm1 h1 l1), .int .i64 j] w fun e w' => e = .returned (.bool (tyOk (60 - j) (.mk 7 nm1 h1 l1))) ∧ Below w.heap.size w w' := by
  obtain ⟨R, hR⟩ : ∃ R, R = (tyOk (60 - j) (.mk 7 nm1 h1 l1)) := ⟨_, rfl⟩
  rw [← hR]
  replace hR : R = ((smallN nm1) && (decide (l1.length = 0))) := hR.trans (by rw [tyOk_no _ rfl, innerOk, Bool.and_comm]; rfl)
  have hc0 : ∀ W, Below w.heap.size w W → Calls Tryz.prog 32 #[.string nm1] W fun e w' => e = .returned (.bool (smallN nm1)) ∧ Below W.heap.size W w' := fun W hW => rsmall_any nm1 W
  obtain ⟨b0, hb0⟩ : ∃ b, b = (smallN nm1) := ⟨_, rfl⟩
  rw [← hb0] at hR hc0
  clear hb0
  replace hc0 := Lib.hid hc0
  obtain ⟨b1, hb1⟩ : ∃ b, b = (decide (l1.length = 0)) := ⟨_, rfl⟩
  rw [← hb1] at hR
  simp only [tyV, tyC]
  obtain ⟨W0, hW0⟩ : ∃ W, W = (w.alloc (.cells #[.int .i64 7, .string nm1, .slice h1.oa l1.length h1.cap] 45)) := ⟨_, rfl⟩
  have HW0 : Below w.heap.size w W0 := by rw [hW0]; exact (Below.refl _ _).alloc (Nat.le_refl _) _
  replace HW0 := Lib.hid HW0
  have r0 : W0.rangeAt (w.heap.size) 0 [.int .i64 7, .string nm1, .slice h1.oa l1.length h1.cap] := by
    have := rangeAt_box w [.int .i64 7, .string nm1, .slice h1.oa l1.length h1.cap] 45
    rw [hW0]
    simpa using this
  have hz0 := Lib.hid (show ∀ w', Below W0.heap.size W0 w' → (w'.cell? ⟨w.heap.size, 2, none⟩ = some (.slice h1.oa l1.length h1.cap)) from fun w' hb => rangeAt_below r0 hb 2 _ rfl)
  clear r0
  cases b0 with
  | false =>
    clear hb1
    have HR := Lib.hid (show R = false by rw [hR]; first | done | rfl)
    clear hR
    go_enter Tryz.func31, Tryz.ntmps31
    go_wp2_with fail
    rw [← hW0]
    clear hW0
    refine (hc0.out _ HW0.out).mono ?_
    rintro e w1 ⟨rfl, hb1'⟩
    have B1 := Lib.hid (HW0.out.trans (hb1'.mono HW0.out.size))
    have K1 := Lib.hid hb1'
    clear hb1'
    have z0_0 := hz0.out _ K1.out
    go_wp2_with fail
    go_ret
    exact ⟨by rw [HR.out]; first | done | rfl, B1.out⟩
  | true =>
    cases b1 with
    | false =>
      have tl1 : ((l1.length : Int) == 0) = false := by have : ¬ l1.length = 0 := of_decide_eq_false hb1.symm; simpa using this
      clear hb1
      have HR := Lib.hid (show R = false by rw [hR]; first | done | rfl)
      clear hR
      go_enter Tryz.func31, Tryz.ntmps31
      go_wp2_with fail
      rw [← hW0]
      clear hW0
      refine (hc0.out _ HW0.out).mono ?_
      rintro e w1 ⟨rfl, hb1'⟩
      have B1 := Lib.hid (HW0.out.trans (hb1'.mono HW0.out.size))
      have K1 := Lib.hid hb1'
      clear hb1'
      have z0_0 := hz0.out _ K1.out
      go_wp2_with fail
      go_ret
      exact ⟨by rw [HR.out]; first | done | rfl, B1.out⟩
    | true =>
      have tl1 : ((l1.length : Int) == 0) = true := by have : l1.length = 0 := (of_decide_eq_true hb1.symm); simp [this]
      clear hb1
      have HR := Lib.hid (show R = true by rw [hR]; first | done | rfl)
      clear hR
      go_enter Tryz.func31, Tryz.ntmps31
      go_wp2_with fail
      rw [← hW0]
      clear hW0
      refine (hc0.out _ HW0.out).mono ?_
      rintro e w1 ⟨rfl, hb1'⟩
      have B1 := Lib.hid (HW0.out.trans (hb1'.mono HW0.out.size))
      have K1 := Lib.hid hb1'
      clear hb1'
      have z0_0 := hz0.out _ K1.out
      go_wp2_with fail
      go_ret
      exact ⟨by rw [HR.out]; first | done | rfl, B1.out⟩

set_option maxRecDepth 100000 in
set_option maxHeartbeats 4000000 in
theorem rvTy4 (n : Nat) (ih : ∀ (t : Ty5) (j : Nat) (w : World), j ≤ 60 → TyH n w t → Calls Tryz.prog 31 #[tyV t, .int .i64 j] w fun e w' => e = .returned (.bool (tyOk (60 - j) t)) ∧ Below w.heap.size w w') (nm1 : ByteArray) (h1 : Hd) (l1 : List Ty5) (j : Nat) (w : World) (hj : j ≤ 60) (hT : TyH (n + 1) w (.mk 4 nm1 h1 l1)) : Calls Tryz.prog 31 #[tyV (.mk 4 nm1 h1 l1), .int .i64 j] w fun e w' => e = .returned (.bool (tyOk (60 - j) (.mk 4 nm1 h1 l1))) ∧ Below w.heap.size w w' := by
  obtain ⟨R, hR⟩ : ∃ R, R = tyOk (60 - j) (.mk 4 nm1 h1 l1) := ⟨_, rfl⟩
  rw [← hR]
  have ha : aroundB 4 = true := rfl
  by_cases hj6 : j < 60
  case neg =>
    have HR := Lib.hid (show R = false by rw [hR, show 60 - j = 0 by omega]; exact tyOk_zero ha)
    have tj : decide ((j : Int) < 60) = false := by simp; omega
    clear hR ih hT
    simp only [tyV, tyC]
    go_enter Tryz.func31, Tryz.ntmps31
    go_wp2_with fail
    go_ret
    exact ⟨by rw [HR.out]; first | done | rfl, alloc_below _ _⟩
  obtain ⟨d, hd⟩ : ∃ d, 60 - j = d + 1 := ⟨60 - j - 1, by omega⟩
  have en : 60 - (j + 1) = d := by clear ih hT hR; omega
  have ei : ((j + 1 : Nat) : Int) = (j : Int) + 1 := Int.natCast_add j 1
  have tj : decide ((j : Int) < 60) = true := by simp; omega
  rw [hd] at hR
  cases hem : emptyN nm1 with
  | false =>
    obtain ⟨e1, e2⟩ := empty_no hem
    have HR := Lib.hid (show R = false by
      rw [hR]
      by_cases hl : l1.length = 1
      · obtain ⟨t', rfl⟩ := List.length_eq_one_iff.1 hl
        rw [tyOk_one _ ha, hem, Bool.false_and]
      · exact tyOk_len _ ha hl)
    clear hR ih hT hem hd en ei
    simp only [tyV, tyC]
    go_enter Tryz.func31, Tryz.ntmps31
    go_wp2_with fail
    go_ret
    exact ⟨by rw [HR.out]; first | done | rfl, alloc_below _ _⟩
  | true =>
    by_cases hl1 : l1.length = 1
    · obtain ⟨t', rfl⟩ := List.length_eq_one_iff.1 hl1
      have HR := Lib.hid (show R = tyOk d t' by rw [hR, tyOk_one _ ha, hem, Bool.true_and])
      obtain rfl := empty_of hem
      obtain ⟨-, -, -, hrow, hel⟩ := hT
      obtain ⟨ba, offa, hoa, hlt, hcell⟩ := hrow (by simp)
      have hc := fun W (hW : Below w.heap.size w W) => ih t' (j + 1) W (by omega) (TyH.below n (hel t' (by simp)) hW)
      rw [en, ei] at hc
      clear en ei
      obtain ⟨oh, ch⟩ := h1
      dsimp only at hoa
      subst hoa
      obtain ⟨bt, hbt⟩ : ∃ b, b = tyOk d t' := ⟨_, rfl⟩
      rw [← hbt] at hc HR
      clear hbt
      obtain ⟨k', nm', h', l'⟩ := t'
      simp only [tyV, tyC] at hc ⊢
      replace hc := Lib.hid hc
      have q0 : ∀ o, (w.alloc o).cell? ⟨ba, offa, none⟩ = some (.int .i64 k') := fun o => ((alloc_below w o).cell (p := ⟨ba, offa, none⟩) hlt).trans (by simpa using hcell 0 _ rfl 0 _ rfl)
      have q1 : ∀ o, (w.alloc o).cell? ⟨ba, offa + 1, none⟩ = some (.string nm') := fun o => ((alloc_below w o).cell (p := ⟨ba, offa + 1, none⟩) hlt).trans (by simpa using hcell 0 _ rfl 1 _ rfl)
      have q2 : ∀ o, (w.alloc o).cell? ⟨ba, offa + 2, none⟩ = some (.slice h'.oa l'.length h'.cap) := fun o => ((alloc_below w o).cell (p := ⟨ba, offa + 2, none⟩) hlt).trans (by simpa using hcell 0 _ rfl 2 _ rfl)
      clear hR ih hem hl1 hcell hrow hel hd
      go_enter Tryz.func31, Tryz.ntmps31
      go_wp2_with (go_at_call 31; refine (hc.out _ (alloc_below _ _)).mono ?_; rintro e w1 ⟨rfl, hb⟩; have HB := Lib.hid ((alloc_below w _).trans (hb.mono (by simp))); clear hb)
      go_ret
      exact ⟨by rw [HR.out]; first | done | rfl, HB.out⟩
    · have tl : ((l1.length : Int) == 1) = false := by simp; omega
      have HR := Lib.hid (show R = false by rw [hR]; exact tyOk_len _ ha hl1)
      obtain rfl := empty_of hem
      clear hR ih hT hem hd en ei hl1
      simp only [tyV, tyC]
      go_enter Tryz.func31, Tryz.ntmps31
      go_wp2_with fail
      go_ret
      exact ⟨by rw [HR.out]; first | done | rfl, alloc_below _ _⟩

set_option maxRecDepth 100000 in
set_option maxHeartbeats 4000000 in
theorem rvTy5 (n : Nat) (ih : ∀ (t : Ty5) (j : Nat) (w : World), j ≤ 60 → TyH n w t → Calls Tryz.prog 31 #[tyV t, .int .i64 j] w fun e w' => e = .returned (.bool (tyOk (60 - j) t)) ∧ Below w.heap.size w w') (nm1 : ByteArray) (h1 : Hd) (l1 : List Ty5) (j : Nat) (w : World) (hj : j ≤ 60) (hT : TyH (n + 1) w (.mk 5 nm1 h1 l1)) : Calls Tryz.prog 31 #[tyV (.mk 5 nm1 h1 l1), .int .i64 j] w fun e w' => e = .returned (.bool (tyOk (60 - j) (.mk 5 nm1 h1 l1))) ∧ Below w.heap.size w w' := by
  obtain ⟨R, hR⟩ : ∃ R, R = tyOk (60 - j) (.mk 5 nm1 h1 l1) := ⟨_, rfl⟩
  rw [← hR]
  have ha : aroundB 5 = true := rfl
  by_cases hj6 : j < 60
  case neg =>
    have HR := Lib.hid (show R = false by rw [hR, show 60 - j = 0 by omega]; exact tyOk_zero ha)
    have tj : decide ((j : Int) < 60) = false := by simp; omega
    clear hR ih hT
    simp only [tyV, tyC]
    go_enter Tryz.func31, Tryz.ntmps31
    go_wp2_with fail
    go_ret
    exact ⟨by rw [HR.out]; first | done | rfl, alloc_below _ _⟩
  obtain ⟨d, hd⟩ : ∃ d, 60 - j = d + 1 := ⟨60 - j - 1, by omega⟩
  have en : 60 - (j + 1) = d := by clear ih hT hR; omega
  have ei : ((j + 1 : Nat) : Int) = (j : Int) + 1 := Int.natCast_add j 1
  have tj : decide ((j : Int) < 60) = true := by simp; omega
  rw [hd] at hR
  cases hem : emptyN nm1 with
  | false =>
    obtain ⟨e1, e2⟩ := empty_no hem
    have HR := Lib.hid (show R = false by
      rw [hR]
      by_cases hl : l1.length = 1
      · obtain ⟨t', rfl⟩ := List.length_eq_one_iff.1 hl
        rw [tyOk_one _ ha, hem, Bool.false_and]
      · exact tyOk_len _ ha hl)
    clear hR ih hT hem hd en ei
    simp only [tyV, tyC]
    go_enter Tryz.func31, Tryz.ntmps31
    go_wp2_with fail
    go_ret
    exact ⟨by rw [HR.out]; first | done | rfl, alloc_below _ _⟩
  | true =>
    by_cases hl1 : l1.length = 1
    · obtain ⟨t', rfl⟩ := List.length_eq_one_iff.1 hl1
      have HR := Lib.hid (show R = tyOk d t' by rw [hR, tyOk_one _ ha, hem, Bool.true_and])
      obtain rfl := empty_of hem
      obtain ⟨-, -, -, hrow, hel⟩ := hT
      obtain ⟨ba, offa, hoa, hlt, hcell⟩ := hrow (by simp)
      have hc := fun W (hW : Below w.heap.size w W) => ih t' (j + 1) W (by omega) (TyH.below n (hel t' (by simp)) hW)
      rw [en, ei] at hc
      clear en ei
      obtain ⟨oh, ch⟩ := h1
      dsimp only at hoa
      subst hoa
      obtain ⟨bt, hbt⟩ : ∃ b, b = tyOk d t' := ⟨_, rfl⟩
      rw [← hbt] at hc HR
      clear hbt
      obtain ⟨k', nm', h', l'⟩ := t'
      simp only [tyV, tyC] at hc ⊢
      replace hc := Lib.hid hc
      have q0 : ∀ o, (w.alloc o).cell? ⟨ba, offa, none⟩ = some (.int .i64 k') := fun o => ((alloc_below w o).cell (p := ⟨ba, offa, none⟩) hlt).trans (by simpa using hcell 0 _ rfl 0 _ rfl)
      have q1 : ∀ o, (w.alloc o).cell? ⟨ba, offa + 1, none⟩ = some (.string nm') := fun o => ((alloc_below w o).cell (p := ⟨ba, offa + 1, none⟩) hlt).trans (by simpa using hcell 0 _ rfl 1 _ rfl)
      have q2 : ∀ o, (w.alloc o).cell? ⟨ba, offa + 2, none⟩ = some (.slice h'.oa l'.length h'.cap) := fun o => ((alloc_below w o).cell (p := ⟨ba, offa + 2, none⟩) hlt).trans (by simpa using hcell 0 _ rfl 2 _ rfl)
      clear hR ih hem hl1 hcell hrow hel hd
      go_enter Tryz.func31, Tryz.ntmps31
      go_wp2_with (go_at_call 31; refine (hc.out _ (alloc_below _ _)).mono ?_; rintro e w1 ⟨rfl, hb⟩; have HB := Lib.hid ((alloc_below w _).trans (hb.mono (by simp))); clear hb)
      go_ret
      exact ⟨by rw [HR.out]; first | done | rfl, HB.out⟩
    · have tl : ((l1.length : Int) == 1) = false := by simp; omega
      have HR := Lib.hid (show R = false by rw [hR]; exact tyOk_len _ ha hl1)
      obtain rfl := empty_of hem
      clear hR ih hT hem hd en ei hl1
      simp only [tyV, tyC]
      go_enter Tryz.func31, Tryz.ntmps31
      go_wp2_with fail
      go_ret
      exact ⟨by rw [HR.out]; first | done | rfl, alloc_below _ _⟩

set_option maxRecDepth 100000 in
set_option maxHeartbeats 4000000 in
theorem rvTy6 (n : Nat) (ih : ∀ (t : Ty5) (j : Nat) (w : World), j ≤ 60 → TyH n w t → Calls Tryz.prog 31 #[tyV t, .int .i64 j] w fun e w' => e = .returned (.bool (tyOk (60 - j) t)) ∧ Below w.heap.size w w') (nm1 : ByteArray) (h1 : Hd) (l1 : List Ty5) (j : Nat) (w : World) (hj : j ≤ 60) (hT : TyH (n + 1) w (.mk 6 nm1 h1 l1)) : Calls Tryz.prog 31 #[tyV (.mk 6 nm1 h1 l1), .int .i64 j] w fun e w' => e = .returned (.bool (tyOk (60 - j) (.mk 6 nm1 h1 l1))) ∧ Below w.heap.size w w' := by
  obtain ⟨R, hR⟩ : ∃ R, R = tyOk (60 - j) (.mk 6 nm1 h1 l1) := ⟨_, rfl⟩
  rw [← hR]
  have ha : aroundB 6 = true := rfl
  by_cases hj6 : j < 60
  case neg =>
    have HR := Lib.hid (show R = false by rw [hR, show 60 - j = 0 by omega]; exact tyOk_zero ha)
    have tj : decide ((j : Int) < 60) = false := by simp; omega
    clear hR ih hT
    simp only [tyV, tyC]
    go_enter Tryz.func31, Tryz.ntmps31
    go_wp2_with fail
    go_ret
    exact ⟨by rw [HR.out]; first | done | rfl, alloc_below _ _⟩
  obtain ⟨d, hd⟩ : ∃ d, 60 - j = d + 1 := ⟨60 - j - 1, by omega⟩
  have en : 60 - (j + 1) = d := by clear ih hT hR; omega
  have ei : ((j + 1 : Nat) : Int) = (j : Int) + 1 := Int.natCast_add j 1
  have tj : decide ((j : Int) < 60) = true := by simp; omega
  rw [hd] at hR
  cases hem : emptyN nm1 with
  | false =>
    obtain ⟨e1, e2⟩ := empty_no hem
    have HR := Lib.hid (show R = false by
      rw [hR]
      by_cases hl : l1.length = 1
      · obtain ⟨t', rfl⟩ := List.length_eq_one_iff.1 hl
        rw [tyOk_one _ ha, hem, Bool.false_and]
      · exact tyOk_len _ ha hl)
    clear hR ih hT hem hd en ei
    simp only [tyV, tyC]
    go_enter Tryz.func31, Tryz.ntmps31
    go_wp2_with fail
    go_ret
    exact ⟨by rw [HR.out]; first | done | rfl, alloc_below _ _⟩
  | true =>
    by_cases hl1 : l1.length = 1
    · obtain ⟨t', rfl⟩ := List.length_eq_one_iff.1 hl1
      have HR := Lib.hid (show R = tyOk d t' by rw [hR, tyOk_one _ ha, hem, Bool.true_and])
      obtain rfl := empty_of hem
      obtain ⟨-, -, -, hrow, hel⟩ := hT
      obtain ⟨ba, offa, hoa, hlt, hcell⟩ := hrow (by simp)
      have hc := fun W (hW : Below w.heap.size w W) => ih t' (j + 1) W (by omega) (TyH.below n (hel t' (by simp)) hW)
      rw [en, ei] at hc
      clear en ei
      obtain ⟨oh, ch⟩ := h1
      dsimp only at hoa
      subst hoa
      obtain ⟨bt, hbt⟩ : ∃ b, b = tyOk d t' := ⟨_, rfl⟩
      rw [← hbt] at hc HR
      clear hbt
      obtain ⟨k', nm', h', l'⟩ := t'
      simp only [tyV, tyC] at hc ⊢
      replace hc := Lib.hid hc
      have q0 : ∀ o, (w.alloc o).cell? ⟨ba, offa, none⟩ = some (.int .i64 k') := fun o => ((alloc_below w o).cell (p := ⟨ba, offa, none⟩) hlt).trans (by simpa using hcell 0 _ rfl 0 _ rfl)
      have q1 : ∀ o, (w.alloc o).cell? ⟨ba, offa + 1, none⟩ = some (.string nm') := fun o => ((alloc_below w o).cell (p := ⟨ba, offa + 1, none⟩) hlt).trans (by simpa using hcell 0 _ rfl 1 _ rfl)
      have q2 : ∀ o, (w.alloc o).cell? ⟨ba, offa + 2, none⟩ = some (.slice h'.oa l'.length h'.cap) := fun o => ((alloc_below w o).cell (p := ⟨ba, offa + 2, none⟩) hlt).trans (by simpa using hcell 0 _ rfl 2 _ rfl)
      clear hR ih hem hl1 hcell hrow hel hd
      go_enter Tryz.func31, Tryz.ntmps31
      go_wp2_with (go_at_call 31; refine (hc.out _ (alloc_below _ _)).mono ?_; rintro e w1 ⟨rfl, hb⟩; have HB := Lib.hid ((alloc_below w _).trans (hb.mono (by simp))); clear hb)
      go_ret
      exact ⟨by rw [HR.out]; first | done | rfl, HB.out⟩
    · have tl : ((l1.length : Int) == 1) = false := by simp; omega
      have HR := Lib.hid (show R = false by rw [hR]; exact tyOk_len _ ha hl1)
      obtain rfl := empty_of hem
      clear hR ih hT hem hd en ei hl1
      simp only [tyV, tyC]
      go_enter Tryz.func31, Tryz.ntmps31
      go_wp2_with fail
      go_ret
      exact ⟨by rw [HR.out]; first | done | rfl, alloc_below _ _⟩

set_option maxRecDepth 100000 in
set_option maxHeartbeats 4000000 in
theorem rvTyX (k : Int) (nm1 : ByteArray) (h1 : Hd) (l1 : List Ty5) (j : Nat) (w : World) (k1 : ¬ k = 1) (k2 : ¬ k = 2) (k4 : ¬ k = 4) (k5 : ¬ k = 5) (k6 : ¬ k = 6) (k7 : ¬ k = 7) : Calls Tryz.prog 31 #[tyV (.mk k nm1 h1 l1), .int .i64 j] w fun e w' => e = .returned (.bool (tyOk (60 - j) (.mk k nm1 h1 l1))) ∧ Below w.heap.size w w' := by
  have HR : tyOk (60 - j) (.mk k nm1 h1 l1) = false := by
    rw [tyOk_no _ (by simp [aroundB, k4, k5, k6]), innerOk, if_neg k1, if_neg k2, if_neg k7, Bool.and_false]
  rw [HR]
  clear HR
  have t1 : (k == 1) = false := by simpa using k1
  have t2 : (k == 2) = false := by simpa using k2
  have t4 : (k == 4) = false := by simpa using k4
  have t5 : (k == 5) = false := by simpa using k5
  have t6 : (k == 6) = false := by simpa using k6
  have t7 : (k == 7) = false := by simpa using k7
  clear k1 k2 k4 k5 k6 k7
  simp only [tyV, tyC]
  go_enter Tryz.func31, Tryz.ntmps31
  go_wp2_with fail
  go_ret
  exact ⟨by first | done | rfl, alloc_below _ _⟩
theorem rvalidTy_step (n : Nat) (ih : ∀ (t : Ty5) (j : Nat) (w : World), j ≤ 60 → TyH n w t → Calls Tryz.prog 31 #[tyV t, .int .i64 j] w fun e w' => e = .returned (.bool (tyOk (60 - j) t)) ∧ Below w.heap.size w w') : ∀ (t : Ty5) (j : Nat) (w : World), j ≤ 60 → TyH (n + 1) w t → Calls Tryz.prog 31 #[tyV t, .int .i64 j] w fun e w' => e = .returned (.bool (tyOk (60 - j) t)) ∧ Below w.heap.size w w' := by
  intro t j w hj hT
  obtain ⟨k, nm, h, l⟩ := t
  by_cases k1 : k = 1
  · subst k1; exact rvTy1 nm h l j w
  by_cases k2 : k = 2
  · subst k2; exact rvTy2 nm h l j w
  by_cases k7 : k = 7
  · subst k7; exact rvTy7 nm h l j w
  by_cases k4 : k = 4
  · subst k4; exact rvTy4 n ih nm h l j w hj hT
  by_cases k5 : k = 5
  · subst k5; exact rvTy5 n ih nm h l j w hj hT
  by_cases k6 : k = 6
  · subst k6; exact rvTy6 n ih nm h l j w hj hT
  exact rvTyX k nm h l j w k1 k2 k4 k5 k6 k7
theorem rvalidTy_any : ∀ (n : Nat) (t : Ty5) (j : Nat) (w : World), j ≤ 60 → TyH n w t → Calls Tryz.prog 31 #[tyV t, .int .i64 j] w fun e w' => e = .returned (.bool (tyOk (60 - j) t)) ∧ Below w.heap.size w w'
  | 0, _, _, _, _, h => h.elim
  | n + 1, t, j, w, hj, h => rvalidTy_step n (rvalidTy_any n) t j w hj h
theorem rvalidTy0 (n : Nat) (t : Ty5) (w : World) (h : TyH n w t) : Calls Tryz.prog 31 #[tyV t, .int .i64 0] w fun e w' => e = .returned (.bool (tyOk 60 t)) ∧ Below w.heap.size w w' := rvalidTy_any n t 0 w (Nat.zero_le _) h

set_option maxRecDepth 100000 in
set_option maxHeartbeats 4000000 in
theorem rvalidFields_any (n : Nat) (hd : Hd) (l : List Fd5) (w : World) (hL : Row w hd 4 l fdC (FdH n w)) :
    Calls Tryz.prog 29 #[.slice hd.oa l.length hd.cap] w fun e w' => e = .returned (.bool (l.all fdOk)) ∧ Below w.heap.size w w' := by
  obtain ⟨oa, cap⟩ := hd
  obtain ⟨hl1, hl2, hl3, hl4⟩ := hL
  dsimp only at hl1 hl2 hl3 ⊢
  unfold maxLen at hl2
  replace hl3 := Lib.hid hl3
  replace hl4 := Lib.hid hl4
  obtain ⟨R, hR⟩ : ∃ R, R = l.all fdOk := ⟨_, rfl⟩
  rw [← hR]
  have HR := Lib.hid hR
  clear hR
  go_enter Tryz.func29, Tryz.ntmps29
  go_wp2_with fail
  go_loopw [3] (fun u wr => ∃ j : Nat, j ≤ l.length ∧ u = .int .i64 j ∧ (l.drop j).all fdOk = R ∧ Below w.heap.size w wr) (fun u _ => l.length - (intOf u).toNat)
  case atStart => exact ⟨0, by omega, rfl, by simpa using HR.out.symm, Below.refl _ _⟩
  case round =>
    clear HR
    obtain ⟨j, hj, rfl, hs, hbw⟩ := hrel
    obtain ⟨wo, rfl⟩ : ∃ wo : World, wo = wr := ⟨_, rfl⟩
    have HS := Lib.hid hs
    clear hs
    by_cases hjl : j < l.length
    · have t1 : decide ((j : Int) < l.length) = true := by simp; omega
      obtain ⟨ba, offa, rfl, hlt, hcell⟩ := hl3.out (by omega)
      obtain ⟨x, hxj⟩ : ∃ x, l[j]? = some x := ⟨_, List.getElem?_eq_getElem hjl⟩
      have hdx : l.drop j = x :: l.drop (j + 1) := by rw [List.drop_eq_getElem_cons hjl]; rw [List.getElem?_eq_getElem hjl] at hxj; rw [Option.some.inj hxj]
      have HD := Lib.hid (show (fdOk x && (l.drop (j + 1)).all fdOk) = R by rw [← HS.out, hdx, List.all_cons])
      have hx := hl4.out x (List.mem_of_getElem? hxj)
      obtain ⟨nm, kx, nx, hx', lx⟩ := x
      have hs := Lib.hid (fun W => rsmall_any nm W)
      have hc := fun W (hW : Below wo.heap.size wo W) => rvalidTy0 n (.mk kx nx hx' lx) W (TyH.below n (TyH.below n hx hbw) hW)
      simp only [fdOk] at HD
      generalize smallN nm = b1 at hs HD
      generalize tyOk 60 (.mk kx nx hx' lx) = b2 at hc HD
      simp only [tyV, tyC] at hc
      replace hc := Lib.hid hc
      have hqq : ∀ w', Below wo.heap.size wo w' → w'.cell? ⟨ba, offa + j * 4, none⟩ = some (.string nm) ∧ w'.cell? ⟨ba, offa + j * 4 + 1, none⟩ = some (.int .i64 kx) ∧ w'.cell? ⟨ba, offa + j * 4 + 1 + 1, none⟩ = some (.string nx) ∧ w'.cell? ⟨ba, offa + j * 4 + 1 + 2, none⟩ = some (.slice hx'.oa lx.length hx'.cap) := fun w' h => by
        have hb2 := hbw.trans (h.mono hbw.size)
        exact ⟨(hb2.cell (p := ⟨ba, offa + j * 4, none⟩) hlt).trans (by simpa using hcell j _ hxj 0 _ rfl), (hb2.cell (p := ⟨ba, offa + j * 4 + 1, none⟩) hlt).trans (by simpa using hcell j _ hxj 1 _ rfl), (hb2.cell (p := ⟨ba, offa + j * 4 + 1 + 1, none⟩) hlt).trans (by simpa using hcell j _ hxj 2 _ rfl), (hb2.cell (p := ⟨ba, offa + j * 4 + 1 + 2, none⟩) hlt).trans (by simpa using hcell j _ hxj 3 _ rfl)⟩
      obtain ⟨q0, -, -, -⟩ := hqq wo (Below.refl _ _)
      have HQ := Lib.hid hqq
      have HBW := Lib.hid hbw
      clear hxj hcell hbw hqq hx hdx HS
      cases b1 with
      | false =>
        go_wp2_with (go_at_call 32; refine (hs.out _).mono ?_; rintro e w1 ⟨rfl, hb⟩; have HB1 := Lib.hid (HBW.out.trans (hb.mono HBW.out.size)); clear hb)
        go_ret
        exact ⟨by rw [← HD.out]; first | done | rfl, HB1.out⟩
      | true =>
        cases b2 with
        | false =>
          go_wp2_with (first
            | (go_at_call 32; refine (hs.out _).mono ?_; rintro e w1 ⟨rfl, hb⟩; have K1 := Lib.hid hb; obtain ⟨u0, u1, u2, u3⟩ := HQ.out w1 hb; have HB1 := Lib.hid (HBW.out.trans (hb.mono HBW.out.size)); clear hb)
            | (go_at_call 31; refine (hc.out w1 K1.out).mono ?_; rintro e w2 ⟨rfl, hb⟩; have HB2 := Lib.hid (HB1.out.trans (hb.mono HB1.out.size)); clear hb))
          go_ret
          exact ⟨by rw [← HD.out]; first | done | rfl, HB2.out⟩
        | true =>
          go_wp2_with (first
            | (go_at_call 32; refine (hs.out _).mono ?_; rintro e w1 ⟨rfl, hb⟩; have K1 := Lib.hid hb; obtain ⟨u0, u1, u2, u3⟩ := HQ.out w1 hb; have HB1 := Lib.hid (HBW.out.trans (hb.mono HBW.out.size)); clear hb)
            | (go_at_call 31; refine (hc.out w1 K1.out).mono ?_; rintro e w2 ⟨rfl, hb⟩; have HB2 := Lib.hid (HB1.out.trans (hb.mono HB1.out.size)); clear hb))
          go_roundw
          case rel => exact ⟨j + 1, by omega, by go_num, by rw [← HD.out]; simp, HB2.out⟩
          case measure => simp [intOf]; omega
    · have t1 : decide ((j : Int) < l.length) = false := by simp; omega
      obtain rfl : j = l.length := by omega
      have HZ := Lib.hid (show true = R by rw [← HS.out, List.drop_length]; rfl)
      go_wp2
      go_ret
      exact ⟨by rw [← HZ.out]; first | done | rfl, hbw⟩

set_option maxRecDepth 100000 in
set_option maxHeartbeats 64000000 in
theorem rvalidRv_any (v : Rv5) (w : World) (hA : RvH w v) : Calls Tryz.prog 93 #[rvV v] w fun e w' => e = .returned (.bool (rvOk v)) ∧ Below w.heap.size w w' := by
  obtain ⟨rk1, ⟨oa, capa⟩, la, ⟨pn1, ph1, pp1⟩, rn1, rr1⟩ := v
  obtain ⟨-, ⟨ha1, ha2, ha3, ha4⟩, hA5⟩ := hA
  dsimp only at ha1 ha2 ha3
  unfold maxLen at ha2
  replace ha3 := Lib.hid ha3
  replace ha4 := Lib.hid ha4
  have HP5 := Lib.hid hA5
  clear hA5
  obtain ⟨R, hR⟩ : ∃ R, R = rvOk ⟨rk1, ⟨oa, capa⟩, la, ⟨pn1, ph1, pp1⟩, rn1, rr1⟩ := ⟨_, rfl⟩
  rw [← hR]
  obtain ⟨A, hAA⟩ : ∃ A, A = la.all opOk := ⟨_, rfl⟩
  replace hR : R = (namesOk ⟨rk1, ⟨oa, capa⟩, la, ⟨pn1, ph1, pp1⟩, rn1, rr1⟩ && placeOk ⟨rk1, ⟨oa, capa⟩, la, ⟨pn1, ph1, pp1⟩, rn1, rr1⟩ && A && countOk rk1 la.length) := by rw [hR, hAA]; rfl
  have HR := Lib.hid hR
  have HA := Lib.hid hAA
  clear hR hAA
  obtain ⟨pl, hpl⟩ : ∃ pl, pl = (emptyN rn1 && emptyN rr1) := ⟨_, rfl⟩
  have HPL := Lib.hid hpl
  clear hpl
  simp only [rvV, rvC, plC, List.cons_append, List.nil_append]
  have hb0 := alloc_below w (.cells #[.int .i64 rk1, .slice oa la.length capa, .string pn1, .slice ph1.oa pp1.length ph1.cap, .string rn1, .string rr1] 49)
  have hx0 := heap_alloc_new w (.cells #[.int .i64 rk1, .slice oa la.length capa, .string pn1, .slice ph1.oa pp1.length ph1.cap, .string rn1, .string rr1] 49)
  obtain ⟨W0, hW0⟩ : ∃ W, W = w.alloc (.cells #[.int .i64 rk1, .slice oa la.length capa, .string pn1, .slice ph1.oa pp1.length ph1.cap, .string rn1, .string rr1] 49) := ⟨_, rfl⟩
  rw [← hW0] at hb0 hx0
  have HB0 := Lib.hid hb0
  have HX0 := Lib.hid hx0
  have HCL := Lib.hid (show ∀ w' : World, w'.heap[w.heap.size]? = some (.cells #[.int .i64 rk1, .slice oa la.length capa, .string pn1, .slice ph1.oa pp1.length ph1.cap, .string rn1, .string rr1] 49) → w'.cell? ⟨w.heap.size, 0, none⟩ = some (.int .i64 rk1) ∧ w'.cell? ⟨w.heap.size, 1, none⟩ = some (.slice oa la.length capa) ∧ w'.cell? ⟨w.heap.size, 2, none⟩ = some (.string pn1) ∧ w'.cell? ⟨w.heap.size, 3, none⟩ = some (.slice ph1.oa pp1.length ph1.cap) ∧ w'.cell? ⟨w.heap.size, 4, none⟩ = some (.string rn1) ∧ w'.cell? ⟨w.heap.size, 5, none⟩ = some (.string rr1) from fun w' h1 => by simp [World.cell?, h1])
  clear hb0 hx0
  go_enter Tryz.func93, Tryz.ntmps93
  go_wp2_with fail
  rw [← hW0]
  clear hW0
  go_loopw [3] (fun u wr => ∃ j : Nat, j ≤ la.length ∧ u = .int .i64 j ∧ (la.drop j).all opOk = A ∧ Below w.heap.size w wr ∧ wr.heap[w.heap.size]? = some (.cells #[.int .i64 rk1, .slice oa la.length capa, .string pn1, .slice ph1.oa pp1.length ph1.cap, .string rn1, .string rr1] 49)) (fun u _ => la.length - (intOf u).toNat)
  case atStart => exact ⟨0, by omega, rfl, by simpa using HA.out.symm, HB0.out, HX0.out⟩
  case round =>
    clear HB0 HX0 HA
    obtain ⟨j, hj, rfl, hs, hbw, hx⟩ := hrel
    obtain ⟨wo, rfl⟩ : ∃ wo : World, wo = wr := ⟨_, rfl⟩
    obtain ⟨x0, x1, x2, x3, x4, x5⟩ := HCL.out wo hx
    have HS := Lib.hid hs
    have HX := Lib.hid hx
    clear hs hx
    by_cases hjl : j < la.length
    · have t1 : decide ((j : Int) < la.length) = true := by simp; omega
      obtain ⟨ba, offa, rfl, hxlt, hxc⟩ := ha3.out (by omega)
      obtain ⟨x, hx⟩ : ∃ x, la[j]? = some x := ⟨_, List.getElem?_eq_getElem hjl⟩
      have hdx : la.drop j = x :: la.drop (j + 1) := by rw [List.drop_eq_getElem_cons hjl]; rw [List.getElem?_eq_getElem hjl] at hx; rw [Option.some.inj hx]
      have HD := Lib.hid (show (opOk x && (la.drop (j + 1)).all opOk) = A by rw [← HS.out, hdx, List.all_cons])
      have hc := rvalidOper_any x wo (OpH.below (ha4.out x (List.mem_of_getElem? hx)) hbw)
      generalize opOk x = b1 at hc HD
      obtain ⟨onx, oix, ⟨pnx, phx, ppx⟩⟩ := x
      simp only [opV, opC, plC, List.cons_append, List.nil_append] at hc
      replace hc := Lib.hid hc
      have g0 : wo.cell? ⟨ba, offa + j * 4, none⟩ = some (.bool onx) := (hbw.cell (p := ⟨ba, offa + j * 4, none⟩) hxlt).trans (by simpa using hxc j _ hx 0 _ rfl)
      have g1 : wo.cell? ⟨ba, offa + j * 4 + 1, none⟩ = some (.int .i64 oix) := (hbw.cell (p := ⟨ba, offa + j * 4 + 1, none⟩) hxlt).trans (by simpa using hxc j _ hx 1 _ rfl)
      have g2 : wo.cell? ⟨ba, offa + j * 4 + 2, none⟩ = some (.string pnx) := (hbw.cell (p := ⟨ba, offa + j * 4 + 2, none⟩) hxlt).trans (by simpa using hxc j _ hx 2 _ rfl)
      have g3 : wo.cell? ⟨ba, offa + j * 4 + 3, none⟩ = some (.slice phx.oa ppx.length phx.cap) := (hbw.cell (p := ⟨ba, offa + j * 4 + 3, none⟩) hxlt).trans (by simpa using hxc j _ hx 3 _ rfl)
      have HBW := Lib.hid hbw
      clear hx hxc hdx HS hbw
      cases b1 with
      | false =>
        go_wp2_with (go_at_call 95; refine hc.out.mono ?_; rintro e w1 ⟨rfl, hb⟩; have HB1 := Lib.hid (HBW.out.trans (hb.mono HBW.out.size)); clear hb)
        go_ret
        exact ⟨by rw [HR.out, ← HD.out]; simp, HB1.out⟩
      | true =>
        go_wp2_with (go_at_call 95; refine hc.out.mono ?_; rintro e w1 ⟨rfl, hb⟩; have HX1 := Lib.hid (keepB HX.out hb); have HB1 := Lib.hid (HBW.out.trans (hb.mono HBW.out.size)); clear hb)
        go_roundw
        case rel => exact ⟨j + 1, by omega, by go_num, by rw [← HD.out]; simp, HB1.out, HX1.out⟩
        case measure => simp [intOf]; omega
    · have t1 : decide ((j : Int) < la.length) = false := by simp; omega
      obtain rfl : j = la.length := by omega
      have HA := Lib.hid (show true = A by rw [← HS.out, List.drop_length]; rfl)
      have HK := Lib.hid hbw
      obtain ⟨w1, rfl⟩ : ∃ w1 : World, w1 = wo := ⟨_, rfl⟩
      have hn := Lib.hid (fun W (hW : Below w.heap.size w W) => rnoPlace_any ⟨pn1, ph1, pp1⟩ W)
      have hp := Lib.hid (fun W (hW : Below w.heap.size w W) => rvalidPlace_any ⟨pn1, ph1, pp1⟩ W (HP5.out.below hW))
      have hl := Lib.hid (fun W (hW : Below w.heap.size w W) => rvalidPlace_bare ⟨pn1, ph1, pp1⟩ W (HP5.out.below hW))
      have hg1 := Lib.hid (fun W => rgreat_any rn1 W)
      have hg2 := Lib.hid (fun W => rgreat_any rr1 W)
      have hs1 := Lib.hid (fun W => rsmall_any rn1 W)
      replace hn := hn.out
      replace hp := hp.out
      replace hl := hl.out
      simp only [plV, plC] at hn hp hl
      replace hn := Lib.hid hn
      replace hp := Lib.hid hp
      replace hl := Lib.hid hl
      clear HS hbw hj hjl ha3 ha4
      go_upto_region 8 with fail
      go_cut [6] from 25 to 32 (fun s wc => s = .bool pl ∧ wc = w1)
      case first =>
        cases he : emptyN rn1 with
        | false =>
          obtain ⟨e1, e2⟩ := empty_no he
          have HE := Lib.hid (show pl = false by rw [HPL.out, he]; rfl)
          clear he
          go_wp2_with fail
          go_meet
          exact ⟨by rw [HE.out]; first | done | rfl, rfl⟩
        | true =>
          obtain rfl := empty_of he
          cases he2 : emptyN rr1 with
          | false =>
            obtain ⟨e1, e2⟩ := empty_no he2
            have HE := Lib.hid (show pl = false by rw [HPL.out, he, he2]; rfl)
            clear he he2
            go_wp2_with fail
            go_meet
            exact ⟨by rw [HE.out]; first | done | rfl, rfl⟩
          | true =>
            obtain rfl := empty_of he2
            have HE := Lib.hid (show pl = true by rw [HPL.out, he]; rfl)
            clear he he2
            go_wp2_with fail
            go_meet
            exact ⟨by rw [HE.out]; first | done | rfl, rfl⟩
      case rest =>
      obtain ⟨rfl, rfl⟩ := hcut
      by_cases k0 : rk1 = 0
      · subst k0
        have hRk : R = (pl && decide (la.length = 1) && noPl ⟨pn1, ph1, pp1⟩) := by
          rw [HR.out, ← HA.out, Bool.and_true, show namesOk ⟨0, ⟨oa, capa⟩, la, ⟨pn1, ph1, pp1⟩, rn1, rr1⟩ = (emptyN rn1 && emptyN rr1) from rfl, show placeOk ⟨0, ⟨oa, capa⟩, la, ⟨pn1, ph1, pp1⟩, rn1, rr1⟩ = noPl ⟨pn1, ph1, pp1⟩ from rfl, show countOk 0 la.length = decide (la.length = 1) from rfl, ← HPL.out]
          ac_rfl
        cases pl with
        | false =>
          have HL := Lib.hid (show R = false by rw [hRk]; rfl)
          clear hRk
          go_wp2_with fail
          go_ret
          exact ⟨by rw [HL.out]; first | done | rfl, HK.out⟩
        | true =>
        by_cases hc : la.length = 1
        case neg =>
          have tc : ((la.length : Int) == 1) = false := by rw [beq_eq_false_iff_ne]; omega
          have HL := Lib.hid (show R = false by rw [hRk]; simp [hc])
          clear hRk hc
          go_wp2_with fail
          go_ret
          exact ⟨by rw [HL.out]; first | done | rfl, HK.out⟩
        have tc : ((la.length : Int) == 1) = true := by rw [beq_iff_eq]; omega
        rw [decide_eq_true hc] at hRk
        clear hc
        generalize noPl ⟨pn1, ph1, pp1⟩ = b9 at hn hRk
        cases b9 with
        | false =>
          have HL := Lib.hid (show R = false by rw [hRk]; rfl)
          clear hRk
          go_wp2_with (first | (go_at_call 90; refine (hn.out _ HK.out).mono ?_; rintro e v9 ⟨rfl, hb⟩; have HB9 := Lib.hid (HK.out.trans (hb.mono HK.out.size)); clear hb))
          go_ret
          exact ⟨by rw [HL.out]; first | done | rfl, HB9.out⟩
        | true =>
          have HL := Lib.hid (show R = true by rw [hRk]; rfl)
          clear hRk
          go_wp2_with (first | (go_at_call 90; refine (hn.out _ HK.out).mono ?_; rintro e v9 ⟨rfl, hb⟩; have HB9 := Lib.hid (HK.out.trans (hb.mono HK.out.size)); clear hb))
          go_ret
          exact ⟨by rw [HL.out]; first | done | rfl, HB9.out⟩
      have s0 : (rk1 == 0) = false := by simpa using k0
      by_cases k8 : rk1 = 8
      · subst k8
        have hRk : R = (pl && decide (la.length = 1) && noPl ⟨pn1, ph1, pp1⟩) := by
          rw [HR.out, ← HA.out, Bool.and_true, show namesOk ⟨8, ⟨oa, capa⟩, la, ⟨pn1, ph1, pp1⟩, rn1, rr1⟩ = (emptyN rn1 && emptyN rr1) from rfl, show placeOk ⟨8, ⟨oa, capa⟩, la, ⟨pn1, ph1, pp1⟩, rn1, rr1⟩ = noPl ⟨pn1, ph1, pp1⟩ from rfl, show countOk 8 la.length = decide (la.length = 1) from rfl, ← HPL.out]
          ac_rfl
        cases pl with
        | false =>
          have HL := Lib.hid (show R = false by rw [hRk]; rfl)
          clear hRk
          go_wp2_with fail
          go_ret
          exact ⟨by rw [HL.out]; first | done | rfl, HK.out⟩
        | true =>
        by_cases hc : la.length = 1
        case neg =>
          have tc : ((la.length : Int) == 1) = false := by rw [beq_eq_false_iff_ne]; omega
          have HL := Lib.hid (show R = false by rw [hRk]; simp [hc])
          clear hRk hc
          go_wp2_with fail
          go_ret
          exact ⟨by rw [HL.out]; first | done | rfl, HK.out⟩
        have tc : ((la.length : Int) == 1) = true := by rw [beq_iff_eq]; omega
        rw [decide_eq_true hc] at hRk
        clear hc
        generalize noPl ⟨pn1, ph1, pp1⟩ = b9 at hn hRk
        cases b9 with
        | false =>
          have HL := Lib.hid (show R = false by rw [hRk]; rfl)
          clear hRk
          go_wp2_with (first | (go_at_call 90; refine (hn.out _ HK.out).mono ?_; rintro e v9 ⟨rfl, hb⟩; have HB9 := Lib.hid (HK.out.trans (hb.mono HK.out.size)); clear hb))
          go_ret
          exact ⟨by rw [HL.out]; first | done | rfl, HB9.out⟩
        | true =>
          have HL := Lib.hid (show R = true by rw [hRk]; rfl)
          clear hRk
          go_wp2_with (first | (go_at_call 90; refine (hn.out _ HK.out).mono ?_; rintro e v9 ⟨rfl, hb⟩; have HB9 := Lib.hid (HK.out.trans (hb.mono HK.out.size)); clear hb))
          go_ret
          exact ⟨by rw [HL.out]; first | done | rfl, HB9.out⟩
      have s8 : (rk1 == 8) = false := by simpa using k8
      by_cases k15 : rk1 = 15
      · subst k15
        have hRk : R = (pl && decide (la.length = 1) && noPl ⟨pn1, ph1, pp1⟩) := by
          rw [HR.out, ← HA.out, Bool.and_true, show namesOk ⟨15, ⟨oa, capa⟩, la, ⟨pn1, ph1, pp1⟩, rn1, rr1⟩ = (emptyN rn1 && emptyN rr1) from rfl, show placeOk ⟨15, ⟨oa, capa⟩, la, ⟨pn1, ph1, pp1⟩, rn1, rr1⟩ = noPl ⟨pn1, ph1, pp1⟩ from rfl, show countOk 15 la.length = decide (la.length = 1) from rfl, ← HPL.out]
          ac_rfl
        cases pl with
        | false =>
          have HL := Lib.hid (show R = false by rw [hRk]; rfl)
          clear hRk
          go_wp2_with fail
          go_ret
          exact ⟨by rw [HL.out]; first | done | rfl, HK.out⟩
        | true =>
        by_cases hc : la.length = 1
        case neg =>
          have tc : ((la.length : Int) == 1) = false := by rw [beq_eq_false_iff_ne]; omega
          have HL := Lib.hid (show R = false by rw [hRk]; simp [hc])
          clear hRk hc
          go_wp2_with fail
          go_ret
          exact ⟨by rw [HL.out]; first | done | rfl, HK.out⟩
        have tc : ((la.length : Int) == 1) = true := by rw [beq_iff_eq]; omega
        rw [decide_eq_true hc] at hRk
        clear hc
        generalize noPl ⟨pn1, ph1, pp1⟩ = b9 at hn hRk
        cases b9 with
        | false =>
          have HL := Lib.hid (show R = false by rw [hRk]; rfl)
          clear hRk
          go_wp2_with (first | (go_at_call 90; refine (hn.out _ HK.out).mono ?_; rintro e v9 ⟨rfl, hb⟩; have HB9 := Lib.hid (HK.out.trans (hb.mono HK.out.size)); clear hb))
          go_ret
          exact ⟨by rw [HL.out]; first | done | rfl, HB9.out⟩
        | true =>
          have HL := Lib.hid (show R = true by rw [hRk]; rfl)
          clear hRk
          go_wp2_with (first | (go_at_call 90; refine (hn.out _ HK.out).mono ?_; rintro e v9 ⟨rfl, hb⟩; have HB9 := Lib.hid (HK.out.trans (hb.mono HK.out.size)); clear hb))
          go_ret
          exact ⟨by rw [HL.out]; first | done | rfl, HB9.out⟩
      have s15 : (rk1 == 15) = false := by simpa using k15
      by_cases k1 : rk1 = 1
      · subst k1
        have hRk : R = (pl && decide (la.length = 2) && noPl ⟨pn1, ph1, pp1⟩) := by
          rw [HR.out, ← HA.out, Bool.and_true, show namesOk ⟨1, ⟨oa, capa⟩, la, ⟨pn1, ph1, pp1⟩, rn1, rr1⟩ = (emptyN rn1 && emptyN rr1) from rfl, show placeOk ⟨1, ⟨oa, capa⟩, la, ⟨pn1, ph1, pp1⟩, rn1, rr1⟩ = noPl ⟨pn1, ph1, pp1⟩ from rfl, show countOk 1 la.length = decide (la.length = 2) from rfl, ← HPL.out]
          ac_rfl
        cases pl with
        | false =>
          have HL := Lib.hid (show R = false by rw [hRk]; rfl)
          clear hRk
          go_wp2_with fail
          go_ret
          exact ⟨by rw [HL.out]; first | done | rfl, HK.out⟩
        | true =>
        by_cases hc : la.length = 2
        case neg =>
          have tc : ((la.length : Int) == 2) = false := by rw [beq_eq_false_iff_ne]; omega
          have HL := Lib.hid (show R = false by rw [hRk]; simp [hc])
          clear hRk hc
          go_wp2_with fail
          go_ret
          exact ⟨by rw [HL.out]; first | done | rfl, HK.out⟩
        have tc : ((la.length : Int) == 2) = true := by rw [beq_iff_eq]; omega
        rw [decide_eq_true hc] at hRk
        clear hc
        generalize noPl ⟨pn1, ph1, pp1⟩ = b9 at hn hRk
        cases b9 with
        | false =>
          have HL := Lib.hid (show R = false by rw [hRk]; rfl)
          clear hRk
          go_wp2_with (first | (go_at_call 90; refine (hn.out _ HK.out).mono ?_; rintro e v9 ⟨rfl, hb⟩; have HB9 := Lib.hid (HK.out.trans (hb.mono HK.out.size)); clear hb))
          go_ret
          exact ⟨by rw [HL.out]; first | done | rfl, HB9.out⟩
        | true =>
          have HL := Lib.hid (show R = true by rw [hRk]; rfl)
          clear hRk
          go_wp2_with (first | (go_at_call 90; refine (hn.out _ HK.out).mono ?_; rintro e v9 ⟨rfl, hb⟩; have HB9 := Lib.hid (HK.out.trans (hb.mono HK.out.size)); clear hb))
          go_ret
          exact ⟨by rw [HL.out]; first | done | rfl, HB9.out⟩
      have s1 : (rk1 == 1) = false := by simpa using k1
      by_cases k2 : rk1 = 2
      · subst k2
        have hRk : R = (pl && decide (la.length = 2) && noPl ⟨pn1, ph1, pp1⟩) := by
          rw [HR.out, ← HA.out, Bool.and_true, show namesOk ⟨2, ⟨oa, capa⟩, la, ⟨pn1, ph1, pp1⟩, rn1, rr1⟩ = (emptyN rn1 && emptyN rr1) from rfl, show placeOk ⟨2, ⟨oa, capa⟩, la, ⟨pn1, ph1, pp1⟩, rn1, rr1⟩ = noPl ⟨pn1, ph1, pp1⟩ from rfl, show countOk 2 la.length = decide (la.length = 2) from rfl, ← HPL.out]
          ac_rfl
        cases pl with
        | false =>
          have HL := Lib.hid (show R = false by rw [hRk]; rfl)
          clear hRk
          go_wp2_with fail
          go_ret
          exact ⟨by rw [HL.out]; first | done | rfl, HK.out⟩
        | true =>
        by_cases hc : la.length = 2
        case neg =>
          have tc : ((la.length : Int) == 2) = false := by rw [beq_eq_false_iff_ne]; omega
          have HL := Lib.hid (show R = false by rw [hRk]; simp [hc])
          clear hRk hc
          go_wp2_with fail
          go_ret
          exact ⟨by rw [HL.out]; first | done | rfl, HK.out⟩
        have tc : ((la.length : Int) == 2) = true := by rw [beq_iff_eq]; omega
        rw [decide_eq_true hc] at hRk
        clear hc
        generalize noPl ⟨pn1, ph1, pp1⟩ = b9 at hn hRk
        cases b9 with
        | false =>
          have HL := Lib.hid (show R = false by rw [hRk]; rfl)
          clear hRk
          go_wp2_with (first | (go_at_call 90; refine (hn.out _ HK.out).mono ?_; rintro e v9 ⟨rfl, hb⟩; have HB9 := Lib.hid (HK.out.trans (hb.mono HK.out.size)); clear hb))
          go_ret
          exact ⟨by rw [HL.out]; first | done | rfl, HB9.out⟩
        | true =>
          have HL := Lib.hid (show R = true by rw [hRk]; rfl)
          clear hRk
          go_wp2_with (first | (go_at_call 90; refine (hn.out _ HK.out).mono ?_; rintro e v9 ⟨rfl, hb⟩; have HB9 := Lib.hid (HK.out.trans (hb.mono HK.out.size)); clear hb))
          go_ret
          exact ⟨by rw [HL.out]; first | done | rfl, HB9.out⟩
      have s2 : (rk1 == 2) = false := by simpa using k2
      by_cases k3 : rk1 = 3
      · subst k3
        have hRk : R = (pl && decide (la.length = 2) && noPl ⟨pn1, ph1, pp1⟩) := by
          rw [HR.out, ← HA.out, Bool.and_true, show namesOk ⟨3, ⟨oa, capa⟩, la, ⟨pn1, ph1, pp1⟩, rn1, rr1⟩ = (emptyN rn1 && emptyN rr1) from rfl, show placeOk ⟨3, ⟨oa, capa⟩, la, ⟨pn1, ph1, pp1⟩, rn1, rr1⟩ = noPl ⟨pn1, ph1, pp1⟩ from rfl, show countOk 3 la.length = decide (la.length = 2) from rfl, ← HPL.out]
          ac_rfl
        cases pl with
        | false =>
          have HL := Lib.hid (show R = false by rw [hRk]; rfl)
          clear hRk
          go_wp2_with fail
          go_ret
          exact ⟨by rw [HL.out]; first | done | rfl, HK.out⟩
        | true =>
        by_cases hc : la.length = 2
        case neg =>
          have tc : ((la.length : Int) == 2) = false := by rw [beq_eq_false_iff_ne]; omega
          have HL := Lib.hid (show R = false by rw [hRk]; simp [hc])
          clear hRk hc
          go_wp2_with fail
          go_ret
          exact ⟨by rw [HL.out]; first | done | rfl, HK.out⟩
        have tc : ((la.length : Int) == 2) = true := by rw [beq_iff_eq]; omega
        rw [decide_eq_true hc] at hRk
        clear hc
        generalize noPl ⟨pn1, ph1, pp1⟩ = b9 at hn hRk
        cases b9 with
        | false =>
          have HL := Lib.hid (show R = false by rw [hRk]; rfl)
          clear hRk
          go_wp2_with (first | (go_at_call 90; refine (hn.out _ HK.out).mono ?_; rintro e v9 ⟨rfl, hb⟩; have HB9 := Lib.hid (HK.out.trans (hb.mono HK.out.size)); clear hb))
          go_ret
          exact ⟨by rw [HL.out]; first | done | rfl, HB9.out⟩
        | true =>
          have HL := Lib.hid (show R = true by rw [hRk]; rfl)
          clear hRk
          go_wp2_with (first | (go_at_call 90; refine (hn.out _ HK.out).mono ?_; rintro e v9 ⟨rfl, hb⟩; have HB9 := Lib.hid (HK.out.trans (hb.mono HK.out.size)); clear hb))
          go_ret
          exact ⟨by rw [HL.out]; first | done | rfl, HB9.out⟩
      have s3 : (rk1 == 3) = false := by simpa using k3
      by_cases k4 : rk1 = 4
      · subst k4
        have hRk : R = (pl && decide (la.length = 2) && noPl ⟨pn1, ph1, pp1⟩) := by
          rw [HR.out, ← HA.out, Bool.and_true, show namesOk ⟨4, ⟨oa, capa⟩, la, ⟨pn1, ph1, pp1⟩, rn1, rr1⟩ = (emptyN rn1 && emptyN rr1) from rfl, show placeOk ⟨4, ⟨oa, capa⟩, la, ⟨pn1, ph1, pp1⟩, rn1, rr1⟩ = noPl ⟨pn1, ph1, pp1⟩ from rfl, show countOk 4 la.length = decide (la.length = 2) from rfl, ← HPL.out]
          ac_rfl
        cases pl with
        | false =>
          have HL := Lib.hid (show R = false by rw [hRk]; rfl)
          clear hRk
          go_wp2_with fail
          go_ret
          exact ⟨by rw [HL.out]; first | done | rfl, HK.out⟩
        | true =>
        by_cases hc : la.length = 2
        case neg =>
          have tc : ((la.length : Int) == 2) = false := by rw [beq_eq_false_iff_ne]; omega
          have HL := Lib.hid (show R = false by rw [hRk]; simp [hc])
          clear hRk hc
          go_wp2_with fail
          go_ret
          exact ⟨by rw [HL.out]; first | done | rfl, HK.out⟩
        have tc : ((la.length : Int) == 2) = true := by rw [beq_iff_eq]; omega
        rw [decide_eq_true hc] at hRk
        clear hc
        generalize noPl ⟨pn1, ph1, pp1⟩ = b9 at hn hRk
        cases b9 with
        | false =>
          have HL := Lib.hid (show R = false by rw [hRk]; rfl)
          clear hRk
          go_wp2_with (first | (go_at_call 90; refine (hn.out _ HK.out).mono ?_; rintro e v9 ⟨rfl, hb⟩; have HB9 := Lib.hid (HK.out.trans (hb.mono HK.out.size)); clear hb))
          go_ret
          exact ⟨by rw [HL.out]; first | done | rfl, HB9.out⟩
        | true =>
          have HL := Lib.hid (show R = true by rw [hRk]; rfl)
          clear hRk
          go_wp2_with (first | (go_at_call 90; refine (hn.out _ HK.out).mono ?_; rintro e v9 ⟨rfl, hb⟩; have HB9 := Lib.hid (HK.out.trans (hb.mono HK.out.size)); clear hb))
          go_ret
          exact ⟨by rw [HL.out]; first | done | rfl, HB9.out⟩
      have s4 : (rk1 == 4) = false := by simpa using k4
      by_cases k5 : rk1 = 5
      · subst k5
        have hRk : R = (pl && decide (la.length = 2) && noPl ⟨pn1, ph1, pp1⟩) := by
          rw [HR.out, ← HA.out, Bool.and_true, show namesOk ⟨5, ⟨oa, capa⟩, la, ⟨pn1, ph1, pp1⟩, rn1, rr1⟩ = (emptyN rn1 && emptyN rr1) from rfl, show placeOk ⟨5, ⟨oa, capa⟩, la, ⟨pn1, ph1, pp1⟩, rn1, rr1⟩ = noPl ⟨pn1, ph1, pp1⟩ from rfl, show countOk 5 la.length = decide (la.length = 2) from rfl, ← HPL.out]
          ac_rfl
        cases pl with
        | false =>
          have HL := Lib.hid (show R = false by rw [hRk]; rfl)
          clear hRk
          go_wp2_with fail
          go_ret
          exact ⟨by rw [HL.out]; first | done | rfl, HK.out⟩
        | true =>
        by_cases hc : la.length = 2
        case neg =>
          have tc : ((la.length : Int) == 2) = false := by rw [beq_eq_false_iff_ne]; omega
          have HL := Lib.hid (show R = false by rw [hRk]; simp [hc])
          clear hRk hc
          go_wp2_with fail
          go_ret
          exact ⟨by rw [HL.out]; first | done | rfl, HK.out⟩
        have tc : ((la.length : Int) == 2) = true := by rw [beq_iff_eq]; omega
        rw [decide_eq_true hc] at hRk
        clear hc
        generalize noPl ⟨pn1, ph1, pp1⟩ = b9 at hn hRk
        cases b9 with
        | false =>
          have HL := Lib.hid (show R = false by rw [hRk]; rfl)
          clear hRk
          go_wp2_with (first | (go_at_call 90; refine (hn.out _ HK.out).mono ?_; rintro e v9 ⟨rfl, hb⟩; have HB9 := Lib.hid (HK.out.trans (hb.mono HK.out.size)); clear hb))
          go_ret
          exact ⟨by rw [HL.out]; first | done | rfl, HB9.out⟩
        | true =>
          have HL := Lib.hid (show R = true by rw [hRk]; rfl)
          clear hRk
          go_wp2_with (first | (go_at_call 90; refine (hn.out _ HK.out).mono ?_; rintro e v9 ⟨rfl, hb⟩; have HB9 := Lib.hid (HK.out.trans (hb.mono HK.out.size)); clear hb))
          go_ret
          exact ⟨by rw [HL.out]; first | done | rfl, HB9.out⟩
      have s5 : (rk1 == 5) = false := by simpa using k5
      by_cases k6 : rk1 = 6
      · subst k6
        have hRk : R = (pl && decide (la.length = 0) && plOk ⟨pn1, ph1, pp1⟩) := by
          rw [HR.out, ← HA.out, Bool.and_true, show namesOk ⟨6, ⟨oa, capa⟩, la, ⟨pn1, ph1, pp1⟩, rn1, rr1⟩ = (emptyN rn1 && emptyN rr1) from rfl, show placeOk ⟨6, ⟨oa, capa⟩, la, ⟨pn1, ph1, pp1⟩, rn1, rr1⟩ = plOk ⟨pn1, ph1, pp1⟩ from rfl, show countOk 6 la.length = decide (la.length = 0) from rfl, ← HPL.out]
          ac_rfl
        cases pl with
        | false =>
          have HL := Lib.hid (show R = false by rw [hRk]; rfl)
          clear hRk
          go_wp2_with fail
          go_ret
          exact ⟨by rw [HL.out]; first | done | rfl, HK.out⟩
        | true =>
        by_cases hc : la.length = 0
        case neg =>
          have tc : ((la.length : Int) == 0) = false := by rw [beq_eq_false_iff_ne]; omega
          have HL := Lib.hid (show R = false by rw [hRk]; simp [hc])
          clear hRk hc
          go_wp2_with fail
          go_ret
          exact ⟨by rw [HL.out]; first | done | rfl, HK.out⟩
        have tc : ((la.length : Int) == 0) = true := by rw [beq_iff_eq]; omega
        rw [decide_eq_true hc] at hRk
        clear hc
        generalize plOk ⟨pn1, ph1, pp1⟩ = b9 at hp hRk
        cases b9 with
        | false =>
          have HL := Lib.hid (show R = false by rw [hRk]; rfl)
          clear hRk
          go_wp2_with (first | (go_at_call 94; refine (hp.out _ HK.out).mono ?_; rintro e v9 ⟨rfl, hb⟩; have HB9 := Lib.hid (HK.out.trans (hb.mono HK.out.size)); clear hb))
          go_ret
          exact ⟨by rw [HL.out]; first | done | rfl, HB9.out⟩
        | true =>
          have HL := Lib.hid (show R = true by rw [hRk]; rfl)
          clear hRk
          go_wp2_with (first | (go_at_call 94; refine (hp.out _ HK.out).mono ?_; rintro e v9 ⟨rfl, hb⟩; have HB9 := Lib.hid (HK.out.trans (hb.mono HK.out.size)); clear hb))
          go_ret
          exact ⟨by rw [HL.out]; first | done | rfl, HB9.out⟩
      have s6 : (rk1 == 6) = false := by simpa using k6
      by_cases k7 : rk1 = 7
      · subst k7
        have hRk : R = (pl && decide (la.length = 0) && plOk ⟨pn1, ph1, pp1⟩) := by
          rw [HR.out, ← HA.out, Bool.and_true, show namesOk ⟨7, ⟨oa, capa⟩, la, ⟨pn1, ph1, pp1⟩, rn1, rr1⟩ = (emptyN rn1 && emptyN rr1) from rfl, show placeOk ⟨7, ⟨oa, capa⟩, la, ⟨pn1, ph1, pp1⟩, rn1, rr1⟩ = plOk ⟨pn1, ph1, pp1⟩ from rfl, show countOk 7 la.length = decide (la.length = 0) from rfl, ← HPL.out]
          ac_rfl
        cases pl with
        | false =>
          have HL := Lib.hid (show R = false by rw [hRk]; rfl)
          clear hRk
          go_wp2_with fail
          go_ret
          exact ⟨by rw [HL.out]; first | done | rfl, HK.out⟩
        | true =>
        by_cases hc : la.length = 0
        case neg =>
          have tc : ((la.length : Int) == 0) = false := by rw [beq_eq_false_iff_ne]; omega
          have HL := Lib.hid (show R = false by rw [hRk]; simp [hc])
          clear hRk hc
          go_wp2_with fail
          go_ret
          exact ⟨by rw [HL.out]; first | done | rfl, HK.out⟩
        have tc : ((la.length : Int) == 0) = true := by rw [beq_iff_eq]; omega
        rw [decide_eq_true hc] at hRk
        clear hc
        generalize plOk ⟨pn1, ph1, pp1⟩ = b9 at hp hRk
        cases b9 with
        | false =>
          have HL := Lib.hid (show R = false by rw [hRk]; rfl)
          clear hRk
          go_wp2_with (first | (go_at_call 94; refine (hp.out _ HK.out).mono ?_; rintro e v9 ⟨rfl, hb⟩; have HB9 := Lib.hid (HK.out.trans (hb.mono HK.out.size)); clear hb))
          go_ret
          exact ⟨by rw [HL.out]; first | done | rfl, HB9.out⟩
        | true =>
          have HL := Lib.hid (show R = true by rw [hRk]; rfl)
          clear hRk
          go_wp2_with (first | (go_at_call 94; refine (hp.out _ HK.out).mono ?_; rintro e v9 ⟨rfl, hb⟩; have HB9 := Lib.hid (HK.out.trans (hb.mono HK.out.size)); clear hb))
          go_ret
          exact ⟨by rw [HL.out]; first | done | rfl, HB9.out⟩
      have s7 : (rk1 == 7) = false := by simpa using k7
      by_cases k9 : rk1 = 9
      · subst k9
        have hRk : R = (pl && decide (la.length = 0) && aloneB ⟨pn1, ph1, pp1⟩) := by
          rw [HR.out, ← HA.out, Bool.and_true, show namesOk ⟨9, ⟨oa, capa⟩, la, ⟨pn1, ph1, pp1⟩, rn1, rr1⟩ = (emptyN rn1 && emptyN rr1) from rfl, show placeOk ⟨9, ⟨oa, capa⟩, la, ⟨pn1, ph1, pp1⟩, rn1, rr1⟩ = aloneB ⟨pn1, ph1, pp1⟩ from rfl, show countOk 9 la.length = decide (la.length = 0) from rfl, ← HPL.out]
          ac_rfl
        cases pl with
        | false =>
          have HL := Lib.hid (show R = false by rw [hRk]; rfl)
          clear hRk
          go_wp2_with fail
          go_ret
          exact ⟨by rw [HL.out]; first | done | rfl, HK.out⟩
        | true =>
        by_cases hc : la.length = 0
        case neg =>
          have tc : ((la.length : Int) == 0) = false := by rw [beq_eq_false_iff_ne]; omega
          have HL := Lib.hid (show R = false by rw [hRk]; simp [hc])
          clear hRk hc
          go_wp2_with fail
          go_ret
          exact ⟨by rw [HL.out]; first | done | rfl, HK.out⟩
        have tc : ((la.length : Int) == 0) = true := by rw [beq_iff_eq]; omega
        rw [decide_eq_true hc] at hRk
        clear hc
        generalize aloneB ⟨pn1, ph1, pp1⟩ = b9 at hl hRk
        cases b9 with
        | false =>
          have HL := Lib.hid (show R = false by rw [hRk]; rfl)
          clear hRk
          go_wp2_with (first | (go_at_call 94; refine (hl.out _ HK.out).mono ?_; rintro e v9 ⟨rfl, hb⟩; have HB9 := Lib.hid (HK.out.trans (hb.mono HK.out.size)); clear hb))
          go_ret
          exact ⟨by rw [HL.out]; first | done | rfl, HB9.out⟩
        | true =>
          have HL := Lib.hid (show R = true by rw [hRk]; rfl)
          clear hRk
          go_wp2_with (first | (go_at_call 94; refine (hl.out _ HK.out).mono ?_; rintro e v9 ⟨rfl, hb⟩; have HB9 := Lib.hid (HK.out.trans (hb.mono HK.out.size)); clear hb))
          go_ret
          exact ⟨by rw [HL.out]; first | done | rfl, HB9.out⟩
      have s9 : (rk1 == 9) = false := by simpa using k9
      by_cases k13 : rk1 = 13
      · subst k13
        have hRk : R = (pl && decide (la.length = 0) && aloneB ⟨pn1, ph1, pp1⟩) := by
          rw [HR.out, ← HA.out, Bool.and_true, show namesOk ⟨13, ⟨oa, capa⟩, la, ⟨pn1, ph1, pp1⟩, rn1, rr1⟩ = (emptyN rn1 && emptyN rr1) from rfl, show placeOk ⟨13, ⟨oa, capa⟩, la, ⟨pn1, ph1, pp1⟩, rn1, rr1⟩ = aloneB ⟨pn1, ph1, pp1⟩ from rfl, show countOk 13 la.length = decide (la.length = 0) from rfl, ← HPL.out]
          ac_rfl
        cases pl with
        | false =>
          have HL := Lib.hid (show R = false by rw [hRk]; rfl)
          clear hRk
          go_wp2_with fail
          go_ret
          exact ⟨by rw [HL.out]; first | done | rfl, HK.out⟩
        | true =>
        by_cases hc : la.length = 0
        case neg =>
          have tc : ((la.length : Int) == 0) = false := by rw [beq_eq_false_iff_ne]; omega
          have HL := Lib.hid (show R = false by rw [hRk]; simp [hc])
          clear hRk hc
          go_wp2_with fail
          go_ret
          exact ⟨by rw [HL.out]; first | done | rfl, HK.out⟩
        have tc : ((la.length : Int) == 0) = true := by rw [beq_iff_eq]; omega
        rw [decide_eq_true hc] at hRk
        clear hc
        generalize aloneB ⟨pn1, ph1, pp1⟩ = b9 at hl hRk
        cases b9 with
        | false =>
          have HL := Lib.hid (show R = false by rw [hRk]; rfl)
          clear hRk
          go_wp2_with (first | (go_at_call 94; refine (hl.out _ HK.out).mono ?_; rintro e v9 ⟨rfl, hb⟩; have HB9 := Lib.hid (HK.out.trans (hb.mono HK.out.size)); clear hb))
          go_ret
          exact ⟨by rw [HL.out]; first | done | rfl, HB9.out⟩
        | true =>
          have HL := Lib.hid (show R = true by rw [hRk]; rfl)
          clear hRk
          go_wp2_with (first | (go_at_call 94; refine (hl.out _ HK.out).mono ?_; rintro e v9 ⟨rfl, hb⟩; have HB9 := Lib.hid (HK.out.trans (hb.mono HK.out.size)); clear hb))
          go_ret
          exact ⟨by rw [HL.out]; first | done | rfl, HB9.out⟩
      have s13 : (rk1 == 13) = false := by simpa using k13
      by_cases k14 : rk1 = 14
      · subst k14
        have hRk : R = (pl && decide (la.length = 0) && aloneB ⟨pn1, ph1, pp1⟩) := by
          rw [HR.out, ← HA.out, Bool.and_true, show namesOk ⟨14, ⟨oa, capa⟩, la, ⟨pn1, ph1, pp1⟩, rn1, rr1⟩ = (emptyN rn1 && emptyN rr1) from rfl, show placeOk ⟨14, ⟨oa, capa⟩, la, ⟨pn1, ph1, pp1⟩, rn1, rr1⟩ = aloneB ⟨pn1, ph1, pp1⟩ from rfl, show countOk 14 la.length = decide (la.length = 0) from rfl, ← HPL.out]
          ac_rfl
        cases pl with
        | false =>
          have HL := Lib.hid (show R = false by rw [hRk]; rfl)
          clear hRk
          go_wp2_with fail
          go_ret
          exact ⟨by rw [HL.out]; first | done | rfl, HK.out⟩
        | true =>
        by_cases hc : la.length = 0
        case neg =>
          have tc : ((la.length : Int) == 0) = false := by rw [beq_eq_false_iff_ne]; omega
          have HL := Lib.hid (show R = false by rw [hRk]; simp [hc])
          clear hRk hc
          go_wp2_with fail
          go_ret
          exact ⟨by rw [HL.out]; first | done | rfl, HK.out⟩
        have tc : ((la.length : Int) == 0) = true := by rw [beq_iff_eq]; omega
        rw [decide_eq_true hc] at hRk
        clear hc
        generalize aloneB ⟨pn1, ph1, pp1⟩ = b9 at hl hRk
        cases b9 with
        | false =>
          have HL := Lib.hid (show R = false by rw [hRk]; rfl)
          clear hRk
          go_wp2_with (first | (go_at_call 94; refine (hl.out _ HK.out).mono ?_; rintro e v9 ⟨rfl, hb⟩; have HB9 := Lib.hid (HK.out.trans (hb.mono HK.out.size)); clear hb))
          go_ret
          exact ⟨by rw [HL.out]; first | done | rfl, HB9.out⟩
        | true =>
          have HL := Lib.hid (show R = true by rw [hRk]; rfl)
          clear hRk
          go_wp2_with (first | (go_at_call 94; refine (hl.out _ HK.out).mono ?_; rintro e v9 ⟨rfl, hb⟩; have HB9 := Lib.hid (HK.out.trans (hb.mono HK.out.size)); clear hb))
          go_ret
          exact ⟨by rw [HL.out]; first | done | rfl, HB9.out⟩
      have s14 : (rk1 == 14) = false := by simpa using k14
      by_cases k10 : rk1 = 10
      · subst k10
        have hRk : R = (greatN rn1 && emptyN rr1 && noPl ⟨pn1, ph1, pp1⟩) := by
          rw [HR.out, ← HA.out, Bool.and_true, show namesOk ⟨10, ⟨oa, capa⟩, la, ⟨pn1, ph1, pp1⟩, rn1, rr1⟩ = (greatN rn1 && emptyN rr1) from rfl, show placeOk ⟨10, ⟨oa, capa⟩, la, ⟨pn1, ph1, pp1⟩, rn1, rr1⟩ = noPl ⟨pn1, ph1, pp1⟩ from rfl, show countOk 10 la.length = true from rfl]
          rw [Bool.and_true]
        generalize greatN rn1 = b7 at hg1 hRk
        cases b7 with
        | false =>
          have HL := Lib.hid (show R = false by rw [hRk]; rfl)
          clear hRk
          go_wp2_with (first | (go_at_call_of 28 (Value.string rn1); refine (hg1.out _).mono ?_; rintro e v7 ⟨rfl, hb⟩; have hx7 := keepB HX.out hb; obtain ⟨a0, a1, a2, a3, a4, a5⟩ := HCL.out v7 hx7; have HK7 := Lib.hid (HK.out.trans (hb.mono HK.out.size)); have HX7 := Lib.hid hx7; clear hb hx7))
          go_ret
          exact ⟨by rw [HL.out]; first | done | rfl, HK7.out⟩
        | true =>
        cases he : emptyN rr1 with
        | false =>
          obtain ⟨e1, e2⟩ := empty_no he
          rw [he] at hRk
          clear he
          have HL := Lib.hid (show R = false by rw [hRk]; rfl)
          clear hRk
          go_wp2_with (first | (go_at_call_of 28 (Value.string rn1); refine (hg1.out _).mono ?_; rintro e v7 ⟨rfl, hb⟩; have hx7 := keepB HX.out hb; obtain ⟨a0, a1, a2, a3, a4, a5⟩ := HCL.out v7 hx7; have HK7 := Lib.hid (HK.out.trans (hb.mono HK.out.size)); have HX7 := Lib.hid hx7; clear hb hx7))
          go_ret
          exact ⟨by rw [HL.out]; first | done | rfl, HK7.out⟩
        | true =>
        obtain rfl := empty_of he
        rw [he] at hRk
        clear he
        generalize noPl ⟨pn1, ph1, pp1⟩ = b9 at hn hRk
        cases b9 with
        | false =>
          have HL := Lib.hid (show R = false by rw [hRk]; rfl)
          clear hRk
          go_wp2_with (first | (go_at_call_of 28 (Value.string rn1); refine (hg1.out _).mono ?_; rintro e v7 ⟨rfl, hb⟩; have hx7 := keepB HX.out hb; obtain ⟨a0, a1, a2, a3, a4, a5⟩ := HCL.out v7 hx7; have HK7 := Lib.hid (HK.out.trans (hb.mono HK.out.size)); have HX7 := Lib.hid hx7; clear hb hx7) | (go_at_call 90; refine (hn.out _ HK7.out).mono ?_; rintro e v9 ⟨rfl, hb⟩; have HB9 := Lib.hid (HK7.out.trans (hb.mono HK7.out.size)); clear hb))
          go_ret
          exact ⟨by rw [HL.out]; first | done | rfl, HB9.out⟩
        | true =>
          have HL := Lib.hid (show R = true by rw [hRk]; rfl)
          clear hRk
          go_wp2_with (first | (go_at_call_of 28 (Value.string rn1); refine (hg1.out _).mono ?_; rintro e v7 ⟨rfl, hb⟩; have hx7 := keepB HX.out hb; obtain ⟨a0, a1, a2, a3, a4, a5⟩ := HCL.out v7 hx7; have HK7 := Lib.hid (HK.out.trans (hb.mono HK.out.size)); have HX7 := Lib.hid hx7; clear hb hx7) | (go_at_call 90; refine (hn.out _ HK7.out).mono ?_; rintro e v9 ⟨rfl, hb⟩; have HB9 := Lib.hid (HK7.out.trans (hb.mono HK7.out.size)); clear hb))
          go_ret
          exact ⟨by rw [HL.out]; first | done | rfl, HB9.out⟩
      have s10 : (rk1 == 10) = false := by simpa using k10
      by_cases k11 : rk1 = 11
      · subst k11
        have hRk : R = (greatN rn1 && greatN rr1 && decide (la.length ≤ 1) && noPl ⟨pn1, ph1, pp1⟩) := by
          rw [HR.out, ← HA.out, Bool.and_true, show namesOk ⟨11, ⟨oa, capa⟩, la, ⟨pn1, ph1, pp1⟩, rn1, rr1⟩ = (greatN rn1 && greatN rr1) from rfl, show placeOk ⟨11, ⟨oa, capa⟩, la, ⟨pn1, ph1, pp1⟩, rn1, rr1⟩ = noPl ⟨pn1, ph1, pp1⟩ from rfl, show countOk 11 la.length = decide (la.length ≤ 1) from rfl]
          ac_rfl
        generalize greatN rn1 = b7 at hg1 hRk
        cases b7 with
        | false =>
          have HL := Lib.hid (show R = false by rw [hRk]; rfl)
          clear hRk
          go_wp2_with (first | (go_at_call_of 28 (Value.string rn1); refine (hg1.out _).mono ?_; rintro e v7 ⟨rfl, hb⟩; have hx7 := keepB HX.out hb; obtain ⟨a0, a1, a2, a3, a4, a5⟩ := HCL.out v7 hx7; have HK7 := Lib.hid (HK.out.trans (hb.mono HK.out.size)); have HX7 := Lib.hid hx7; clear hb hx7))
          go_ret
          exact ⟨by rw [HL.out]; first | done | rfl, HK7.out⟩
        | true =>
        generalize greatN rr1 = b8 at hg2 hRk
        cases b8 with
        | false =>
          have HL := Lib.hid (show R = false by rw [hRk]; rfl)
          clear hRk
          go_wp2_with (first | (go_at_call_of 28 (Value.string rn1); refine (hg1.out _).mono ?_; rintro e v7 ⟨rfl, hb⟩; have hx7 := keepB HX.out hb; obtain ⟨a0, a1, a2, a3, a4, a5⟩ := HCL.out v7 hx7; have HK7 := Lib.hid (HK.out.trans (hb.mono HK.out.size)); have HX7 := Lib.hid hx7; clear hb hx7) | (go_at_call_of 28 (Value.string rr1); refine (hg2.out _).mono ?_; rintro e v8 ⟨rfl, hb⟩; have hx8 := keepB HX7.out hb; obtain ⟨c0, c1, c2, c3, c4, c5⟩ := HCL.out v8 hx8; have HK8 := Lib.hid (HK7.out.trans (hb.mono HK7.out.size)); clear hb hx8))
          go_ret
          exact ⟨by rw [HL.out]; first | done | rfl, HK8.out⟩
        | true =>
        by_cases hc : la.length ≤ 1
        case neg =>
          have tc : ¬ (la.length : Int) ≤ 1 := by omega
          have tc2 : decide ((la.length : Int) ≤ 1) = false := by simpa using tc
          have HL := Lib.hid (show R = false by rw [hRk]; simp [hc])
          clear hRk hc
          go_wp2_with (first | (go_at_call_of 28 (Value.string rn1); refine (hg1.out _).mono ?_; rintro e v7 ⟨rfl, hb⟩; have hx7 := keepB HX.out hb; obtain ⟨a0, a1, a2, a3, a4, a5⟩ := HCL.out v7 hx7; have HK7 := Lib.hid (HK.out.trans (hb.mono HK.out.size)); have HX7 := Lib.hid hx7; clear hb hx7) | (go_at_call_of 28 (Value.string rr1); refine (hg2.out _).mono ?_; rintro e v8 ⟨rfl, hb⟩; have hx8 := keepB HX7.out hb; obtain ⟨c0, c1, c2, c3, c4, c5⟩ := HCL.out v8 hx8; have HK8 := Lib.hid (HK7.out.trans (hb.mono HK7.out.size)); clear hb hx8))
          go_ret
          exact ⟨by rw [HL.out]; first | done | rfl, HK8.out⟩
        have tc : (la.length : Int) ≤ 1 := by omega
        rw [decide_eq_true hc] at hRk
        clear hc
        generalize noPl ⟨pn1, ph1, pp1⟩ = b9 at hn hRk
        cases b9 with
        | false =>
          have HL := Lib.hid (show R = false by rw [hRk]; rfl)
          clear hRk
          go_wp2_with (first | (go_at_call_of 28 (Value.string rn1); refine (hg1.out _).mono ?_; rintro e v7 ⟨rfl, hb⟩; have hx7 := keepB HX.out hb; obtain ⟨a0, a1, a2, a3, a4, a5⟩ := HCL.out v7 hx7; have HK7 := Lib.hid (HK.out.trans (hb.mono HK.out.size)); have HX7 := Lib.hid hx7; clear hb hx7) | (go_at_call_of 28 (Value.string rr1); refine (hg2.out _).mono ?_; rintro e v8 ⟨rfl, hb⟩; have hx8 := keepB HX7.out hb; obtain ⟨c0, c1, c2, c3, c4, c5⟩ := HCL.out v8 hx8; have HK8 := Lib.hid (HK7.out.trans (hb.mono HK7.out.size)); clear hb hx8) | (go_at_call 90; refine (hn.out _ HK8.out).mono ?_; rintro e v9 ⟨rfl, hb⟩; have HB9 := Lib.hid (HK8.out.trans (hb.mono HK8.out.size)); clear hb))
          go_ret
          exact ⟨by rw [HL.out]; first | done | rfl, HB9.out⟩
        | true =>
          have HL := Lib.hid (show R = true by rw [hRk]; rfl)
          clear hRk
          go_wp2_with (first | (go_at_call_of 28 (Value.string rn1); refine (hg1.out _).mono ?_; rintro e v7 ⟨rfl, hb⟩; have hx7 := keepB HX.out hb; obtain ⟨a0, a1, a2, a3, a4, a5⟩ := HCL.out v7 hx7; have HK7 := Lib.hid (HK.out.trans (hb.mono HK.out.size)); have HX7 := Lib.hid hx7; clear hb hx7) | (go_at_call_of 28 (Value.string rr1); refine (hg2.out _).mono ?_; rintro e v8 ⟨rfl, hb⟩; have hx8 := keepB HX7.out hb; obtain ⟨c0, c1, c2, c3, c4, c5⟩ := HCL.out v8 hx8; have HK8 := Lib.hid (HK7.out.trans (hb.mono HK7.out.size)); clear hb hx8) | (go_at_call 90; refine (hn.out _ HK8.out).mono ?_; rintro e v9 ⟨rfl, hb⟩; have HB9 := Lib.hid (HK8.out.trans (hb.mono HK8.out.size)); clear hb))
          go_ret
          exact ⟨by rw [HL.out]; first | done | rfl, HB9.out⟩
      have s11 : (rk1 == 11) = false := by simpa using k11
      by_cases k12 : rk1 = 12
      · subst k12
        have hRk : R = (smallN rn1 && emptyN rr1 && noPl ⟨pn1, ph1, pp1⟩) := by
          rw [HR.out, ← HA.out, Bool.and_true, show namesOk ⟨12, ⟨oa, capa⟩, la, ⟨pn1, ph1, pp1⟩, rn1, rr1⟩ = (smallN rn1 && emptyN rr1) from rfl, show placeOk ⟨12, ⟨oa, capa⟩, la, ⟨pn1, ph1, pp1⟩, rn1, rr1⟩ = noPl ⟨pn1, ph1, pp1⟩ from rfl, show countOk 12 la.length = true from rfl]
          rw [Bool.and_true]
        generalize smallN rn1 = b7 at hs1 hRk
        cases b7 with
        | false =>
          have HL := Lib.hid (show R = false by rw [hRk]; rfl)
          clear hRk
          go_wp2_with (first | (go_at_call_of 32 (Value.string rn1); refine (hs1.out _).mono ?_; rintro e v7 ⟨rfl, hb⟩; have hx7 := keepB HX.out hb; obtain ⟨a0, a1, a2, a3, a4, a5⟩ := HCL.out v7 hx7; have HK7 := Lib.hid (HK.out.trans (hb.mono HK.out.size)); have HX7 := Lib.hid hx7; clear hb hx7))
          go_ret
          exact ⟨by rw [HL.out]; first | done | rfl, HK7.out⟩
        | true =>
        cases he : emptyN rr1 with
        | false =>
          obtain ⟨e1, e2⟩ := empty_no he
          rw [he] at hRk
          clear he
          have HL := Lib.hid (show R = false by rw [hRk]; rfl)
          clear hRk
          go_wp2_with (first | (go_at_call_of 32 (Value.string rn1); refine (hs1.out _).mono ?_; rintro e v7 ⟨rfl, hb⟩; have hx7 := keepB HX.out hb; obtain ⟨a0, a1, a2, a3, a4, a5⟩ := HCL.out v7 hx7; have HK7 := Lib.hid (HK.out.trans (hb.mono HK.out.size)); have HX7 := Lib.hid hx7; clear hb hx7))
          go_ret
          exact ⟨by rw [HL.out]; first | done | rfl, HK7.out⟩
        | true =>
        obtain rfl := empty_of he
        rw [he] at hRk
        clear he
        generalize noPl ⟨pn1, ph1, pp1⟩ = b9 at hn hRk
        cases b9 with
        | false =>
          have HL := Lib.hid (show R = false by rw [hRk]; rfl)
          clear hRk
          go_wp2_with (first | (go_at_call_of 32 (Value.string rn1); refine (hs1.out _).mono ?_; rintro e v7 ⟨rfl, hb⟩; have hx7 := keepB HX.out hb; obtain ⟨a0, a1, a2, a3, a4, a5⟩ := HCL.out v7 hx7; have HK7 := Lib.hid (HK.out.trans (hb.mono HK.out.size)); have HX7 := Lib.hid hx7; clear hb hx7) | (go_at_call 90; refine (hn.out _ HK7.out).mono ?_; rintro e v9 ⟨rfl, hb⟩; have HB9 := Lib.hid (HK7.out.trans (hb.mono HK7.out.size)); clear hb))
          go_ret
          exact ⟨by rw [HL.out]; first | done | rfl, HB9.out⟩
        | true =>
          have HL := Lib.hid (show R = true by rw [hRk]; rfl)
          clear hRk
          go_wp2_with (first | (go_at_call_of 32 (Value.string rn1); refine (hs1.out _).mono ?_; rintro e v7 ⟨rfl, hb⟩; have hx7 := keepB HX.out hb; obtain ⟨a0, a1, a2, a3, a4, a5⟩ := HCL.out v7 hx7; have HK7 := Lib.hid (HK.out.trans (hb.mono HK.out.size)); have HX7 := Lib.hid hx7; clear hb hx7) | (go_at_call 90; refine (hn.out _ HK7.out).mono ?_; rintro e v9 ⟨rfl, hb⟩; have HB9 := Lib.hid (HK7.out.trans (hb.mono HK7.out.size)); clear hb))
          go_ret
          exact ⟨by rw [HL.out]; first | done | rfl, HB9.out⟩
      have s12 : (rk1 == 12) = false := by simpa using k12
      have hRk : R = false := by
        rw [HR.out, show countOk rk1 la.length = false by simp [countOk, k0, k8, k15, k1, k2, k3, k4, k5, k6, k7, k9, k13, k14, k10, k11, k12], Bool.and_false]
      have HL := Lib.hid hRk
      clear hRk k0 k8 k15 k1 k2 k3 k4 k5 k6 k7 k9 k13 k14 k10 k11 k12
      go_wp2_with fail
      go_ret
      exact ⟨by rw [HL.out]; first | done | rfl, HK.out⟩

theorem arH_row {n : Nat} {w : World} {av ab : ByteArray} {ah : Hd} {ay : List St5} (h : ArH n w (.mk av ab ah ay)) : Row w ah 21 ay stC (StH n w) := by
  cases n with
  | zero => exact h.elim
  | succ m => exact Row.mono h fun _ _ hx => StH.le (Nat.le_succ _) hx
theorem noPl_Z : noPl plZ = true := plEq_refl plZ
theorem emptyN_Z : emptyN ⟨#[]⟩ = true := by simp [emptyN]
theorem stEq_Z (k pos : Int) (nm : ByteArray) (ty : Ty5) (p : Pl5) (rv : Rv5) (op : Op5) (ht : Hd) (th : List St5) (he : Hd) (el : List St5) (ha : Hd) (ar : List Ar5) :
    stEq (.mk k pos nm ty p rv op ht th he el ha ar) (stZ k) = ((emptyN nm && tyEq ty tyZ) && noPl p && rvEq rv rvZ && opEq op opZ && decide (th.length = 0) && decide (el.length = 0) && decide (ar.length = 0)) := by
  rw [stZ, stEq, stsEq_eq, stsEq_eq, arsEq_eq, eqL_nil, eqL_nil, eqL_nil, decide_eq_true (rfl : k = k), Bool.true_and]
  rfl
end Go.Proofs.YtgogdcpgfmndnaaGreatDoor
