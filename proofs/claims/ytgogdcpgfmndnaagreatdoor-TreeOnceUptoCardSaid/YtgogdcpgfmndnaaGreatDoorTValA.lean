/-
  free, small, great, around, validInnermost, validType of tree. Conditions: the type lies in the heap; the package variables lie as the program's text lays them.
-/
import Derived.Test.YtgogdcpgfmndnaaGreatDoorTOk
import Derived.Deep.CutBlock
import Derived.Deep.DeepCutAuto
namespace Go.Proofs.YtgogdcpgfmndnaaGreatDoor
open Go.RowKit

set_option maxHeartbeats 1000000 in
theorem free_any (s : ByteArray) (w : World) (hV : Vz w) : Calls Tryz.prog 99 #[.string s] w fun e w' => e = .returned (.bool (freeN s)) ∧ w' = w := by
  have h1 := Lib.hid (word_any s)
  have h2 := Lib.hid (reserved_any s w hV.res)
  unfold freeN
  generalize wordB (bs s) = b1 at h1 ⊢
  generalize resB (bs s) = b2 at h2 ⊢
  clear hV
  cases b1 <;> cases b2
  all_goals
    go_enter Tryz.func99, Tryz.ntmps99
    go_wp2_with (first
      | (go_at_call 118; refine (h1.out _).mono ?_; rintro e w1 ⟨rfl, rfl⟩)
      | (go_at_call 119; refine h2.out.mono ?_; rintro e w1 ⟨rfl, rfl⟩))
    go_ret
    exact ⟨by simp, rfl⟩
set_option maxHeartbeats 1000000 in
theorem smallN_any (s : ByteArray) (w : World) (hV : Vz w) : Calls Tryz.prog 77 #[.string s] w fun e w' => e = .returned (.bool (smallN s)) ∧ w' = w := by
  have h1 := Lib.hid (free_any s w hV)
  have h2 := Lib.hid (upper_any s)
  unfold smallN
  generalize freeN s = b1 at h1 ⊢
  generalize upperB (bs s) = b2 at h2 ⊢
  clear hV
  cases b1 <;> cases b2
  all_goals
    go_enter Tryz.func77, Tryz.ntmps77
    go_wp2_with (first
      | (go_at_call 99; refine h1.out.mono ?_; rintro e w1 ⟨rfl, rfl⟩)
      | (go_at_call 100; refine (h2.out _).mono ?_; rintro e w1 ⟨rfl, rfl⟩))
    go_ret
    exact ⟨by simp, rfl⟩
set_option maxHeartbeats 1000000 in
theorem greatN_any (s : ByteArray) (w : World) (hV : Vz w) : Calls Tryz.prog 72 #[.string s] w fun e w' => e = .returned (.bool (greatN s)) ∧ w' = w := by
  have h1 := Lib.hid (free_any s w hV)
  have h2 := Lib.hid (upper_any s)
  unfold greatN
  generalize freeN s = b1 at h1 ⊢
  generalize upperB (bs s) = b2 at h2 ⊢
  clear hV
  cases b1 <;> cases b2
  all_goals
    go_enter Tryz.func72, Tryz.ntmps72
    go_wp2_with (first
      | (go_at_call 99; refine h1.out.mono ?_; rintro e w1 ⟨rfl, rfl⟩)
      | (go_at_call 100; refine (h2.out _).mono ?_; rintro e w1 ⟨rfl, rfl⟩))
    go_ret
    exact ⟨by simp, rfl⟩
theorem smallN_b (s : ByteArray) (w : World) (hV : Vz w) : Calls Tryz.prog 77 #[.string s] w fun e w' => e = .returned (.bool (smallN s)) ∧ Below w.heap.size w w' :=
  (smallN_any s w hV).mono fun _ _ ⟨h1, h2⟩ => ⟨h1, by rw [h2]; exact Below.refl _ _⟩
theorem greatN_b (s : ByteArray) (w : World) (hV : Vz w) : Calls Tryz.prog 72 #[.string s] w fun e w' => e = .returned (.bool (greatN s)) ∧ Below w.heap.size w w' :=
  (greatN_any s w hV).mono fun _ _ ⟨h1, h2⟩ => ⟨h1, by rw [h2]; exact Below.refl _ _⟩

def aroundS (k : Int) : ByteArray := if k = 4 then ⟨#[98, 111, 120, 32]⟩ else if k = 5 then ⟨#[38]⟩ else if k = 6 then ⟨#[38, 109, 117, 116, 32]⟩ else ⟨#[]⟩
set_option maxHeartbeats 1000000 in
theorem around_any (k : Int) (w : World) : Calls Tryz.prog 59 #[.int .i64 k] w fun e w' => e = .returned (.string (aroundS k)) ∧ w' = w := by
  unfold aroundS
  by_cases h4 : k = 4
  · subst h4
    go_enter Tryz.func59, Tryz.ntmps59
    go_wp2
    go_ret
    exact ⟨rfl, rfl⟩
  by_cases h5 : k = 5
  · subst h5
    go_enter Tryz.func59, Tryz.ntmps59
    go_wp2
    go_ret
    exact ⟨rfl, rfl⟩
  by_cases h6 : k = 6
  · subst h6
    go_enter Tryz.func59, Tryz.ntmps59
    go_wp2
    go_ret
    exact ⟨rfl, rfl⟩
  rw [if_neg h4, if_neg h5, if_neg h6]
  have t4 : (k == 4) = false := by simpa using h4
  have t5 : (k == 5) = false := by simpa using h5
  have t6 : (k == 6) = false := by simpa using h6
  clear h4 h5 h6
  go_enter Tryz.func59, Tryz.ntmps59
  go_wp2
  go_ret
  exact ⟨rfl, rfl⟩

theorem empty_of {s : ByteArray} (h : emptyN s = true) : s = ⟨#[]⟩ := by simpa [emptyN] using h
theorem empty_no {s : ByteArray} (h : emptyN s = false) : ¬ s.toList = [] ∧ s.toList.isEmpty = false := by
  have h0 : ¬ s = ⟨#[]⟩ := by simpa [emptyN] using h
  have h1 : ¬ s.toList = [] := fun h => h0 (by rw [Lib.toList_data] at h; rw [← strB_of s, bs, h]; rfl)
  exact ⟨h1, by simpa using h1⟩

set_option maxRecDepth 100000 in
set_option maxHeartbeats 2000000 in
theorem inner_any (n : Nat) (t : Ty5) (w : World) (hT : TyH n w t) (hV : Vz w) : Calls Tryz.prog 121 #[tyV t] w fun e w' => e = .returned (.bool (innerOk t)) ∧ Below w.heap.size w w' := by
  obtain ⟨k, nm, h, l⟩ := t
  have hb := alloc_below w (.cells #[.int .i64 k, .string nm, .slice h.oa l.length h.cap] 45)
  have hg := Lib.hid (fun W (hW : Below w.heap.size w W) => greatN_any nm W (hV.b hW))
  have hs := Lib.hid (fun W (hW : Below w.heap.size w W) => smallN_any nm W (hV.b hW))
  have HB := Lib.hid hb
  clear hV hb
  have hR : innerOk (.mk k nm h l) = (decide (l.length = 0) && (if k = 1 then emptyN nm else if k = 2 then greatN nm else if k = 7 then smallN nm else false)) := rfl
  obtain ⟨R, hRR⟩ : ∃ R, R = innerOk (.mk k nm h l) := ⟨_, rfl⟩
  rw [← hRR]
  rw [← hRR] at hR
  clear hRR hT
  simp only [tyV, tyC]
  by_cases h0 : l.length = 0
  · have t0 : ¬ 0 < l.length := by omega
    rw [decide_eq_true h0, Bool.true_and] at hR
    by_cases k1 : k = 1
    · subst k1
      rw [if_pos rfl] at hR
      obtain ⟨b, hb⟩ : ∃ b, b = emptyN nm := ⟨_, rfl⟩
      rw [← hb] at hR
      have HR := Lib.hid hR
      clear hR h0
      cases b with
      | true =>
        obtain rfl := empty_of hb.symm
        clear hb
        go_enter Tryz.func121, Tryz.ntmps121
        go_wp2
        go_ret
        exact ⟨by rw [HR.out]; first | done | rfl, HB.out⟩
      | false =>
        obtain ⟨e1, e2⟩ := empty_no hb.symm
        clear hb
        go_enter Tryz.func121, Tryz.ntmps121
        go_wp2
        go_ret
        exact ⟨by rw [HR.out]; first | done | rfl, HB.out⟩
    by_cases k2 : k = 2
    · subst k2
      rw [if_neg (by decide), if_pos rfl] at hR
      have HR := Lib.hid hR
      clear hR k1 h0
      go_enter Tryz.func121, Tryz.ntmps121
      go_wp2_with (go_at_call 72; refine (hg.out _ HB.out).mono ?_; rintro e w1 ⟨rfl, rfl⟩)
      go_ret
      exact ⟨by rw [HR.out]; first | done | rfl, HB.out⟩
    by_cases k7 : k = 7
    · subst k7
      rw [if_neg (by decide), if_neg (by decide), if_pos rfl] at hR
      have HR := Lib.hid hR
      clear hR k1 k2 h0
      go_enter Tryz.func121, Tryz.ntmps121
      go_wp2_with (go_at_call 77; refine (hs.out _ HB.out).mono ?_; rintro e w1 ⟨rfl, rfl⟩)
      go_ret
      exact ⟨by rw [HR.out]; first | done | rfl, HB.out⟩
    rw [if_neg k1, if_neg k2, if_neg k7] at hR
    have HR := Lib.hid hR
    have t1 : (k == 1) = false := by simpa using k1
    have t2 : (k == 2) = false := by simpa using k2
    have t7 : (k == 7) = false := by simpa using k7
    clear hR k1 k2 k7 h0
    go_enter Tryz.func121, Tryz.ntmps121
    go_wp2
    go_ret
    exact ⟨by rw [HR.out]; first | done | rfl, HB.out⟩
  · have t0 : 0 < l.length := by omega
    rw [decide_eq_false h0, Bool.false_and] at hR
    have HR := Lib.hid hR
    clear hR h0
    go_enter Tryz.func121, Tryz.ntmps121
    go_wp2
    go_ret
    exact ⟨by rw [HR.out]; first | done | rfl, HB.out⟩

theorem set3 {w : World} {k : Nat} {v0 v1 v2 u0 u1 u2 : Value} {t : TypeId} (h : w.heap[k]? = some (.cells #[v0, v1, v2] t)) :
    (((w.setCell ⟨k, 0, none⟩ u0).setCell ⟨k, 1, none⟩ u1).setCell ⟨k, 2, none⟩ u2).heap[k]? = some (.cells #[u0, u1, u2] t) := by
  have h1 := heap_setCell_same w k 0 _ t u0 h
  have h2 := heap_setCell_same _ k 1 _ t u1 h1
  have h3 := heap_setCell_same _ k 2 _ t u2 h2
  simpa using h3
theorem set3_below {B k : Nat} {w0 w : World} {u0 u1 u2 : Value} (h : Below B w0 w) (hk : B ≤ k) : Below B w0 (((w.setCell ⟨k, 0, none⟩ u0).setCell ⟨k, 1, none⟩ u1).setCell ⟨k, 2, none⟩ u2) :=
  ((h.setCell hk _).setCell hk _).setCell hk _
theorem cells3 {w : World} {k : Nat} {v0 v1 v2 : Value} {t : TypeId} (h : w.heap[k]? = some (.cells #[v0, v1, v2] t)) :
    w.cell? ⟨k, 0, none⟩ = some v0 ∧ w.cell? ⟨k, 1, none⟩ = some v1 ∧ w.cell? ⟨k, 2, none⟩ = some v2 ∧ (∀ j, w.frozen? ⟨k, j, none⟩ = false) ∧ k < w.heap.size := by
  have hl := (Array.getElem?_eq_some_iff.1 h).1
  exact ⟨by simp [World.cell?, h], by simp [World.cell?, h], by simp [World.cell?, h], fun j => by simp [World.frozen?, h], hl⟩

theorem tyOk_no (d : Nat) {k : Int} {nm : ByteArray} {h : Hd} {l : List Ty5} (ha : aroundB k = false) : tyOk d (.mk k nm h l) = innerOk (.mk k nm h l) := by rw [tyOk.eq_def]; simp [ha]
theorem tyOk_zero {k : Int} {nm : ByteArray} {h : Hd} {l : List Ty5} (ha : aroundB k = true) : tyOk 0 (.mk k nm h l) = false := by rw [tyOk.eq_def]; simp [ha]
theorem tyOk_one (d : Nat) {k : Int} {nm : ByteArray} {h : Hd} {t : Ty5} (ha : aroundB k = true) : tyOk (d + 1) (.mk k nm h [t]) = (emptyN nm && tyOk d t) := by rw [tyOk.eq_def]; simp [ha]
theorem tyOk_len (d : Nat) {k : Int} {nm : ByteArray} {h : Hd} {l : List Ty5} (ha : aroundB k = true) (hl : l.length ≠ 1) : tyOk (d + 1) (.mk k nm h l) = false := by
  rw [tyOk.eq_def]
  simp only [ha, if_true]
  match l, hl with
  | [], _ => rfl
  | [_], h => exact absurd rfl h
  | _ :: _ :: _, _ => rfl

set_option maxRecDepth 100000 in
set_option maxHeartbeats 4000000 in
theorem validType_any (n : Nat) (t : Ty5) (w : World) (hT : TyH n w t) (hV : Vz w) : Calls Tryz.prog 101 #[tyV t] w fun e w' => e = .returned (.bool (tyOk 60 t)) ∧ Below w.heap.size w w' := by
  obtain ⟨k0, nm0, h0, l0⟩ := t
  obtain ⟨R, hR⟩ : ∃ R, R = tyOk 60 (.mk k0 nm0 h0 l0) := ⟨_, rfl⟩
  rw [← hR]
  replace hR := Lib.hid hR
  simp only [tyV, tyC]
  have HV := Lib.hid hV
  have HT := Lib.hid hT
  obtain ⟨bx, hbx⟩ : ∃ bx, bx = w.heap.size := ⟨_, rfl⟩
  have hbox := heap_alloc_new w (.cells #[.int .i64 k0, .string nm0, .slice h0.oa l0.length h0.cap] 45)
  have hbe := alloc_below w (.cells #[.int .i64 k0, .string nm0, .slice h0.oa l0.length h0.cap] 45)
  obtain ⟨W, hW⟩ : ∃ W, W = w.alloc (.cells #[.int .i64 k0, .string nm0, .slice h0.oa l0.length h0.cap] 45) := ⟨_, rfl⟩
  rw [← hW] at hbox hbe
  clear hT hV
  go_enter Tryz.func101, Tryz.ntmps101
  go_wp2_with fail
  rw [← hW, ← hbx]
  rw [← hbx] at hbox
  clear hW
  have HBX := Lib.hid hbox
  have HBE := Lib.hid hbe
  have hbx' : w.heap.size ≤ bx := Nat.le_of_eq hbx.symm
  clear hbox hbe hbx
  go_loopw [3] (fun u wr => ∃ (j : Nat) (k : Int) (nm : ByteArray) (h : Hd) (l : List Ty5), j ≤ 60 ∧ u = .int .i64 j ∧ wr.heap[bx]? = some (.cells #[.int .i64 k, .string nm, .slice h.oa l.length h.cap] 45) ∧ TyH n w (.mk k nm h l) ∧ tyOk (60 - j) (.mk k nm h l) = R ∧ Below w.heap.size w wr) (fun u _ => 60 - (intOf u).toNat)
  case atStart => exact ⟨0, k0, nm0, h0, l0, by omega, rfl, HBX.out, HT.out, hR.out.symm, HBE.out⟩
  case round =>
    clear HBX HBE
    obtain ⟨j, k, nm, h, l, hj, rfl, hbox, hty, hs, hbw⟩ := hrel
    obtain ⟨z0, z1, z2, zf, zlt⟩ := cells3 hbox
    have HS := Lib.hid hs
    have HTY := Lib.hid hty
    have HBOX := Lib.hid hbox
    have hag := Lib.hid (around_any k)
    clear hs hty hbox
    cases hab : aroundB k with
    | false =>
      have he : aroundS k = ⟨#[]⟩ := by
        have h456 : k ≠ 4 ∧ k ≠ 5 ∧ k ≠ 6 := by simpa [aroundB, and_assoc] using hab
        rw [aroundS, if_neg h456.1, if_neg h456.2.1, if_neg h456.2.2]
      rw [he] at hag
      have HR := Lib.hid (show R = innerOk (.mk k nm h l) by rw [← HS.out]; exact tyOk_no _ hab)
      have hin := Lib.hid (inner_any n (.mk k nm h l) wr (TyH.below n HTY.out hbw) (HV.out.b hbw))
      simp only [tyV, tyC] at hin
      clear he hab
      go_wp2_with (first
        | (go_at_call 59; refine (hag.out _).mono ?_; rintro e w1 ⟨rfl, rfl⟩)
        | (go_at_call 121; refine hin.out.mono ?_; rintro e w2 ⟨rfl, hb2⟩; replace hb2 := Lib.hid hb2))
      go_ret
      exact ⟨by rw [HR.out]; first | done | rfl, hbw.trans (hb2.out.mono hbw.size)⟩
    | true =>
      obtain ⟨A, hA⟩ : ∃ A, A = aroundS k := ⟨_, rfl⟩
      have hne : ¬ A.toList = [] ∧ A.toList.isEmpty = false := by
        apply empty_no
        rw [hA, aroundS]
        have h456 : k = 4 ∨ k = 5 ∨ k = 6 := by simpa [aroundB, or_assoc] using hab
        rcases h456 with rfl | rfl | rfl <;> rfl
      rw [← hA] at hag
      obtain ⟨a1, a2⟩ := hne
      have HAB := Lib.hid hab
      clear hA hab
      by_cases hj60 : j = 60
      · subst hj60
        have HR := Lib.hid (show R = false by rw [← HS.out]; exact tyOk_zero HAB.out)
        go_wp2_with (first
          | (go_at_call 59; refine (hag.out _).mono ?_; rintro e w1 ⟨rfl, rfl⟩))
        go_ret
        exact ⟨by rw [HR.out]; first | done | rfl, hbw⟩
      · obtain ⟨d, hd⟩ : ∃ d, 60 - j = d + 1 := ⟨60 - j - 1, by omega⟩
        have HD := Lib.hid hd
        have tj : ((j : Int) == 60) = false := by simp; omega
        clear hd
        cases hem : emptyN nm with
        | false =>
          obtain ⟨e1, e2⟩ := empty_no hem
          have HR := Lib.hid (show R = false by
            rw [← HS.out, HD.out]
            by_cases hl : l.length = 1
            · obtain ⟨t', rfl⟩ := List.length_eq_one_iff.1 hl
              rw [tyOk_one _ HAB.out, hem, Bool.false_and]
            · exact tyOk_len _ HAB.out hl)
          clear hem
          go_wp2_with (first
            | (go_at_call 59; refine (hag.out _).mono ?_; rintro e w1 ⟨rfl, rfl⟩))
          go_ret
          exact ⟨by rw [HR.out]; first | done | rfl, hbw⟩
        | true =>
          obtain rfl := empty_of hem
          by_cases hl1 : l.length = 1
          · obtain ⟨t', rfl⟩ := List.length_eq_one_iff.1 hl1
            have tl : ((([t'] : List Ty5).length : Int) == 1) = true := rfl
            obtain ⟨m, hm⟩ : ∃ m, n = m + 1 := by cases n with | zero => exact HTY.out.elim | succ m => exact ⟨m, rfl⟩
            have hty2 : TyH (m + 1) w (.mk k ⟨#[]⟩ h [t']) := by rw [← hm]; exact HTY.out
            have HR := Lib.hid (show tyOk d t' = R by rw [← HS.out, HD.out, tyOk_one _ HAB.out, hem, Bool.true_and])
            obtain ⟨-, -, -, hrow, hel⟩ := hty2
            obtain ⟨ba, offa, hoa, hlt, hcell⟩ := hrow (by simp)
            have hty3 := Lib.hid (TyH.succ m (hel t' (by simp)))
            obtain ⟨oh, ch⟩ := h
            dsimp only at hoa
            subst hoa
            obtain ⟨k', nm', h', l'⟩ := t'
            have q0 : wr.cell? ⟨ba, offa, none⟩ = some (.int .i64 k') := (hbw.cell (p := ⟨ba, offa, none⟩) hlt).trans (by simpa using hcell 0 _ rfl 0 _ rfl)
            have q1 : wr.cell? ⟨ba, offa + 1, none⟩ = some (.string nm') := (hbw.cell (p := ⟨ba, offa + 1, none⟩) hlt).trans (by simpa using hcell 0 _ rfl 1 _ rfl)
            have q2 : wr.cell? ⟨ba, offa + 2, none⟩ = some (.slice h'.oa l'.length h'.cap) := (hbw.cell (p := ⟨ba, offa + 2, none⟩) hlt).trans (by simpa using hcell 0 _ rfl 2 _ rfl)
            have HM := Lib.hid hm
            have hjl : j + 1 ≤ 60 := by omega
            have hd2 := Lib.hid (show 60 - (j + 1) = d by have := HD.out; omega)
            clear hem hl1 hcell hrow hel hm
            go_wp2_with (first
              | (go_at_call 59; refine (hag.out _).mono ?_; rintro e w1 ⟨rfl, rfl⟩))
            go_roundw
            case rel => exact ⟨j + 1, k', nm', h', l', hjl, by go_num, set3 HBOX.out, by rw [HM.out]; exact hty3.out, by rw [hd2.out]; exact HR.out, set3_below hbw hbx'⟩
            case measure => simp [intOf]; omega
          · have tl : ((l.length : Int) == 1) = false := by simp; omega
            have tl2 : ((l.length : Int) != 1) = true := by simp; omega
            have HR := Lib.hid (show R = false by rw [← HS.out, HD.out]; exact tyOk_len _ HAB.out hl1)
            clear hem hl1
            go_wp2_with (first
              | (go_at_call 59; refine (hag.out _).mono ?_; rintro e w1 ⟨rfl, rfl⟩))
            go_ret
            exact ⟨by rw [HR.out]; first | done | rfl, hbw⟩

end Go.Proofs.YtgogdcpgfmndnaaGreatDoor
