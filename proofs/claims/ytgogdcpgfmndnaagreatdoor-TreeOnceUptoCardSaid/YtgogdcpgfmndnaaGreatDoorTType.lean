/-
  Type and Place and Oper of tree, whatever they write. Conditions: what is written lies in the heap, and is not longer than 10^14.
-/
import Derived.Test.YtgogdcpgfmndnaaGreatDoorTStrE
namespace Go.Proofs.YtgogdcpgfmndnaaGreatDoor
open Go.RowKit

def innT : Ty5 → List UInt8
  | .mk k nm _ _ => if k = 1 then [105, 110, 116] else if k = 2 ∨ k = 3 then bs nm else if k = 7 then [99, 111, 32] ++ bs nm else [63]
def tyT : Ty5 → List UInt8
  | .mk k nm h l =>
    match l with
    | [t] => if aroundB k then bs (aroundS k) ++ tyT t else innT (.mk k nm h [t])
    | l => innT (.mk k nm h l)
theorem tyT_one {k : Int} {nm : ByteArray} {h : Hd} {t : Ty5} (hk : aroundB k = true) : tyT (.mk k nm h [t]) = bs (aroundS k) ++ tyT t := by rw [tyT, if_pos hk]
theorem tyT_no {k : Int} {nm : ByteArray} {h : Hd} {l : List Ty5} (hk : aroundB k = false) : tyT (.mk k nm h l) = innT (.mk k nm h l) := by
  rw [tyT.eq_def]
  split
  rename_i k' nm' h' l'' heq
  cases heq
  split
  · rw [if_neg (by simp [hk])]
  · rfl
theorem tyT_len {k : Int} {nm : ByteArray} {h : Hd} {l : List Ty5} (hl : l.length ≠ 1) : tyT (.mk k nm h l) = innT (.mk k nm h l) := by
  rw [tyT.eq_def]
  split
  rename_i k' nm' h' l'' heq
  cases heq
  split
  · simp at hl
  · rfl
theorem lit_cat (a : List UInt8) (s : ByteArray) : strB a ++ s = strB (a ++ bs s) := by
  have := strB_append a (bs s)
  rw [strB_of] at this
  exact this

set_option maxRecDepth 100000 in
set_option maxHeartbeats 2000000 in
theorem innermost_any (t : Ty5) (w : World) (hlen : (innT t).length ≤ 100000000000000) : Calls Tryz.prog 60 #[tyV t] w fun e w' => e = .returned (.string (strB (innT t))) ∧ Below w.heap.size w w' := by
  obtain ⟨k, nm, h, l⟩ := t
  obtain ⟨R, hR⟩ : ∃ R, R = innT (.mk k nm h l) := ⟨_, rfl⟩
  rw [← hR] at hlen ⊢
  simp only [tyV, tyC]
  have HB := Lib.hid (alloc_below w (.cells #[.int .i64 k, .string nm, .slice h.oa l.length h.cap] 45))
  by_cases h1 : k = 1
  · subst h1
    have HR := Lib.hid (show ⟨#[105, 110, 116]⟩ = strB R by rw [hR, innT, if_pos rfl]; rfl)
    clear hR
    go_enter Tryz.func60, Tryz.ntmps60
    go_wp2
    go_ret
    exact ⟨by rw [← HR.out]; first | done | rfl, HB.out⟩
  have t1 : (k == 1) = false := by simpa using h1
  by_cases h2 : k = 2
  · subst h2
    have HR := Lib.hid (show nm = strB R by rw [hR, innT, if_neg (by decide), if_pos (by simp), strB_of])
    clear hR h1
    go_enter Tryz.func60, Tryz.ntmps60
    go_wp2
    go_ret
    exact ⟨by rw [← HR.out]; first | done | rfl, HB.out⟩
  have t2 : (k == 2) = false := by simpa using h2
  by_cases h3 : k = 3
  · subst h3
    have HR := Lib.hid (show nm = strB R by rw [hR, innT, if_neg (by decide), if_pos (by simp), strB_of])
    clear hR h1 h2
    go_enter Tryz.func60, Tryz.ntmps60
    go_wp2
    go_ret
    exact ⟨by rw [← HR.out]; first | done | rfl, HB.out⟩
  have t3 : (k == 3) = false := by simpa using h3
  by_cases h7 : k = 7
  · subst h7
    have HR := Lib.hid (show ⟨#[99, 111, 32]⟩ ++ nm = strB R by rw [hR, innT, if_neg (by decide), if_neg (by decide), if_pos rfl, ← lit_cat]; rfl)
    have hz : nm.size ≤ 100000000000000 := by rw [hR, innT, if_neg (by decide), if_neg (by decide), if_pos rfl, List.length_append, bs_len] at hlen; omega
    clear hR h1 h2 h3
    go_enter Tryz.func60, Tryz.ntmps60
    go_wp2
    go_ret
    exact ⟨by rw [← HR.out]; first | done | rfl, HB.out⟩
  have t7 : (k == 7) = false := by simpa using h7
  have HR := Lib.hid (show ⟨#[63]⟩ = strB R by rw [hR, innT, if_neg h1, if_neg (by simp [h2, h3]), if_neg h7]; rfl)
  clear hR h1 h2 h3 h7
  go_enter Tryz.func60, Tryz.ntmps60
  go_wp2
  go_ret
  exact ⟨by rw [← HR.out]; first | done | rfl, HB.out⟩

/-- How much a writer holds, as its cell says. -/
def blen (w : World) (b : Nat) : Nat := match w.cell? ⟨b, 1, none⟩ with | some (.slice _ l _) => l | _ => 0
theorem IsB3.blen {x : Value} {B b : Nat} {l : List UInt8} {w : World} (h : IsB3 x B b (Lib.byteCells l) w) : blen w b = l.length := by
  obtain ⟨p, hAt⟩ : ∃ p, B3At x B b p (Lib.byteCells l) w := h.elim (fun h => ⟨_, h⟩) (fun h => ⟨_, h⟩)
  obtain ⟨hB, v, hbk, hown, hne⟩ := hAt
  have hc : w.cell? ⟨b, 1, none⟩ = some v := by rw [Lib.cell_of_heap hbk]; rfl
  unfold Go.Proofs.YtgogdcpgfmndnaaGreatDoor.blen
  rw [hc]
  rcases hown.2 with ⟨rfl, h0⟩ | ⟨g, cap, cur, fz, rfl, _⟩
  · rw [Lib.byteCells_length] at h0
    exact h0.symm
  · exact Lib.byteCells_length l
theorem IsB3.other {x : Value} {B b bx : Nat} {bs : List Value} {w w' : World} {c : Array Value} {t : TypeId} {f : Nat × Nat} (h : IsB3 x B b bs w) (hbx : w.heap[bx]? = some (.cells c t f)) (ht : t ≠ 5) (hb : b ≠ bx) (hk : ∀ k, k ≠ bx → w'.heap[k]? = w.heap[k]?) : IsB3 x B b bs w' := by
  have at_ : ∀ p, B3At x B b p bs w → B3At x B b p bs w' := fun p ⟨h1, v, h2, h3, h4⟩ => by
    refine ⟨h1, v, (hk b hb).trans h2, ⟨h3.1, ?_⟩, h4⟩
    rcases h3.2 with hn | ⟨g, cap, cur, fz, hv, hB, hg, rest⟩
    · exact .inl hn
    · refine .inr ⟨g, cap, cur, fz, hv, hB, (hk g fun e => ?_).trans hg, rest⟩
      subst e
      rw [hg] at hbx
      cases hbx
      exact ht rfl
  exact h.elim (fun x => .inl (at_ _ x)) (fun x => .inr (at_ _ x))

set_option maxRecDepth 100000 in
set_option maxHeartbeats 4000000 in
theorem type_any (n : Nat) (t : Ty5) (w : World) (hT : TyH n w t) (hlen : (tyT t).length ≤ 100000000000000) : Calls Tryz.prog 20 #[tyV t] w fun e w' => e = .returned (.string (strB (tyT t))) ∧ Below w.heap.size w w' := by
  obtain ⟨k0, nm0, h0, l0⟩ := t
  obtain ⟨R, hR⟩ : ∃ R, R = tyT (.mk k0 nm0 h0 l0) := ⟨_, rfl⟩
  rw [← hR] at hlen ⊢
  replace hR := Lib.hid hR
  simp only [tyV, tyC]
  have HT := Lib.hid hT
  clear hT
  obtain ⟨W0, hW0⟩ : ∃ W, W = (w.alloc (.cells #[.int .i64 k0, .string nm0, .slice h0.oa l0.length h0.cap] 45)).alloc (.cells #[.pointer none, .slice none 0 0, .int .i64 0] 96) := ⟨_, rfl⟩
  have hb0 : Below w.heap.size w W0 := by rw [hW0]; exact ((Below.refl _ _).alloc (Nat.le_refl _) _).alloc (by simp) _
  have hbx : W0.heap[w.heap.size]? = some (.cells #[.int .i64 k0, .string nm0, .slice h0.oa l0.length h0.cap] 45) := by rw [hW0, heap_alloc_old _ _ (by simp), heap_alloc_new]
  have hI : IsB3 (.int .i64 0) w.heap.size (w.heap.size + 1) (Lib.byteCells []) W0 := by
    rw [hW0]
    refine .inl ⟨by simp, .slice none 0 0, by simpa using heap_alloc_new (w.alloc (.cells #[.int .i64 k0, .string nm0, .slice h0.oa l0.length h0.cap] 45)) (.cells #[.pointer none, .slice none 0 0, .int .i64 0] 96), World.ownsRowF_of (World.ownsRow_nil _ _ _ _), by simp [Value.ownBlock]⟩
  have HB0 := Lib.hid hb0
  have HBX := Lib.hid hbx
  have HI := Lib.hid hI
  clear hb0 hI hbx
  go_enter Tryz.func20, Tryz.ntmps20
  go_upto_block 0 with fail
  rw [← hW0]
  clear hW0
  obtain ⟨bx, hbx⟩ : ∃ bx, bx = w.heap.size := ⟨_, rfl⟩
  rw [← hbx] at HB0 HBX HI ⊢
  have hbx' : w.heap.size ≤ bx := Nat.le_of_eq hbx.symm
  have HBX' := Lib.hid hbx
  clear hbx
  go_wp2_with fail
  go_loopw [4] (fun _ wr => ∃ (k : Int) (nm : ByteArray) (h : Hd) (l : List Ty5) (pre : List UInt8), wr.heap[bx]? = some (.cells #[.int .i64 k, .string nm, .slice h.oa l.length h.cap] 45) ∧ TyH n w (.mk k nm h l) ∧ pre ++ tyT (.mk k nm h l) = R ∧ IsB3 (.int .i64 0) bx (bx + 1) (Lib.byteCells pre) wr ∧ Below w.heap.size w wr) (fun _ wr => R.length - blen wr (bx + 1))
  case atStart => exact ⟨k0, nm0, h0, l0, [], HBX.out, HT.out, hR.out.symm, HI.out, by have := HB0.out; rw [HBX'.out] at this; exact this⟩
  case round =>
    clear HBX HB0 HI
    obtain ⟨k, nm, h, l, pre, hbox, hty, hs, hI, hbw⟩ := hrel
    obtain ⟨wo, rfl⟩ : ∃ wo : World, wo = wr := ⟨_, rfl⟩
    obtain ⟨z0, z1, z2, zf, zlt⟩ := cells3 hbox
    have hBs : bx ≤ wo.heap.size := by omega
    have HS := Lib.hid hs
    have HTY := Lib.hid hty
    have HBOX := Lib.hid hbox
    have HI := Lib.hid hI
    have HBW := Lib.hid hbw
    have hag := Lib.hid (around_any k)
    have hsl : pre.length + (tyT (.mk k nm h l)).length = R.length := by rw [← hs, List.length_append]
    have hbl := Lib.hid hI.blen
    clear hs hty hbox hI hbw
    by_cases hgo : aroundB k = true ∧ l.length = 1
    · obtain ⟨hab, hl1⟩ := hgo
      obtain ⟨t', rfl⟩ := List.length_eq_one_iff.1 hl1
      have tl : ((([t'] : List Ty5).length : Int) == 1) = true := rfl
      obtain ⟨A, hA⟩ : ∃ A, A = aroundS k := ⟨_, rfl⟩
      have hne : ¬ A.toList = [] ∧ A.toList.isEmpty = false := by
        apply empty_no
        rw [hA, aroundS]
        have h456 : k = 4 ∨ k = 5 ∨ k = 6 := by simpa [aroundB, or_assoc] using hab
        rcases h456 with rfl | rfl | rfl <;> rfl
      have hA1 : 0 < A.size := by
        rw [hA, aroundS]
        have h456 : k = 4 ∨ k = 5 ∨ k = 6 := by simpa [aroundB, or_assoc] using hab
        rcases h456 with rfl | rfl | rfl <;> decide
      rw [tyT_one hab, ← hA, List.length_append, bs_len] at hsl
      have HR := Lib.hid (show (pre ++ bs A) ++ tyT t' = R by rw [← HS.out, tyT_one hab, ← hA, List.append_assoc])
      rw [← hA] at hag
      obtain ⟨a1, a2⟩ := hne
      obtain ⟨m, hm⟩ : ∃ m, n = m + 1 := by cases n with | zero => exact HTY.out.elim | succ m => exact ⟨m, rfl⟩
      have hty2 : TyH (m + 1) w (.mk k nm h [t']) := by rw [← hm]; exact HTY.out
      obtain ⟨-, -, -, hrow, hel⟩ := hty2
      obtain ⟨ba, offa, hoa, hlt, hcell⟩ := hrow (by simp)
      have hty3 := Lib.hid (TyH.succ m (hel t' (by simp)))
      obtain ⟨oh, ch⟩ := h
      dsimp only at hoa
      subst hoa
      obtain ⟨k', nm', h', l'⟩ := t'
      have HQ := Lib.hid (show ∀ w', Below w.heap.size w w' → w'.cell? ⟨ba, offa, none⟩ = some (.int .i64 k') ∧ w'.cell? ⟨ba, offa + 1, none⟩ = some (.string nm') ∧ w'.cell? ⟨ba, offa + 2, none⟩ = some (.slice h'.oa l'.length h'.cap) from fun w' hb => ⟨(hb.cell (p := ⟨ba, offa, none⟩) hlt).trans (by simpa using hcell 0 _ rfl 0 _ rfl), (hb.cell (p := ⟨ba, offa + 1, none⟩) hlt).trans (by simpa using hcell 0 _ rfl 1 _ rfl), (hb.cell (p := ⟨ba, offa + 2, none⟩) hlt).trans (by simpa using hcell 0 _ rfl 2 _ rfl)⟩)
      have HM := Lib.hid hm
      clear hA hab hl1 hcell hrow hel hm HS
      go_wp2_with (first
        | (go_at_call 59; refine (hag.out _).mono ?_; rintro e w1 ⟨rfl, rfl⟩)
        | (go_at_call 54; refine (writeString3_any _ _ _ _ A _ HI.out (by rw [Lib.byteCells_length]; omega) hBs).mono ?_; rintro e w3 ⟨rfl, h3, hb3, hk3⟩; have HB3 := Lib.hid (HBW.out.trans (hb3.mono hbx')); have hbx3 := kp_block ⟨hb3, hk3⟩ HBOX.out (by omega) (by decide); obtain ⟨y0, y1, y2, yf, ylt⟩ := cells3 hbx3; obtain ⟨q0, q1, q2⟩ := HQ.out w3 HB3.out; have HX3 := Lib.hid hbx3; have HI3 := Lib.hid (show IsB3 (.int .i64 0) bx (bx + 1) (Lib.byteCells (pre ++ bs A)) w3 by rw [Lib.byteCells_append, ← cells_str]; exact .inr h3); clear h3 hb3 hk3 hbx3))
      go_roundw
      case rel => exact ⟨k', nm', h', l', pre ++ bs A, set3 HX3.out, by rw [HM.out]; exact hty3.out, HR.out, HI3.out.other HX3.out (by decide) (by omega) (by intro q hq; simp [World.setCell, Array.getElem?_modify, Ne.symm hq]), set3_below HB3.out hbx'⟩
      case measure =>
        have e2 := (HI3.out.other HX3.out (by decide) (by omega) (by intro q hq; simp [World.setCell, Array.getElem?_modify, Ne.symm hq]) : IsB3 (.int .i64 0) bx (bx + 1) (Lib.byteCells (pre ++ bs A)) (((w3.setCell ⟨bx, 0, none⟩ (.int .i64 k')).setCell ⟨bx, 1, none⟩ (.string nm')).setCell ⟨bx, 2, none⟩ (.slice h'.oa l'.length h'.cap))).blen
        rw [e2, hbl.out, List.length_append, bs_len]
        omega
    · have HT2 := Lib.hid (show tyT (.mk k nm h l) = innT (.mk k nm h l) by
        by_cases h1 : aroundB k = true
        · exact tyT_len fun h2 => hgo ⟨h1, h2⟩
        · exact tyT_no (by simpa using h1))
      rw [HT2.out] at hsl
      have HR := Lib.hid (show pre ++ innT (.mk k nm h l) = R by rw [← HS.out, HT2.out])
      have hin := Lib.hid (fun W => innermost_any (.mk k nm h l) W (by omega))
      obtain ⟨IT, hIT⟩ : ∃ I, I = innT (.mk k nm h l) := ⟨_, rfl⟩
      rw [← hIT] at hin hsl HR
      simp only [tyV, tyC] at hin
      have hsz : (strB IT).size = IT.length := by rw [← bs_len, strB_bs]
      clear HS HT2 hIT
      cases hab : aroundB k with
      | false =>
        have he : aroundS k = ⟨#[]⟩ := by
          have h456 : k ≠ 4 ∧ k ≠ 5 ∧ k ≠ 6 := by simpa [aroundB, and_assoc] using hab
          rw [aroundS, if_neg h456.1, if_neg h456.2.1, if_neg h456.2.2]
        rw [he] at hag
        clear he hab hgo
        go_wp2_with (first
          | (go_at_call 59; refine (hag.out _).mono ?_; rintro e w1 ⟨rfl, rfl⟩)
          | (go_at_call 60; refine (hin.out _).mono ?_; rintro e w2 ⟨rfl, hb2⟩; have H2 := Lib.hid (HI.out.below hb2); have HB2 := Lib.hid (HBW.out.trans (hb2.mono HBW.out.size)); have hs2 := Nat.le_trans hBs hb2.size; clear hb2)
          | (go_at_call 54; refine (writeString3_any _ _ _ _ (strB IT) w2 H2.out (by rw [Lib.byteCells_length]; omega) hs2).mono ?_; rintro e w3 ⟨rfl, h3, hb3, -⟩; have H3 := Lib.hid (show IsB3 (.int .i64 0) bx (bx + 1) (Lib.byteCells (pre ++ IT)) w3 by rw [Lib.byteCells_append, ← strB_bs IT, ← cells_str]; exact .inr h3); have HB3 := Lib.hid (HB2.out.trans (hb3.mono hbx')); have hs3 := Nat.le_trans hs2 hb3.size; clear h3 hb3)
          | (go_at_call 53; refine (string3_all _ _ _ (pre ++ IT) w3 hs3 H3.out).mono ?_; rintro e w4 ⟨rfl, hb4⟩; have HB4 := Lib.hid (HB3.out.trans (hb4.mono hbx')); clear hb4))
        go_ret
        exact ⟨by rw [← HR.out]; first | done | rfl, HB4.out⟩
      | true =>
        have tl : ((l.length : Int) == 1) = false := by rw [beq_eq_false_iff_ne]; exact fun h => hgo ⟨hab, by omega⟩
        obtain ⟨A, hA⟩ : ∃ A, A = aroundS k := ⟨_, rfl⟩
        have hne : ¬ A.toList = [] ∧ A.toList.isEmpty = false := by
          apply empty_no
          rw [hA, aroundS]
          have h456 : k = 4 ∨ k = 5 ∨ k = 6 := by simpa [aroundB, or_assoc] using hab
          rcases h456 with rfl | rfl | rfl <;> rfl
        rw [← hA] at hag
        obtain ⟨a1, a2⟩ := hne
        clear hA hab hgo
        go_wp2_with (first
          | (go_at_call 59; refine (hag.out _).mono ?_; rintro e w1 ⟨rfl, rfl⟩)
          | (go_at_call 60; refine (hin.out _).mono ?_; rintro e w2 ⟨rfl, hb2⟩; have H2 := Lib.hid (HI.out.below hb2); have HB2 := Lib.hid (HBW.out.trans (hb2.mono HBW.out.size)); have hs2 := Nat.le_trans hBs hb2.size; clear hb2)
          | (go_at_call 54; refine (writeString3_any _ _ _ _ (strB IT) w2 H2.out (by rw [Lib.byteCells_length]; omega) hs2).mono ?_; rintro e w3 ⟨rfl, h3, hb3, -⟩; have H3 := Lib.hid (show IsB3 (.int .i64 0) bx (bx + 1) (Lib.byteCells (pre ++ IT)) w3 by rw [Lib.byteCells_append, ← strB_bs IT, ← cells_str]; exact .inr h3); have HB3 := Lib.hid (HB2.out.trans (hb3.mono hbx')); have hs3 := Nat.le_trans hs2 hb3.size; clear h3 hb3)
          | (go_at_call 53; refine (string3_all _ _ _ (pre ++ IT) w3 hs3 H3.out).mono ?_; rintro e w4 ⟨rfl, hb4⟩; have HB4 := Lib.hid (HB3.out.trans (hb4.mono hbx')); clear hb4))
        go_ret
        exact ⟨by rw [← HR.out]; first | done | rfl, HB4.out⟩

set_option maxRecDepth 100000 in
set_option maxHeartbeats 4000000 in
theorem placeA_any (p : Pl5) (w : World) (hP : PlH w p) (hlen : (plT p).length ≤ 100000000000000) : Calls Tryz.prog 18 #[plV p] w fun e w' => e = .returned (.string (strB (plT p))) ∧ Below w.heap.size w w' := by
  obtain ⟨nm, ⟨oa, cap⟩, path⟩ := p
  obtain ⟨hp1, hp2, hp3, -⟩ := hP
  dsimp only at hp1 hp2 hp3
  unfold maxLen at hp2
  replace hp3 := Lib.hid hp3
  obtain ⟨R, hR⟩ : ∃ R, R = plT ⟨nm, ⟨oa, cap⟩, path⟩ := ⟨_, rfl⟩
  rw [← hR] at hlen ⊢
  replace hR : R = bs nm ++ path.flatMap stepT := hR
  have hRl : R.length = nm.size + (path.flatMap stepT).length := by rw [hR, List.length_append, bs_len]
  replace hR := Lib.hid hR
  simp only [plV, plC]
  obtain ⟨W0, hW0⟩ : ∃ W, W = (w.alloc (.cells #[.string nm, .slice oa path.length cap] 39)).alloc (.cells #[.pointer none, .slice none 0 0, .int .i64 0] 96) := ⟨_, rfl⟩
  have hb0 : Below w.heap.size w W0 := by rw [hW0]; exact ((Below.refl _ _).alloc (Nat.le_refl _) _).alloc (by simp) _
  have hbx : W0.heap[w.heap.size]? = some (.cells #[.string nm, .slice oa path.length cap] 39) := by rw [hW0, heap_alloc_old _ _ (by simp), heap_alloc_new]
  have hI : IsB3 (.int .i64 0) w.heap.size (w.heap.size + 1) (Lib.byteCells []) W0 := by
    have := B3At.new (.int .i64 0) (w.alloc (.cells #[.string nm, .slice oa path.length cap] 39))
    obtain ⟨h1, v, h2, h3, h4⟩ := this
    rw [hW0]
    refine .inl ⟨by simp, .slice none 0 0, by simpa using heap_alloc_new (w.alloc (.cells #[.string nm, .slice oa path.length cap] 39)) (.cells #[.pointer none, .slice none 0 0, .int .i64 0] 96), World.ownsRowF_of (World.ownsRow_nil _ _ _ _), by simp [Value.ownBlock]⟩
  have hsz0 : w.heap.size ≤ W0.heap.size := hb0.size
  have HB0 := Lib.hid hb0
  go_enter Tryz.func18, Tryz.ntmps18
  go_wp2_with fail
  rw [← hW0]
  clear hW0 hb0
  refine (writeString3_any _ _ _ _ nm W0 hI (by rw [Lib.byteCells_length]; simp; omega) hsz0).mono ?_
  rintro e w1 ⟨rfl, h1, hb1, hk1⟩
  have K1 : Kp w.heap.size (w.heap.size + 1) W0 w1 := ⟨hb1, hk1⟩
  have hbx1 := kp_block K1 hbx (by omega) (by decide)
  have H1 : IsB3 (.int .i64 0) w.heap.size (w.heap.size + 1) (Lib.byteCells (bs nm)) w1 := by
    have e : Lib.byteCells ([] : List UInt8) ++ Lib.strCells nm = Lib.byteCells (bs nm) := by rw [cells_str]; rfl
    rw [e] at h1
    exact .inr h1
  have z0 : w1.cell? ⟨w.heap.size, 1, none⟩ = some (.slice oa path.length cap) := by simp [World.cell?, hbx1]
  have HB1 := Lib.hid (HB0.out.trans (hb1.mono (Nat.le_refl _)))
  replace hbx1 := Lib.hid hbx1
  clear h1 hb1 hk1 K1 hI hbx
  go_wp2_with fail
  go_loopw [13] (fun u wr => ∃ j : Nat, j ≤ path.length ∧ u = .int .i64 j ∧ IsB3 (.int .i64 0) w.heap.size (w.heap.size + 1) (Lib.byteCells (bs nm ++ (path.take j).flatMap stepT)) wr ∧ Below w.heap.size w wr) (fun u _ => path.length - (intOf u).toNat)
  case atStart => exact ⟨0, by omega, rfl, by simpa using H1, HB1.out⟩
  case round =>
    clear H1 z0
    obtain ⟨j, hj, rfl, HI, hbw⟩ := hrel
    have hsr := hbw.size
    by_cases hjl : j < path.length
    · have t1 : decide ((j : Int) < path.length) = true := by simp; omega
      obtain ⟨ba, offa, rfl, hlt, hcell⟩ := hp3.out (by omega)
      obtain ⟨x, hx⟩ : ∃ x, path[j]? = some x := ⟨_, List.getElem?_eq_getElem hjl⟩
      have g0 : wr.cell? ⟨ba, offa + j, none⟩ = some (.string x) := (hbw.cell (p := ⟨ba, offa + j, none⟩) hlt).trans (by simpa using hcell j _ hx 0 _ rfl)
      have HS := Lib.hid (flatMap_snoc stepT path j x hx)
      have hln := flatMap_len stepT path j x hx
      clear hx hcell
      have hb2 := alloc_below wr (.cells #[.string x] 58)
      have HI2 := HI.below hb2
      have hbw2 := hbw.trans (hb2.mono hsr)
      have hx2 := heap_alloc_new wr (.cells #[.string x] 58)
      have hne : wr.heap.size ≠ w.heap.size + 1 := by have := HI.lt; omega
      obtain ⟨pre, hpre⟩ : ∃ l, l = bs nm ++ (path.take j).flatMap stepT := ⟨_, rfl⟩
      rw [← hpre] at HI2
      have hprl : pre.length = nm.size + ((path.take j).flatMap stepT).length := by rw [hpre, List.length_append, bs_len]
      have hst : stepT x = 46 :: (if emptyN x then [42] else bs x) := rfl
      have hsl : (stepT x).length = 1 + (if emptyN x then 1 else x.size) := by
        rw [hst]
        split <;> simp <;> omega
      have HPRE := Lib.hid hpre
      have HST := Lib.hid hst
      clear hpre hst HI
      obtain ⟨W2, hW2⟩ : ∃ W, W = wr.alloc (.cells #[.string x] 58) := ⟨_, rfl⟩
      rw [← hW2] at HI2 hbw2 hx2 hb2
      have hB2 : w.heap.size ≤ W2.heap.size := hbw2.size
      replace hbw2 := Lib.hid hbw2
      go_wp2_with fail
      rw [← hW2]
      clear hW2
      refine (writeByte3_any _ _ _ _ 46 W2 HI2 (by rw [Lib.byteCells_length]; omega) hB2).mono ?_
      rintro e w3 ⟨rfl, h3, hb3, hk3⟩
      have hx3 := kp_block ⟨hb3, hk3⟩ hx2 hne (by decide)
      have H3 : IsB3 (.int .i64 0) w.heap.size (w.heap.size + 1) (Lib.byteCells (pre ++ [46])) w3 := by rw [Lib.byteCells_append]; exact .inr h3
      have hbw3 := Lib.hid (hbw2.out.trans hb3)
      have z3 : w3.cell? ⟨wr.heap.size, 0, none⟩ = some (.string x) := by simp [World.cell?, hx3]
      clear h3 hk3 HI2 hx2 hb3
      cases hem : emptyN x with
      | true =>
        obtain rfl := empty_of hem
        have HST2 := Lib.hid (show stepT ⟨#[]⟩ = [46, 42] from rfl)
        rw [hem, if_pos rfl] at hsl
        clear hem
        go_wp2_with fail
        refine (writeByte3_any _ _ _ _ 42 w3 H3 (by rw [Lib.byteCells_length, List.length_append, List.length_singleton]; omega) hbw3.out.size).mono ?_
        rintro e w4 ⟨rfl, h4, hb4, hk4⟩
        have hx4 := kp_block ⟨hb4, hk4⟩ hx3 hne (by decide)
        have z4 : w4.cell? ⟨wr.heap.size, 0, none⟩ = some (.string ⟨#[]⟩) := by simp [World.cell?, hx4]
        have H4 : IsB3 (.int .i64 0) w.heap.size (w.heap.size + 1) (Lib.byteCells (pre ++ [46] ++ [42])) w4 := by rw [Lib.byteCells_append]; exact .inr h4
        have hbw4 := Lib.hid (hbw3.out.trans hb4)
        clear h4 hb4 hk4 hx4 hx3 z3 H3
        go_wp2_with fail
        refine (writeString3_any _ _ _ _ ⟨#[]⟩ w4 H4 (by rw [Lib.byteCells_length, show (⟨#[]⟩ : ByteArray).size = 0 from rfl]; simp; omega) hbw4.out.size).mono ?_
        rintro e w5 ⟨rfl, h5, hb5, hk5⟩
        have H5 : IsB3 (.int .i64 0) w.heap.size (w.heap.size + 1) (Lib.byteCells (bs nm ++ (path.take (j + 1)).flatMap stepT)) w5 := by
          have e : bs nm ++ (path.take (j + 1)).flatMap stepT = pre ++ [46] ++ [42] := by rw [HS.out, HST2.out, ← List.append_assoc, ← HPRE.out]; simp
          rw [e]
          have e2 : Lib.byteCells (pre ++ [46] ++ [42]) ++ Lib.strCells ⟨#[]⟩ = Lib.byteCells (pre ++ [46] ++ [42]) := List.append_nil _
          rw [e2] at h5
          exact .inr h5
        have hbw5 := hbw4.out.trans hb5
        clear h5 hb5 hk5 z4 H4
        go_wp2
        go_roundw
        case rel => exact ⟨j + 1, by omega, by go_num, H5, hbw5⟩
        case measure => simp [intOf]; omega
      | false =>
        obtain ⟨e1, e2⟩ := empty_no hem
        have HST2 := Lib.hid (show stepT x = 46 :: bs x by rw [HST.out, hem]; rfl)
        rw [hem, if_neg (by decide)] at hsl
        clear hem
        go_wp2_with fail
        refine (writeString3_any _ _ _ _ x w3 H3 (by rw [Lib.byteCells_length, List.length_append, List.length_singleton]; omega) hbw3.out.size).mono ?_
        rintro e w5 ⟨rfl, h5, hb5, hk5⟩
        have H5 : IsB3 (.int .i64 0) w.heap.size (w.heap.size + 1) (Lib.byteCells (bs nm ++ (path.take (j + 1)).flatMap stepT)) w5 := by
          have e : bs nm ++ (path.take (j + 1)).flatMap stepT = pre ++ [46] ++ bs x := by rw [HS.out, HST2.out, ← List.append_assoc, ← HPRE.out]; simp
          rw [e, Lib.byteCells_append, ← cells_str]
          exact .inr h5
        have hbw5 := hbw3.out.trans hb5
        clear h5 hb5 hk5 z3 H3 hx3
        go_wp2
        go_roundw
        case rel => exact ⟨j + 1, by omega, by go_num, H5, hbw5⟩
        case measure => simp [intOf]; omega
    · have t1 : decide ((j : Int) < path.length) = false := by simp; omega
      obtain rfl : j = path.length := by omega
      rw [List.take_length, ← hR.out] at HI
      have hst := Lib.hid (string3_all _ _ _ R wr hsr HI)
      go_wp2_with (go_at_call 53; refine hst.out.mono ?_; rintro e w9 ⟨rfl, hb9⟩; replace hb9 := Lib.hid hb9)
      go_ret
      exact ⟨rfl, hbw.trans hb9.out⟩


def opT (o : Op5) : List UInt8 := if o.num then Lib.itoa o.n else plT o.p
set_option maxRecDepth 100000 in
set_option maxHeartbeats 1000000 in
theorem oper_any (o : Op5) (w : World) (hO : OpH w o) (hV : Vz w) (hlen : (opT o).length ≤ 100000000000000) : Calls Tryz.prog 21 #[opV o] w fun e w' => e = .returned (.string (strB (opT o))) ∧ Below w.heap.size w w' := by
  obtain ⟨num, n, p⟩ := o
  cases num with
  | true => exact oper_num n hO.1 p w hV
  | false =>
    have hP := hO.2
    have hlen' : (plT p).length ≤ 100000000000000 := hlen
    show Calls Tryz.prog 21 #[opV ⟨false, n, p⟩] w fun e w' => e = .returned (.string (strB (plT p))) ∧ Below w.heap.size w w'
    obtain ⟨pn, ph, pp⟩ := p
    have hc : ∀ W, Below w.heap.size w W → Calls Tryz.prog 18 #[plV ⟨pn, ph, pp⟩] W fun e w' => e = .returned (.string (strB (plT ⟨pn, ph, pp⟩))) ∧ Below W.heap.size W w' := fun W hW => placeA_any _ W (hP.below hW) hlen'
    simp only [opV, opC, plV, plC, List.cons_append, List.nil_append] at hc ⊢
    replace hc := Lib.hid hc
    clear hP hlen hlen' hO hV
    have HB := Lib.hid (alloc_below w (.cells #[.bool false, .int .i64 n, .string pn, .slice ph.oa pp.length ph.cap] 41))
    go_enter Tryz.func21, Tryz.ntmps21
    go_wp2_with (go_at_call 18; refine (hc.out _ HB.out).mono ?_; rintro e w1 ⟨rfl, hb1⟩; have HB1 := Lib.hid (HB.out.trans (hb1.mono HB.out.size)); clear hb1)
    go_ret
    exact ⟨rfl, HB1.out⟩

end Go.Proofs.YtgogdcpgfmndnaaGreatDoor
