/-
  ParsePlaces' walk: true of any text. Conditions: the package variables lie as the program's text lays them.
-/
import Derived.Test.YthmiapolpohklaaGreatDoorJPPlP
namespace Go.Proofs.YthmiapolpohklaaGreatDoor
open Go.RowKit

set_option maxRecDepth 100000 in
set_option maxHeartbeats 4000000 in
theorem places_long (s : ByteArray) (w : World) (hV : Vars w) (hs : ¬ s.size ≤ 3000) : Calls Tryz.prog 6 #[.string s] w fun e w' => e = .returned (.bool true) ∧ Below w.heap.size w w' := by
  have t1 : decide ((s.size : Int) > 3000) = true := by simp; omega
  have HV := Lib.hid hV
  clear hV hs
  go_enter Tryz.func6, Tryz.ntmps6
  go_wp2_with (go_at_call 8; refine (works_any w HV.out).mono ?_; rintro e W1 ⟨rfl, hb1⟩; have HB1 := Lib.hid hb1; clear hb1)
  go_ret
  exact ⟨rfl, HB1.out⟩
set_option maxRecDepth 100000 in
set_option maxHeartbeats 4000000 in
theorem places_bad (s : ByteArray) (w : World) (hV : Vars w) (hs : s.size ≤ 3000) {er : Int} {q : Nat} (hl : lexL (bs s) = .bad er q) : Calls Tryz.prog 6 #[.string s] w fun e w' => e = .returned (.bool true) ∧ Below w.heap.size w w' := by
  have hp : parseR s = .no er q := by unfold parseR; rw [hl]
  have hne : (er != 0) = true := by simpa using lexL_bad hl
  have t1 : decide ((s.size : Int) > 3000) = false := by simp; omega
  have HV := Lib.hid hV
  have HL := Lib.hid hl
  have HP := Lib.hid hp
  clear hV hs hl hp
  go_enter Tryz.func6, Tryz.ntmps6
  go_upto_region 8 with
    (first
      | (go_at_call 8; refine (works_any w HV.out).mono ?_; rintro e W1 ⟨rfl, hb1⟩; have HB1 := Lib.hid hb1; clear hb1)
      | (go_at_call 12; refine (lex_any s W1 (HV.out.b HB1.out)).mono ?_; rintro e W2 ⟨h1, hb1⟩; unfold LexOut at h1; rw [HL.out] at h1; simp only at h1; subst h1; have HB2 := Lib.hid (HB1.out.trans (hb1.mono HB1.out.size)); clear hb1)
      | (go_at_call 9; refine (parse_any s W2 (HV.out.b HB2.out)).mono ?_; rintro e W3 ⟨hb1, h1⟩; unfold ReadOut at h1; rw [HP.out] at h1; simp only at h1; subst h1; have HB3 := Lib.hid (HB2.out.trans (hb1.mono HB2.out.size)); clear hb1)
      | (refine wpList_store_box rfl 27 (.tmp 7) (.tmp 30) rfl W3.heap.size 0 rfl (.agg #[.slice none 0 0, .slice none 0 0, .slice none 0 0]) rfl [.slice none 0 0, .slice none 0 0, .slice none 0 0] rfl [.slice none 0 0, .slice none 0 0, .slice none 0 0] 27 (heap_alloc_new W3 (.cells #[.slice none 0 0, .slice none 0 0, .slice none 0 0] 27)) (Nat.le_refl _) (show (Tryz.prog.info? 27).map (·.size) = some 3 by kernel_rfl) ?c1 W3.heap.size (Nat.le_refl _) (W3.alloc (.cells #[.slice none 0 0, .slice none 0 0, .slice none 0 0] 27)) (Below.refl _ _) ?_; rotate_left; intro W4 hb hbx hoth))
  case c1 => first | exact ⟨rfl, rfl, rfl⟩ | (intro v hv; simp at hv; first | (rcases hv with rfl | rfl | rfl <;> rfl) | (subst hv; rfl))
  have hb4 : Below W3.heap.size W3 W4 := (alloc_below W3 (.cells #[.slice none 0 0, .slice none 0 0, .slice none 0 0] 27)).trans hb
  have HB4 := Lib.hid (HB3.out.trans (hb4.mono HB3.out.size))
  clear hb hbx hoth hb4
  go_wp2
  go_ret
  exact ⟨rfl, HB4.out⟩
set_option maxRecDepth 100000 in
set_option maxHeartbeats 4000000 in
theorem places_no (s : ByteArray) (w : World) (hV : Vars w) (hs : s.size ≤ 3000) {ts : List Tok} (hl : lexL (bs s) = .good ts) {er : Int} {q : Nat} (hp : parseR s = .no er q) : Calls Tryz.prog 6 #[.string s] w fun e w' => e = .returned (.bool true) ∧ Below w.heap.size w w' := by
  have hne : (er != 0) = true := by simpa using parse_nz hp
  have t1 : decide ((s.size : Int) > 3000) = false := by simp; omega
  have HV := Lib.hid hV
  have HL := Lib.hid hl
  have HP := Lib.hid hp
  obtain ⟨m, hm⟩ : ∃ m, ts.length + 1 = m := ⟨_, rfl⟩
  have HM := Lib.hid hm
  clear hV hs hl hp hm
  go_enter Tryz.func6, Tryz.ntmps6
  go_upto_region 8 with
    (first
      | (go_at_call 8; refine (works_any w HV.out).mono ?_; rintro e W1 ⟨rfl, hb1⟩; have HB1 := Lib.hid hb1; clear hb1)
      | (go_at_call 12; refine (lex_any s W1 (HV.out.b HB1.out)).mono ?_; rintro e W2 ⟨h1, hb1⟩; unfold LexOut at h1; rw [HL.out] at h1; simp only at h1; obtain ⟨gg, cap, h1, hg, hta⟩ := h1; subst h1; rw [HM.out]; have HTA := Lib.hid hta; have HB2 := Lib.hid (HB1.out.trans (hb1.mono HB1.out.size)); clear hb1 hta hg)
      | (go_at_call 9; refine (parse_any s W2 (HV.out.b HB2.out)).mono ?_; rintro e W3 ⟨hb1, h1⟩; unfold ReadOut at h1; rw [HP.out] at h1; simp only at h1; subst h1; have HB3 := Lib.hid (HB2.out.trans (hb1.mono HB2.out.size)); clear hb1)
      | (refine wpList_store_box rfl 27 (.tmp 7) (.tmp 30) rfl W3.heap.size 0 rfl (.agg #[.slice none 0 0, .slice none 0 0, .slice none 0 0]) rfl [.slice none 0 0, .slice none 0 0, .slice none 0 0] rfl [.slice none 0 0, .slice none 0 0, .slice none 0 0] 27 (heap_alloc_new W3 (.cells #[.slice none 0 0, .slice none 0 0, .slice none 0 0] 27)) (Nat.le_refl _) (show (Tryz.prog.info? 27).map (·.size) = some 3 by kernel_rfl) ?c1 W3.heap.size (Nat.le_refl _) (W3.alloc (.cells #[.slice none 0 0, .slice none 0 0, .slice none 0 0] 27)) (Below.refl _ _) ?_; rotate_left; intro W4 hb hbx hoth))
  case c1 => first | exact ⟨rfl, rfl, rfl⟩ | (intro v hv; simp at hv; first | (rcases hv with rfl | rfl | rfl <;> rfl) | (subst hv; rfl))
  have hb4 : Below W3.heap.size W3 W4 := (alloc_below W3 (.cells #[.slice none 0 0, .slice none 0 0, .slice none 0 0] 27)).trans hb
  have HB4 := Lib.hid (HB3.out.trans (hb4.mono HB3.out.size))
  clear hb hbx hoth hb4
  go_wp2
  go_ret
  exact ⟨rfl, HB4.out⟩
theorem row_at {α : Type} {w : World} {h : Hd} {sz : Nat} {l : List α} {C : α → List Value} {P : α → Prop} (r : Row w h sz l C P) {i : Nat} (hi : i < l.length) :
    ∃ b off x, h.oa = some ⟨b, off, none⟩ ∧ l[i]? = some x ∧ x ∈ l ∧ P x ∧ ∀ (j : Nat) (v : Value), (C x)[j]? = some v → w.cell? ⟨b, off + i * sz + j, none⟩ = some v := by
  obtain ⟨b, off, h1, _, h3⟩ := r.2.2.1 (by omega)
  have hx : l[i]? = some l[i] := List.getElem?_eq_getElem hi
  exact ⟨b, off, l[i], h1, hx, List.mem_of_getElem? hx, r.2.2.2 _ (List.mem_of_getElem? hx), fun j v hv => h3 i _ hx j v hv⟩
set_option maxRecDepth 100000 in
set_option maxHeartbeats 40000000 in
theorem places_main (s : ByteArray) (w : World) (hV : Vars w) (hs : s.size ≤ 3000) {ts : List Tok} (hl : lexL (bs s) = .good ts) {x : So5} {r : List Tok} (hp : parseR s = .ok x r) : Calls Tryz.prog 6 #[.string s] w fun e w' => e = .returned (.bool true) ∧ Below w.heap.size w w' := by
  have hlen : ts.length + 1 ≤ 3001 := by
    have h1 := lexT_len (lexL_good hl).2
    rw [bs_size] at h1
    omega
  have HPO := Lib.hid (show ∀ y, erSo y = x → PosSo (ts ++ [endTok s]) y from fun y hy => places_of hl hp hy)
  have t1 : decide ((s.size : Int) > 3000) = false := by simp; omega
  have HV := Lib.hid hV
  have HL := Lib.hid hl
  have HP := Lib.hid hp
  obtain ⟨n, hn⟩ : ∃ n, (ts ++ [endTok s]).length = n := ⟨_, rfl⟩
  have hn1 : ts.length + 1 = n := by rw [← hn]; simp
  have hln : (ts ++ [endTok s]).length ≤ 70000 := by simp; omega
  have HN := Lib.hid (And.intro hn (And.intro hn1 hln))
  clear hV hs hl hp hn hn1 hln hlen
  go_enter Tryz.func6, Tryz.ntmps6
  go_upto_region 8 with
    (first
      | (go_at_call 8; refine (works_any w HV.out).mono ?_; rintro e W1 ⟨rfl, hb1⟩; have HB1 := Lib.hid hb1; clear hb1)
      | (go_at_call 12; refine (lex_any s W1 (HV.out.b HB1.out)).mono ?_; rintro e W2 ⟨h1, hb1⟩; unfold LexOut at h1; rw [HL.out] at h1; simp only at h1; obtain ⟨gg, cap, h1, hg, hta⟩ := h1; subst h1; rw [HN.out.2.1]; have HTA := Lib.hid hta; have HB2 := Lib.hid (HB1.out.trans (hb1.mono HB1.out.size)); clear hb1 hta hg)
      | (go_at_call 9; refine (parse_any s W2 (HV.out.b HB2.out)).mono ?_; rintro e W3 ⟨hb1, h1⟩; unfold ReadOut at h1; rw [HP.out] at h1; simp only at h1; obtain ⟨⟨y1, x1, y2, x2, y3, x3⟩, rfl, hxe, hxh⟩ := h1; simp only [soV]; have HB3 := Lib.hid (HB2.out.trans (hb1.mono HB2.out.size)); have HTA3 := Lib.hid (HTA.out.below hb1); have HXE := Lib.hid hxe; have HXH := Lib.hid (SoH.und 181 _ _ _ (eb_full _ _ _) hxh); clear hb1 hxe hxh)
      | (refine wpList_store_box rfl 27 (.tmp 7) (.tmp 30) rfl W3.heap.size 0 rfl (.agg #[.slice y1.oa x1.length y1.cap, .slice y2.oa x2.length y2.cap, .slice y3.oa x3.length y3.cap]) rfl [.slice y1.oa x1.length y1.cap, .slice y2.oa x2.length y2.cap, .slice y3.oa x3.length y3.cap] rfl [.slice none 0 0, .slice none 0 0, .slice none 0 0] 27 (heap_alloc_new W3 (.cells #[.slice none 0 0, .slice none 0 0, .slice none 0 0] 27)) (Nat.le_refl _) (show (Tryz.prog.info? 27).map (·.size) = some 3 by kernel_rfl) ?c1 W3.heap.size (Nat.le_refl _) (W3.alloc (.cells #[.slice none 0 0, .slice none 0 0, .slice none 0 0] 27)) (Below.refl _ _) ?_; rotate_left; intro W4 hb hbx hoth))
  case c1 => first | exact ⟨rfl, rfl, rfl⟩ | (intro v hv; simp at hv; first | (rcases hv with rfl | rfl | rfl <;> rfl) | (subst hv; rfl))
  obtain ⟨n1, hn1⟩ : ∃ k, x1.length = k := ⟨_, rfl⟩
  obtain ⟨n2, hn2⟩ : ∃ k, x2.length = k := ⟨_, rfl⟩
  obtain ⟨n3, hn3⟩ : ∃ k, x3.length = k := ⟨_, rfl⟩
  obtain ⟨o1, ho1⟩ : ∃ k, y1.oa = k := ⟨_, rfl⟩
  obtain ⟨o2, ho2⟩ : ∃ k, y2.oa = k := ⟨_, rfl⟩
  obtain ⟨o3, ho3⟩ : ∃ k, y3.oa = k := ⟨_, rfl⟩
  have hb4 : Below W3.heap.size W3 W4 := (alloc_below W3 (.cells #[.slice none 0 0, .slice none 0 0, .slice none 0 0] 27)).trans hb
  have HB4 := Lib.hid (HB3.out.trans (hb4.mono HB3.out.size))
  obtain ⟨N, hN⟩ : ∃ N, N = W3.heap.size := ⟨_, rfl⟩
  have hxp : W4.heap[N]? = some (.cells #[.slice y1.oa x1.length y1.cap, .slice y2.oa x2.length y2.cap, .slice y3.oa x3.length y3.cap] 27) := by rw [hN]; exact hbx
  rw [hn1, hn2, hn3, ho1, ho2, ho3] at hxp
  obtain ⟨z0, z1, z2, zf, zl⟩ := cells3p hxp
  have hsh := SoH.below HXH.out hb4
  have HTA4 := Lib.hid (HTA3.out.below hb4)
  have HSH := Lib.hid hsh
  have HNN := Lib.hid (And.intro hn1 (And.intro hn2 hn3))
  have HOO := Lib.hid (And.intro ho1 (And.intro ho2 ho3))
  have HPS := Lib.hid (HPO.out _ HXE.out)
  have HBD := Lib.hid (show n1 ≤ 9223372036854775807 ∧ n2 ≤ 9223372036854775807 ∧ n3 ≤ 9223372036854775807 by
    have h1 := hsh.1.2.1; have h2 := hsh.2.1.2.1; have h3 := hsh.2.2.2.1; have g1 := hsh.1.1; have g2 := hsh.2.1.1; have g3 := hsh.2.2.1
    unfold maxLen at h1 h2 h3
    simp only at h1 h2 h3 g1 g2 g3
    omega)
  simp only [← hN]
  clear hb hbx hoth hb4 hn1 hn2 hn3 ho1 ho2 ho3 hN hxp hsh
  have HBG := Lib.hid (show ∀ (p : Int) (u : List UInt8) (V : World), Below W4.heap.size W4 V → begB (ts ++ [endTok s]) p u = true → Calls Tryz.prog 14 #[.slice (some ⟨gg, 0, none⟩) n cap, .int .i64 p, .string (strB u)] V fun e w' => e = .returned (.bool true) ∧ w' = V from fun p u V hV hb => by
    have h := begins_any (cap := cap) p u (HTA4.out.below hV) HN.out.2.2
    rw [HN.out.1, hb] at h
    exact h)
  have HRS := Lib.hid (show ∀ (h : Hd) (l : List St5) (p : Int) (V : World), Below W4.heap.size W4 V → Row W4 h 21 l stC (StH 181 W4) → risSts (ts ++ [endTok s]) l p = true → Calls Tryz.prog 15 #[.slice (some ⟨gg, 0, none⟩) n cap, .slice h.oa l.length h.cap, .int .i64 p] V fun e w' => e = .returned (.bool true) ∧ ∃ m, w' = V.drewN m from fun h l p V hV hr hb => by
    have h1 := rising_any 181 (cap := cap) (HTA4.out.below hV) HN.out.2.2 h l p (hr.below hV fun _ _ hq => StH.below hq hV)
    rw [HN.out.1, hb] at h1
    exact h1)
  have HZ := Lib.hid (And.intro z0 (And.intro z1 z2))
  go_wp2_with fail
  clear z0 z1 z2 zf zl
  go_loopw [10] (fun u wr => ∃ (i m : Nat), i ≤ n3 ∧ u = .int .i64 i ∧ wr = W4.drewN m) (fun u _ => n3 - (intOf u).toNat)
  case atStart => exact ⟨0, 0, Nat.zero_le _, rfl, rfl⟩
  case round =>
    obtain ⟨i, m0, hi, rfl, hw⟩ := hrel
    obtain ⟨W, hWW⟩ : ∃ W, W = wr := ⟨_, rfl⟩
    rw [← hWW]
    have HW := Lib.hid (show Below W4.heap.size W4 W by rw [hWW, hw]; exact dn_below _ _)
    have HDW := Lib.hid (show ∃ m, W = W4.drewN m from ⟨m0, by rw [hWW, hw]⟩)
    have HWC := Lib.hid (show ∀ a, W.cell? a = W4.cell? a from fun a => by rw [hWW, hw]; rfl)
    have hbd := HBD.out
    clear hWW hw
    have e0 := (HWC.out _).trans HZ.out.1
    have e1 := (HWC.out _).trans HZ.out.2.1
    have e2 := (HWC.out _).trans HZ.out.2.2
    by_cases hin : i < n3
    · have t1 : decide ((i : Int) < n3) = true := by simp; omega
      have hi0 : (0 : Int) ≤ i := by omega
      have hi1 : (i : Int) < n3 := by omega
      obtain ⟨bf, off, f, hoa, hf, hmem, hfh, hcell⟩ := row_at (show Row W4 y3 4 x3 fnC (FnH 181 W4) from HSH.out.2.2) (i := i) (by rw [HNN.out.2.2]; exact hin)
      have h9 := HOO.out.2.2.symm.trans hoa
      subst h9
      obtain ⟨nm, hp, ps, hb, body, pos⟩ := f
      have hps := HPS.out.fns _ hmem
      simp only at hps
      have c2 := (HWC.out _).trans (hcell 2 (.slice hb.oa body.length hb.cap) rfl)
      have c3 := (HWC.out _).trans (hcell 3 (.int .i64 pos) rfl)
      have HBGf := Lib.hid (show ∀ V, Below W4.heap.size W4 V → Calls Tryz.prog 14 #[.slice (some ⟨gg, 0, none⟩) n cap, .int .i64 pos, .string ⟨#[99, 111]⟩] V fun e w' => e = .returned (.bool true) ∧ w' = V from fun V hV => HBG.out pos wCo V hV hps.1)
      have HRSf := Lib.hid (show ∀ V, Below W4.heap.size W4 V → Calls Tryz.prog 15 #[.slice (some ⟨gg, 0, none⟩) n cap, .slice hb.oa body.length hb.cap, .int .i64 pos] V fun e w' => e = .returned (.bool true) ∧ ∃ m, w' = V.drewN m from fun V hV => HRS.out hb body pos V hV hfh.2 hps.2)
      obtain ⟨nbd, hnbd⟩ : ∃ k, body.length = k := ⟨_, rfl⟩
      have hrs3 := HRSf.out
      rw [hnbd] at c2 hrs3
      replace HRSf := Lib.hid hrs3
      clear hps hcell hmem hfh hf hoa hnbd hrs3
      go_upto_region 13 with fail
      go_quiet (first | (go_at_call 14; refine Calls.quiet_of_same (HBGf.out _ (dnB HW.out _))) | (go_at_call 15; refine Calls.quiet_of (HRSf.out _ (dnB HW.out _))))
      go_wp2
      go_roundw
      case rel =>
        obtain ⟨m1, h1⟩ := HDW.out
        exact ⟨i + 1, m1 + nq, by omega, by go_num, by rw [h1, World.drewN_drewN]⟩
      case measure => simp [intOf]; omega
    · have t1 : decide ((i : Int) < n3) = false := by simp; omega
      obtain ⟨m0, hm0⟩ := HDW.out
      have HM0 := Lib.hid hm0
      clear hm0
      go_wp2_with fail
      clear e0 e1 e2
      go_loopw [11] (fun u wr => ∃ (i m : Nat), i ≤ n1 ∧ u = .int .i64 i ∧ wr = W4.drewN m) (fun u _ => n1 - (intOf u).toNat)
      case atStart => exact ⟨0, m0, Nat.zero_le _, rfl, HM0.out⟩
      case round =>
        obtain ⟨i, m0, hi, rfl, hw⟩ := hrel
        obtain ⟨W, hWW⟩ : ∃ W, W = wr := ⟨_, rfl⟩
        rw [← hWW]
        have HW := Lib.hid (show Below W4.heap.size W4 W by rw [hWW, hw]; exact dn_below _ _)
        have HDW := Lib.hid (show ∃ m, W = W4.drewN m from ⟨m0, by rw [hWW, hw]⟩)
        have HWC := Lib.hid (show ∀ a, W.cell? a = W4.cell? a from fun a => by rw [hWW, hw]; rfl)
        have hbd := HBD.out
        clear hWW hw
        have e0 := (HWC.out _).trans HZ.out.1
        have e1 := (HWC.out _).trans HZ.out.2.1
        have e2 := (HWC.out _).trans HZ.out.2.2
        by_cases hin : i < n1
        · have t1 : decide ((i : Int) < n1) = true := by simp; omega
          have hi0 : (0 : Int) ≤ i := by omega
          have hi1 : (i : Int) < n1 := by omega
          obtain ⟨bf, off, f, hoa, hf, hmem, hfh, hcell⟩ := row_at (show Row W4 y1 4 x1 suC (SuH 181 W4) from HSH.out.1) (i := i) (by rw [HNN.out.1]; exact hin)
          have h9 := HOO.out.1.symm.trans hoa
          subst h9
          obtain ⟨nm, drp, hh, fds, pos⟩ := f
          have c1 := (HWC.out _).trans (hcell 1 (.bool drp) rfl)
          have c3 := (HWC.out _).trans (hcell 3 (.int .i64 pos) rfl)
          clear hcell hfh hf hoa
          cases drp with
          | true =>
            have hps := HPS.out.structs _ hmem
            simp only [if_true, Bool.false_eq_true, if_false] at hps
            have HBGf := Lib.hid (show Calls Tryz.prog 14 #[.slice (some ⟨gg, 0, none⟩) n cap, .int .i64 pos, .string ⟨#[100, 114, 111, 112]⟩] W fun e w' => e = .returned (.bool true) ∧ w' = W from HBG.out pos wDrop W HW.out hps)
            clear hps hmem
            go_wp2_with (go_at_call 14; refine HBGf.out.mono ?_; rintro e w9 ⟨rfl, h9⟩; replace h9 := h9.symm; subst h9)
            go_roundw
            case rel =>
              obtain ⟨m1, h1⟩ := HDW.out
              exact ⟨i + 1, m1, by omega, by go_num, by exact h1⟩
            case measure => simp [intOf]; omega
          | false =>
            have hps := HPS.out.structs _ hmem
            simp only [if_true, Bool.false_eq_true, if_false] at hps
            have HBGf := Lib.hid (show Calls Tryz.prog 14 #[.slice (some ⟨gg, 0, none⟩) n cap, .int .i64 pos, .string ⟨#[115, 116, 114, 117, 99, 116]⟩] W fun e w' => e = .returned (.bool true) ∧ w' = W from HBG.out pos wStruct W HW.out hps)
            clear hps hmem
            go_wp2_with (go_at_call 14; refine HBGf.out.mono ?_; rintro e w9 ⟨rfl, h9⟩; replace h9 := h9.symm; subst h9)
            go_roundw
            case rel =>
              obtain ⟨m1, h1⟩ := HDW.out
              exact ⟨i + 1, m1, by omega, by go_num, by exact h1⟩
            case measure => simp [intOf]; omega
        · have t1 : decide ((i : Int) < n1) = false := by simp; omega
          obtain ⟨m0, hm0⟩ := HDW.out
          have HM0 := Lib.hid hm0
          clear hm0
          go_wp2_with fail
          clear e0 e1 e2
          go_loopw [13] (fun u wr => ∃ (i m : Nat), i ≤ n2 ∧ u = .int .i64 i ∧ wr = W4.drewN m) (fun u _ => n2 - (intOf u).toNat)
          case atStart => exact ⟨0, m0, Nat.zero_le _, rfl, HM0.out⟩
          case round =>
            obtain ⟨i, m0, hi, rfl, hw⟩ := hrel
            obtain ⟨W, hWW⟩ : ∃ W, W = wr := ⟨_, rfl⟩
            rw [← hWW]
            have HW := Lib.hid (show Below W4.heap.size W4 W by rw [hWW, hw]; exact dn_below _ _)
            have HDW := Lib.hid (show ∃ m, W = W4.drewN m from ⟨m0, by rw [hWW, hw]⟩)
            have HWC := Lib.hid (show ∀ a, W.cell? a = W4.cell? a from fun a => by rw [hWW, hw]; rfl)
            have hbd := HBD.out
            clear hWW hw
            have e0 := (HWC.out _).trans HZ.out.1
            have e1 := (HWC.out _).trans HZ.out.2.1
            have e2 := (HWC.out _).trans HZ.out.2.2
            by_cases hin : i < n2
            · have t1 : decide ((i : Int) < n2) = true := by simp; omega
              have hi0 : (0 : Int) ≤ i := by omega
              have hi1 : (i : Int) < n2 := by omega
              obtain ⟨bf, off, f, hoa, hf, hmem, hfh, hcell⟩ := row_at (show Row W4 y2 3 x2 enC (EnH 181 W4) from HSH.out.2.1) (i := i) (by rw [HNN.out.2.1]; exact hin)
              have h9 := HOO.out.2.1.symm.trans hoa
              subst h9
              obtain ⟨nm, hh, fds, pos⟩ := f
              have hps := HPS.out.enums _ hmem
              simp only at hps
              have c3 := (HWC.out _).trans (hcell 2 (.int .i64 pos) rfl)
              have HBGf := Lib.hid (show Calls Tryz.prog 14 #[.slice (some ⟨gg, 0, none⟩) n cap, .int .i64 pos, .string ⟨#[101, 110, 117, 109]⟩] W fun e w' => e = .returned (.bool true) ∧ w' = W from HBG.out pos wEnum W HW.out hps)
              clear hcell hfh hf hoa hps hmem
              go_wp2_with (go_at_call 14; refine HBGf.out.mono ?_; rintro e w9 ⟨rfl, h9⟩; replace h9 := h9.symm; subst h9)
              go_roundw
              case rel =>
                obtain ⟨m1, h1⟩ := HDW.out
                exact ⟨i + 1, m1, by omega, by go_num, by exact h1⟩
              case measure => simp [intOf]; omega
            · have t1 : decide ((i : Int) < n2) = false := by simp; omega
              go_wp2
              go_ret
              exact ⟨rfl, HB4.out.trans (HW.out.mono HB4.out.size)⟩
theorem places_walk (s : ByteArray) (w : World) (hV : Vars w) : Calls Tryz.prog 6 #[.string s] w fun e w' => e = .returned (.bool true) ∧ Below w.heap.size w w' := by
  by_cases hs : s.size ≤ 3000
  · cases hl : lexL (bs s) with
    | bad er q => exact places_bad s w hV hs hl
    | good ts =>
      cases hp : parseR s with
      | no er q => exact places_no s w hV hs hl hp
      | ok x r => exact places_main s w hV hs hl hp
  · exact places_long s w hV hs
end Go.Proofs.YthmiapolpohklaaGreatDoor
