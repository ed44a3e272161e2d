/-
  ParseBlanks' walk: true of any text. Conditions: the package variables lie as the program's text lays them.
-/
import Derived.Test.YtggdpgaedmegbaaGreatDoorJPWorks
import Derived.Test.YtggdpgaedmegbaaGreatDoorJPBlE
import Derived.Test.YtggdpgaedmegbaaGreatDoorJTSameZ
namespace Go.Proofs.YtggdpgaedmegbaaGreatDoor
open Go.RowKit

set_option maxRecDepth 100000 in
set_option maxHeartbeats 4000000 in
theorem blanks_long (s : ByteArray) (w : World) (hV : Vars w) (hs : ¬ s.size ≤ 3000) : Calls Tryz.prog 5 #[.string s] w fun e w' => e = .returned (.bool true) ∧ Below w.heap.size w w' := by
  have t1 : decide ((s.size : Int) > 3000) = true := by simp; omega
  have HV := Lib.hid hV
  clear hV hs
  go_enter Tryz.func5, Tryz.ntmps5
  go_wp2_with (go_at_call 14; refine (works_any w HV.out).mono ?_; rintro e W1 ⟨rfl, hb1⟩; have HB1 := Lib.hid hb1; clear hb1)
  go_ret
  exact ⟨rfl, HB1.out⟩
set_option maxRecDepth 100000 in
set_option maxHeartbeats 4000000 in
theorem blanks_bad (s : ByteArray) (w : World) (hV : Vars w) (hs : s.size ≤ 3000) {er : Int} {q : Nat} (hl : lexL (bs s) = .bad er q) : Calls Tryz.prog 5 #[.string s] w fun e w' => e = .returned (.bool true) ∧ Below w.heap.size w w' := by
  have hne : (er != 0) = true := by simpa using lexL_bad hl
  have t1 : decide ((s.size : Int) > 3000) = false := by simp; omega
  have HV := Lib.hid hV
  have HL := Lib.hid hl
  clear hV hs hl
  go_enter Tryz.func5, Tryz.ntmps5
  go_wp2_with
    (first
      | (go_at_call 14; refine (works_any w HV.out).mono ?_; rintro e W1 ⟨rfl, hb1⟩; have HB1 := Lib.hid hb1; clear hb1)
      | (go_at_call 18; refine (lex_any s W1 (HV.out.b HB1.out)).mono ?_; rintro e W2 ⟨h1, hb1⟩; unfold LexOut at h1; rw [HL.out] at h1; simp only at h1; subst h1; have HB2 := Lib.hid (HB1.out.trans (hb1.mono HB1.out.size)); clear hb1))
  go_ret
  exact ⟨rfl, HB2.out⟩
def atsC (L : List Tok) (j : Nat) : List Value := (List.range j).map fun k => .int .i64 (((nlT (L.take k)).length + 1 : Nat) : Int)
theorem atsC_len (L : List Tok) (j : Nat) : (atsC L j).length = j := by simp [atsC]
theorem atsC_succ (L : List Tok) (j : Nat) : atsC L (j + 1) = atsC L j ++ [.int .i64 (((nlT (L.take j)).length + 1 : Nat) : Int)] := by simp [atsC, List.range_succ]
theorem atsC_get {L : List Tok} {j k : Nat} (h : k < j) : (atsC L j)[k]? = some (.int .i64 (((nlT (L.take k)).length + 1 : Nat) : Int)) := by
  unfold atsC
  rw [List.getElem?_map, List.getElem?_range h]
  rfl
theorem hd_drop {L : List Tok} {k : Nat} {t : Tok} (h : L[k]? = some t) : hd (L.drop k) = t := by
  unfold hd
  rw [List.headD_eq_head?_getD, List.head?_drop, h]
  rfl
theorem dn_below (w : World) (k : Nat) : Below w.heap.size w (w.drewN k) := ⟨rfl, rfl, rfl, Nat.le_refl _, fun _ _ => rfl⟩
theorem nlT_take {L : List Tok} {j : Nat} {t : Tok} (h : L[j]? = some t) : nlT (L.take (j + 1)) = nlT (L.take j) ++ 10 :: t.text := by
  rw [List.take_add_one, h, nlT_app]
  show _ ++ nlT [t] = _
  rw [nlT_cons]
  simp [nlT]
set_option maxRecDepth 100000 in
set_option maxHeartbeats 40000000 in
theorem blanks_main (s : ByteArray) (w : World) (hV : Vars w) (hs : s.size ≤ 3000) {ts : List Tok} (hl : lexL (bs s) = .good ts) : Calls Tryz.prog 5 #[.string s] w fun e w' => e = .returned (.bool true) ∧ Below w.heap.size w w' := by
  have hlen : ts.length + 1 ≤ 3001 := by
    have h1 := lexT_len (lexL_good hl).2
    rw [bs_size] at h1
    omega
  have hnl : (nlT (ts ++ [endTok s])).length ≤ 6001 := by
    have h1 := nl_len (lexL_good hl).2
    rw [bs_size] at h1
    rw [nlT_app, List.length_append]
    show _ + 1 ≤ _
    omega
  have t1 : decide ((s.size : Int) > 3000) = false := by simp; omega
  have HV := Lib.hid hV
  have HL := Lib.hid hl
  obtain ⟨Y, hY⟩ : ∃ Y, Y = ts ++ [endTok s] := ⟨_, rfl⟩
  obtain ⟨n, hn⟩ : ∃ n, Y.length = n := ⟨_, rfl⟩
  have hn1 : ts.length + 1 = n := by rw [← hn, hY]; simp
  have HN := Lib.hid (And.intro hn (And.intro hn1 (show n ≤ 3001 by omega)))
  rw [← hY] at hnl
  have HNL := Lib.hid hnl
  have HY := Lib.hid hY
  have HPL := Lib.hid (show ∀ t, bs t = nlT Y → _ from fun t ht => (blanks_plain hs hl (t := t) (hY ▸ ht)).2)
  clear hV hs hl hn hn1 hlen hnl hY
  obtain ⟨i3, hi3, hz3, hs3, hb3⟩ := info_parts (show (Tryz.prog.info? 3).map (fun i => (i.zero, i.size, i.bytes)) = some (some (.int .i64 0), 1, 8) by kernel_rfl)
  have HI := Lib.hid (And.intro hi3 (And.intro hz3 (And.intro hs3 hb3)))
  clear hi3 hz3 hs3 hb3
  go_enter Tryz.func5, Tryz.ntmps5
  go_wp2_with
    (first
      | (go_at_call 14; refine (works_any w HV.out).mono ?_; rintro e W1 ⟨rfl, hb1⟩; have HB1 := Lib.hid hb1; clear hb1)
      | (go_at_call 18; refine (lex_any s W1 (HV.out.b HB1.out)).mono ?_; rintro e W2 ⟨h1, hb1⟩; unfold LexOut at h1; rw [HL.out] at h1; simp only at h1; obtain ⟨gg, cap, h1, hg, hta⟩ := h1; subst h1; rw [HN.out.2.1]; rw [← HY.out] at hta; have HTA := Lib.hid hta; have HB2 := Lib.hid (HB1.out.trans (hb1.mono HB1.out.size)); clear hb1 hta hg))
  go_loopw [7, 8, 9] (fun t at' i wr => ∃ (j : Nat) (b : ByteArray), j ≤ n ∧ i = .int .i64 j ∧ t = .string b ∧ bs b = nlT (Y.take j) ∧ wr.ownsRow W2.heap.size 3 1 at' j (atsC Y j) ∧ Below W2.heap.size W2 wr) (fun _ _ i _ => n - (intOf i).toNat)
  case atStart => exact ⟨0, ⟨#[]⟩, by omega, rfl, rfl, rfl, World.ownsRow_nil _ _ _ _, Below.refl _ _⟩
  case round =>
    obtain ⟨j, b, hj, rfl, rfl, hbs, hown, hbw⟩ := hrel
    by_cases hjn : j < n
    · have t2 : decide ((j : Int) < n) = true := by simp; omega
      obtain ⟨t, ht⟩ : ∃ t, Y[j]? = some t := ⟨_, List.getElem?_eq_getElem (by rw [HN.out.1]; exact hjn)⟩
      have hT := HTA.out.below hbw
      obtain ⟨-, a1, -, -⟩ := hT.2 j t ht
      have hstep := nlT_take ht
      have hsub : (nlT (Y.take (j + 1))).length ≤ 6001 := by
        have h1 : (nlT (Y.take (j + 1))).length ≤ (nlT Y).length := by
          conv => rhs; rw [← List.take_append_drop (j + 1) Y, nlT_app, List.length_append]
          omega
        exact Nat.le_trans h1 HNL.out
      have hbl : (bs b).length = b.size := bs_size b
      obtain ⟨tx, htx⟩ : ∃ x, x = strB t.text := ⟨_, rfl⟩
      have hxl : tx.size = t.text.length := by rw [htx]; exact strB_size _
      rw [← htx] at a1
      have HTJ := Lib.hid ht
      have HTX := Lib.hid htx.symm
      have hb1s : (b ++ ⟨#[10]⟩ : ByteArray).size = b.size + 1 := by simp; rfl
      rw [hstep, List.length_append, List.length_cons, ← hbs, hbl, ← hxl] at hsub
      have z1 : ¬ 9223372036854775807 < b.size + 1 := by omega
      have z2 : ¬ 9223372036854775807 < (b ++ ⟨#[10]⟩ : ByteArray).size + tx.size := by omega
      have z3 : ¬ 9223372036854775807 < b.size + 1 + tx.size := by omega
      have hnew : bs (b ++ ⟨#[10]⟩ ++ tx) = nlT (Y.take (j + 1)) := by
        rw [hstep, ← hbs, htx]
        simp [bs, strB]
      have hat : atsC Y (j + 1) = atsC Y j ++ [.int .i64 ((b.size : Int) + 1)] := by
        rw [atsC_succ, ← hbs, hbl]; rfl
      have HNEW := Lib.hid hnew
      have HAT := Lib.hid hat
      have hsz := hbw.size
      obtain ⟨hi3, hz3, hs3, hb3⟩ := HI.out
      have hj0 : (0 : Int) ≤ j := by omega
      have hj1 : (j : Int) < n := by omega
      have hjb : j ≤ 3001 := by have := HN.out.2.2; omega
      clear hT hstep hsub hbl htx hxl hnew hat hbs ht
      go_wp2_with (at_builtin; refine wpList_append_own _ rfl (.tmp 41) (.tmp 44) 37 rfl W2.heap.size 3 i3 _ 1 8 Tryz.underlying37 hi3 hz3 hs3 hb3 rfl (by decide) u8 j _ rfl (hown.alloc _) ⟨wr.heap.size, 0, none⟩ 1 1 [.int .i64 ((b.size : Int) + 1)] rfl rfl ?c1 ?c2 ?c3 ?c4 ?c5 ?_)
      case c1 => exact new_cells wr [.int .i64 ((b.size : Int) + 1)] 3 _ rfl
      case c2 => intro u hu; simp at hu; rcases hu with rfl; rfl
      case c3 => unfold maxLen; omega
      case c4 => omega
      case c5 => simp; omega
      intro v' w' hown' hgrow _
      have hb' : Below W2.heap.size W2 w' := (hbw.alloc hsz _).grown hgrow (by simp; omega) fun j hj => (hown.lt j hj).1
      have hown2 : w'.ownsRow W2.heap.size 3 1 v' (j + 1) (atsC Y (j + 1)) := by
        rw [HAT.out]
        exact hown'
      obtain ⟨-, a1', -, -⟩ := (HTA.out.below hb').2 j t HTJ.out
      rw [HTX.out] at a1'
      clear hown' hgrow hown hbw
      go_wp2
      go_roundw
      case rel => exact ⟨j + 1, _, by omega, by go_num, rfl, HNEW.out, hown2, hb'⟩
      case measure => simp [intOf]; omega
    · have t2 : decide ((j : Int) < n) = false := by simp; omega
      obtain rfl : j = n := by omega
      rw [show Y.take j = Y by rw [← HN.out.1]; exact List.take_length] at hbs
      have hpl := HPL.out b hbs
      cases hp : parseR s with
      | ok x r =>
        rw [hp] at hpl
        cases hq : parseR b with
        | no f q => rw [hq] at hpl; exact hpl.elim
        | ok y r2 =>
          rw [hq] at hpl
          have HE := Lib.hid hpl
          have HP := Lib.hid hp
          have HQ := Lib.hid hq
          obtain ⟨W3, hW3⟩ : ∃ W, W = wr := ⟨_, rfl⟩
          rw [← hW3] at hbw hown
          simp only [← hW3]
          have HB3 := Lib.hid (HB2.out.trans (hbw.mono HB2.out.size))
          have HK3 := Lib.hid hbw
          clear hpl hp hq hown hbw hbs hjn hW3
          go_upto_region 18 with
            (first
              | (go_at_call 15; refine (parse_any s W3 (HV.out.b HB3.out)).mono ?_; rintro e0 W4 ⟨hb1, h1⟩; unfold ReadOut at h1; rw [HP.out] at h1; simp only at h1; obtain ⟨⟨y1, x1, y2, x2, y3, x3⟩, rfl, hxe, hxh⟩ := h1; simp only [soV]; have HB4 := Lib.hid (HB3.out.trans (hb1.mono HB3.out.size)); have HK4 := Lib.hid (HK3.out.trans (hb1.mono HK3.out.size)); have HXE3 := Lib.hid hxe; have HXH3 := Lib.hid (SoH.und 181 _ _ _ (eb_full _ _ _) hxh); have HBx3 := Lib.hid hb1; clear hb1 hxe hxh)
              | (refine wpList_store_box rfl 27 (.tmp 10) (.tmp 56) rfl W4.heap.size 0 rfl (.agg #[.slice y1.oa x1.length y1.cap, .slice y2.oa x2.length y2.cap, .slice y3.oa x3.length y3.cap]) rfl [.slice y1.oa x1.length y1.cap, .slice y2.oa x2.length y2.cap, .slice y3.oa x3.length y3.cap] rfl [.slice none 0 0, .slice none 0 0, .slice none 0 0] 27 (heap_alloc_new W4 (.cells #[.slice none 0 0, .slice none 0 0, .slice none 0 0] 27)) (Nat.le_refl _) (show (Tryz.prog.info? 27).map (·.size) = some 3 by kernel_rfl) ?c1 W4.heap.size (Nat.le_refl _) (W4.alloc (.cells #[.slice none 0 0, .slice none 0 0, .slice none 0 0] 27)) (Below.refl _ _) ?_; rotate_left; intro W5 hb hbx hoth))
          case c1 => first | exact ⟨rfl, rfl, rfl⟩ | (intro v hv; simp at hv; first | (rcases hv with rfl | rfl | rfl <;> rfl) | (subst hv; rfl))
          obtain ⟨N, hN⟩ : ∃ N, N = W4.heap.size := ⟨_, rfl⟩
          have hb5 : Below W4.heap.size W4 W5 := (alloc_below W4 (.cells #[.slice none 0 0, .slice none 0 0, .slice none 0 0] 27)).trans hb
          have HB5 := Lib.hid (HB4.out.trans (hb5.mono HB4.out.size))
          have HK5 := Lib.hid (HK4.out.trans (hb5.mono HK4.out.size))
          have HBx4 := Lib.hid hb5
          have hxp : W5.heap[N]? = some (.cells #[.slice y1.oa x1.length y1.cap, .slice y2.oa x2.length y2.cap, .slice y3.oa x3.length y3.cap] 27) := by rw [hN]; exact hbx
          have HX5 := Lib.hid hxp
          simp only [← hN]
          clear hb hbx hoth hb5 hxp hN
          go_upto_region 19 with
            (first
              | (go_at_call 15; refine (parse_any b W5 (HV.out.b HB5.out)).mono ?_; rintro e0 W6 ⟨hb1, h1⟩; unfold ReadOut at h1; rw [HQ.out] at h1; simp only at h1; obtain ⟨⟨u1, v1, u2, v2, u3, v3⟩, rfl, hxe, hxh⟩ := h1; simp only [soV]; have HB6 := Lib.hid (HB5.out.trans (hb1.mono HB5.out.size)); have HK6 := Lib.hid (HK5.out.trans (hb1.mono HK5.out.size)); have HXE5 := Lib.hid hxe; have HXH5 := Lib.hid (SoH.und 181 _ _ _ (eb_full _ _ _) hxh); have HBx5 := Lib.hid hb1; clear hb1 hxe hxh)
              | (refine wpList_store_box rfl 27 (.tmp 13) (.tmp 62) rfl W6.heap.size 0 rfl (.agg #[.slice u1.oa v1.length u1.cap, .slice u2.oa v2.length u2.cap, .slice u3.oa v3.length u3.cap]) rfl [.slice u1.oa v1.length u1.cap, .slice u2.oa v2.length u2.cap, .slice u3.oa v3.length u3.cap] rfl [.slice none 0 0, .slice none 0 0, .slice none 0 0] 27 (heap_alloc_new W6 (.cells #[.slice none 0 0, .slice none 0 0, .slice none 0 0] 27)) (Nat.le_refl _) (show (Tryz.prog.info? 27).map (·.size) = some 3 by kernel_rfl) ?c2 W6.heap.size (Nat.le_refl _) (W6.alloc (.cells #[.slice none 0 0, .slice none 0 0, .slice none 0 0] 27)) (Below.refl _ _) ?_; rotate_left; intro W7 hb hbx hoth))
          case c2 => first | exact ⟨rfl, rfl, rfl⟩ | (intro v hv; simp at hv; first | (rcases hv with rfl | rfl | rfl <;> rfl) | (subst hv; rfl))
          obtain ⟨M, hM⟩ : ∃ M, M = W6.heap.size := ⟨_, rfl⟩
          have hb7 : Below W6.heap.size W6 W7 := (alloc_below W6 (.cells #[.slice none 0 0, .slice none 0 0, .slice none 0 0] 27)).trans hb
          have HB7 := Lib.hid (HB6.out.trans (hb7.mono HB6.out.size))
          have HK7 := Lib.hid (HK6.out.trans (hb7.mono HK6.out.size))
          have HBx6 := Lib.hid hb7
          have hxq : W7.heap[M]? = some (.cells #[.slice u1.oa v1.length u1.cap, .slice u2.oa v2.length u2.cap, .slice u3.oa v3.length u3.cap] 27) := by rw [hM]; exact hbx
          have hxn : W7.heap[N]? = some (.cells #[.slice y1.oa x1.length y1.cap, .slice y2.oa x2.length y2.cap, .slice y3.oa x3.length y3.cap] 27) := ((HBx5.out.trans (hb7.mono HBx5.out.size)).block N (blk_lt HX5.out)).trans HX5.out
          simp only [← hM]
          clear hb hbx hoth hb7 hM
          have hs1 := SoH.below HXH3.out (HBx4.out.trans ((HBx5.out.trans (HBx6.out.mono HBx5.out.size)).mono HBx4.out.size))
          have hs2 := SoH.below HXH5.out HBx6.out
          have hse : soEq ⟨y1, x1, y2, x2, y3, x3⟩ ⟨u1, v1, u2, v2, u3, v3⟩ = true := so_er (by rw [HXE3.out, HXE5.out]; exact HE.out)
          have HSC := Lib.hid (show Calls Tryz.prog 19 #[.agg #[.slice y1.oa x1.length y1.cap, .slice y2.oa x2.length y2.cap, .slice y3.oa x3.length y3.cap], .agg #[.slice u1.oa v1.length u1.cap, .slice u2.oa v2.length u2.cap, .slice u3.oa v3.length u3.cap]] W7 fun e w' => e = .returned (.bool true) ∧ Below W7.heap.size W7 w' from by
            have h := same_any 181 _ _ W7 hs1 hs2
            rw [hse] at h
            exact h)
          obtain ⟨p0, p1, p2, pf, pl⟩ := cells3p hxn
          obtain ⟨q0, q1, q2, qf, ql⟩ := cells3p hxq
          clear hs1 hs2 hse hxn hxq
          go_wp2_with (go_at_call 19; refine HSC.out.mono ?_; rintro e8 W8 ⟨rfl, hb8⟩; have HB8 := Lib.hid (HB7.out.trans (hb8.mono HB7.out.size)); clear hb8)
          go_ret
          exact ⟨rfl, HB8.out⟩
      | no e p =>
        rw [hp] at hpl
        cases hq : parseR b with
        | ok y r2 => rw [hq] at hpl; exact hpl.elim
        | no f q =>
          rw [hq] at hpl
          obtain ⟨hef, i, hi, hpi, hqi⟩ := hpl
          subst hef
          rw [← HY.out] at hpi hqi
          replace hi : i < j := by have := HN.out.2.1; omega
          have hne : (e == 0) = false := by simpa using parse_nz hp
          have HP := Lib.hid hp
          have HQ := Lib.hid hq
          obtain ⟨W3, hW3⟩ : ∃ W, W = wr := ⟨_, rfl⟩
          rw [← hW3] at hbw hown
          simp only [← hW3]
          have HB3 := Lib.hid (HB2.out.trans (hbw.mono HB2.out.size))
          have HK3 := Lib.hid hbw
          obtain ⟨g2, cap2, hat2, hg2, hgl2⟩ := hown.form (by omega)
          subst hat2
          have HOW := Lib.hid (show ∀ V, Below W3.heap.size W3 V → ∀ (k : Nat) (u : Value), (atsC Y j)[k]? = some u → V.cell? ⟨g2, k, none⟩ = some u from fun V hV k u hu => by
            have h1 := hown.cellAt k (by have := (List.getElem?_eq_some_iff.1 hu).1; rw [atsC_len] at this; omega)
            exact (hV.cell (p := ⟨g2, k, none⟩) hgl2).trans (h1.trans hu))
          have HI := Lib.hid (And.intro hi (And.intro hpi hqi))
          clear hp hq hown hbw hbs hjn hW3 hg2 hgl2 hpi hqi
          go_upto_region 18 with
            (first
              | (go_at_call 15; refine (parse_any s W3 (HV.out.b HB3.out)).mono ?_; rintro e0 W4 ⟨hb1, h1⟩; unfold ReadOut at h1; rw [HP.out] at h1; simp only at h1; subst h1; have HB4 := Lib.hid (HB3.out.trans (hb1.mono HB3.out.size)); have HK4 := Lib.hid (HK3.out.trans (hb1.mono HK3.out.size)); have HBx3 := Lib.hid hb1; clear hb1)
              | (refine wpList_store_box rfl 27 (.tmp 10) (.tmp 56) rfl W4.heap.size 0 rfl (.agg #[.slice none 0 0, .slice none 0 0, .slice none 0 0]) rfl [.slice none 0 0, .slice none 0 0, .slice none 0 0] rfl [.slice none 0 0, .slice none 0 0, .slice none 0 0] 27 (heap_alloc_new W4 (.cells #[.slice none 0 0, .slice none 0 0, .slice none 0 0] 27)) (Nat.le_refl _) (show (Tryz.prog.info? 27).map (·.size) = some 3 by kernel_rfl) ?c1 W4.heap.size (Nat.le_refl _) (W4.alloc (.cells #[.slice none 0 0, .slice none 0 0, .slice none 0 0] 27)) (Below.refl _ _) ?_; rotate_left; intro W5 hb hbx hoth))
          case c1 => first | exact ⟨rfl, rfl, rfl⟩ | (intro v hv; simp at hv; first | (rcases hv with rfl | rfl | rfl <;> rfl) | (subst hv; rfl))
          obtain ⟨N, hN⟩ : ∃ N, N = W4.heap.size := ⟨_, rfl⟩
          have hb5 : Below W4.heap.size W4 W5 := (alloc_below W4 (.cells #[.slice none 0 0, .slice none 0 0, .slice none 0 0] 27)).trans hb
          have HB5 := Lib.hid (HB4.out.trans (hb5.mono HB4.out.size))
          have HK5 := Lib.hid (HK4.out.trans (hb5.mono HK4.out.size))
          have HBx4 := Lib.hid hb5
          have hxp : W5.heap[N]? = some (.cells #[.slice none 0 0, .slice none 0 0, .slice none 0 0] 27) := by rw [hN]; exact hbx
          have HX5 := Lib.hid hxp
          simp only [← hN]
          clear hb hbx hoth hb5 hxp hN
          go_upto_region 19 with
            (first
              | (go_at_call 15; refine (parse_any b W5 (HV.out.b HB5.out)).mono ?_; rintro e0 W6 ⟨hb1, h1⟩; unfold ReadOut at h1; rw [HQ.out] at h1; simp only at h1; subst h1; have HB6 := Lib.hid (HB5.out.trans (hb1.mono HB5.out.size)); have HK6 := Lib.hid (HK5.out.trans (hb1.mono HK5.out.size)); have HBx5 := Lib.hid hb1; clear hb1)
              | (refine wpList_store_box rfl 27 (.tmp 13) (.tmp 62) rfl W6.heap.size 0 rfl (.agg #[.slice none 0 0, .slice none 0 0, .slice none 0 0]) rfl [.slice none 0 0, .slice none 0 0, .slice none 0 0] rfl [.slice none 0 0, .slice none 0 0, .slice none 0 0] 27 (heap_alloc_new W6 (.cells #[.slice none 0 0, .slice none 0 0, .slice none 0 0] 27)) (Nat.le_refl _) (show (Tryz.prog.info? 27).map (·.size) = some 3 by kernel_rfl) ?c2 W6.heap.size (Nat.le_refl _) (W6.alloc (.cells #[.slice none 0 0, .slice none 0 0, .slice none 0 0] 27)) (Below.refl _ _) ?_; rotate_left; intro W7 hb hbx hoth))
          case c2 => first | exact ⟨rfl, rfl, rfl⟩ | (intro v hv; simp at hv; first | (rcases hv with rfl | rfl | rfl <;> rfl) | (subst hv; rfl))
          obtain ⟨M, hM⟩ : ∃ M, M = W6.heap.size := ⟨_, rfl⟩
          have hb7 : Below W6.heap.size W6 W7 := (alloc_below W6 (.cells #[.slice none 0 0, .slice none 0 0, .slice none 0 0] 27)).trans hb
          have HB7 := Lib.hid (HB6.out.trans (hb7.mono HB6.out.size))
          have HK7 := Lib.hid (HK6.out.trans (hb7.mono HK6.out.size))
          have HBx6 := Lib.hid hb7
          have hxq : W7.heap[M]? = some (.cells #[.slice none 0 0, .slice none 0 0, .slice none 0 0] 27) := by rw [hM]; exact hbx
          have hxn : W7.heap[N]? = some (.cells #[.slice none 0 0, .slice none 0 0, .slice none 0 0] 27) := ((HBx5.out.trans (hb7.mono HBx5.out.size)).block N (blk_lt HX5.out)).trans HX5.out
          simp only [← hM]
          clear hb hbx hoth hb7 hM
          have HJ7 := Lib.hid (HBx3.out.trans ((HBx4.out.trans ((HBx5.out.trans (HBx6.out.mono HBx5.out.size)).mono HBx4.out.size)).mono HBx3.out.size))
          clear hxn hxq
          go_wp2_with fail
          go_loopw [16] (fun u wr => ∃ (k m : Nat), k ≤ i ∧ u = .int .i64 k ∧ wr = W7.drewN m) (fun u _ => i + 1 - (intOf u).toNat)
          case atStart => exact ⟨0, 0, Nat.zero_le _, rfl, rfl⟩
          case round =>
            obtain ⟨k, m0, hk, rfl, hw⟩ := hrel
            obtain ⟨W, hWW⟩ : ∃ W, W = wr := ⟨_, rfl⟩
            rw [← hWW]
            have hbW : Below W7.heap.size W7 W := by rw [hWW, hw]; exact dn_below _ _
            have HW := Lib.hid hbW
            have HDW := Lib.hid (show ∃ m, W = W7.drewN m from ⟨m0, by rw [hWW, hw]⟩)
            have hij : i < j := HI.out.1
            have t2 : decide ((k : Int) < j) = true := by simp; omega
            obtain ⟨t, ht⟩ : ∃ t, Y[k]? = some t := ⟨_, List.getElem?_eq_getElem (by rw [HN.out.1]; omega)⟩
            obtain ⟨-, -, -, a3⟩ := (HTA.out.below (HK7.out.trans (hbW.mono HK7.out.size))).2 k t ht
            have a4 := HOW.out W (HJ7.out.trans (hbW.mono HJ7.out.size)) k _ (atsC_get (by omega))
            obtain ⟨X, hX⟩ : ∃ X, X = (nlT (Y.take k)).length + 1 := ⟨_, rfl⟩
            rw [← hX] at a4
            have hj0 : (0 : Int) ≤ k := by omega
            have hj1 : (k : Int) < j := by omega
            have hjb : j ≤ 3001 := HN.out.2.2
            have hend : ¬ (t.pos = p ∧ X = q) → k < i := fun hn => by
              rcases Nat.lt_or_ge k i with h | h
              · exact h
              · obtain rfl : k = i := by omega
                refine absurd ⟨?_, hX.trans HI.out.2.2.symm⟩ hn
                rw [HI.out.2.1, hd_drop ht]
            have HE := Lib.hid hend
            clear hWW hw hbW ht hX hend
            by_cases e1 : t.pos = p
            · rw [e1] at a3
              by_cases e2 : X = q
              · rw [e2] at a4
                clear HE
                go_wp2
                go_ret
                exact ⟨rfl, HB7.out.trans (HW.out.mono HB7.out.size)⟩
              · have hki : k < i := HE.out fun h => e2 h.2
                have e2' : ((X : Int) == (q : Int)) = false := by simp; omega
                have e2'' : decide ((X : Int) = (q : Int)) = false := by simp; omega
                have e4' : ((k : Int) + 1 == (j : Int)) = false := by simp; omega
                clear HE
                go_wp2
                go_roundw
                case rel =>
                  obtain ⟨m1, h1⟩ := HDW.out
                  first
                    | exact ⟨k + 1, m1, by omega, by go_num, by exact h1⟩
                    | (refine ⟨_, _, _, _, _, _, _, _, _, _, _, _, _, _, _, _, _, _, _, _, _, _, _, _, _, _, _, _, _, _, _, _, _, _, _, _, _, ?_, rfl⟩; exact ⟨k + 1, m1, by omega, by go_num, by exact h1⟩)
                case measure => simp [intOf]; omega
            · have hki : k < i := HE.out fun h => e1 h.1
              have e1' : ((t.pos : Int) == (p : Int)) = false := by simp; omega
              have e1'' : decide ((t.pos : Int) = (p : Int)) = false := by simp; omega
              clear HE
              go_wp2
              go_roundw
              case rel =>
                obtain ⟨m1, h1⟩ := HDW.out
                first
                  | exact ⟨k + 1, m1, by omega, by go_num, by exact h1⟩
                  | (refine ⟨_, _, _, _, _, _, _, _, _, _, _, _, _, _, _, _, _, _, _, _, _, _, _, _, _, _, _, _, _, _, _, _, _, _, _, _, _, ?_, rfl⟩; exact ⟨k + 1, m1, by omega, by go_num, by exact h1⟩)
              case measure => simp [intOf]; omega
theorem blanks_walk (s : ByteArray) (w : World) (hV : Vars w) : Calls Tryz.prog 5 #[.string s] w fun e w' => e = .returned (.bool true) ∧ Below w.heap.size w w' := by
  by_cases hs : s.size ≤ 3000
  · cases hl : lexL (bs s) with
    | bad er q => exact blanks_bad s w hV hs hl
    | good ts => exact blanks_main s w hV hs hl
  · exact blanks_long s w hV hs
end Go.Proofs.YtggdpgaedmegbaaGreatDoor
