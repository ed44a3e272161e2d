/-
  The document's own Lex. No conditions.
-/
import Derived.Test.YthhkndnmeafanaaDoorLRefG
import Derived.Test.YthhkndnmeafanaaDoorLLex
import Derived.Deep.Cut
namespace Go.Proofs.YthhkndnmeafanaaDoor
open Go.RowKit

theorem nameN_letter {c : UInt8} {r : List UInt8} (h : letterB c = true) : nameN (c :: r) = spanN nameB r + 1 := by simp [nameN, h]
theorem nameN_not {c : UInt8} {r : List UInt8} (h : letterB c = false) : nameN (c :: r) = 0 := by simp [nameN, h]

/-- How a round that stands at a token ends. -/
theorem lexT_step {p : Nat} {l : List UInt8} {k : Int} {m n : Nat} {ts : List Tok} {R : Res} (h0 : passN false l = 0) (ht : tokR l = .tok k m n) (hR : (lexT p l).pre ts = R) : (lexT (p + m) (l.drop m)).pre (ts ++ [⟨k, l.take m, n, p⟩]) = R := by
  rw [← hR, lexT_tok p l h0, lexQ_tok ht, Res.pre_pre]

theorem lexT_fail {p : Nat} {l : List UInt8} {e : Int} {ts : List Tok} {R : Res} (h0 : passN false l = 0) (hl : l ≠ []) (ht : tokR l = .err e) (hR : (lexT p l).pre ts = R) : R = .bad e p := by
  rw [← hR, lexT_tok p l h0, lexQ_err hl ht]
  rfl

theorem signN_slash (r : List UInt8) : signN (47 :: r) = 0 := by
  have h1 : (47 :: r).take 2 ∉ longL := by
    cases r with
    | nil => decide
    | cons d t => simp [longL]
  unfold signN
  rw [if_neg h1]
  exact if_neg (by decide)

set_option maxRecDepth 100000 in
set_option maxHeartbeats 16000000 in
theorem rlex_any (s : ByteArray) (w : World) : Calls Tryd.prog 11 #[.string s] w fun e w' => LexOut w.heap.size s e w' ∧ Below w.heap.size w w' := by
  by_cases hs : s.size ≤ 65536
  · have t0 : decide ((s.size : Int) > 65536) = false := by simp; omega
    have hL := Lib.hid (show lexL (bs s) = lexT 0 (bs s) by rw [lexL, if_pos (by rw [bs_len]; exact hs)])
    obtain ⟨i31, hi31, hz31, hs31, hb31⟩ := info_parts info31
    have HI := Lib.hid (And.intro hi31 (And.intro hz31 (And.intro hs31 hb31)))
    clear hi31 hz31 hs31 hb31
    go_enter Tryd.func11, Tryd.ntmps11
    go_wp2_with fail
    go_loopw [5, 6] (fun v i wr => ∃ (j : Nat) (ts : List Tok), j ≤ s.size ∧ i = .int .i64 j ∧ wr.ownsRow w.heap.size 31 4 v ts.length (toksC ts) ∧ Below w.heap.size w wr ∧ (lexT j ((bs s).drop j)).pre ts = lexT 0 (bs s) ∧ ts.length ≤ j) (fun _ i _ => s.size - (intOf i).toNat)
    case atStart => exact ⟨0, [], by omega, rfl, World.ownsRow_nil _ _ _ _, Below.refl _ _, by rw [Res.pre_nil, List.drop_zero], by simp⟩
    case round =>
      obtain ⟨j, ts, hj, rfl, hown, hb, hrel, hlen⟩ := hrel
      obtain ⟨og, g, cap, rfl, hog⟩ := row_shape hown
      have HREL := Lib.hid hrel
      have HOWN := Lib.hid hown
      have HB := Lib.hid hb
      have hbs := hb.size
      clear hog
      by_cases hjl : j < s.size
      · have t1 : decide ((j : Int) < s.size) = true := by simp; omega
        obtain ⟨c, r, h1, h2, h3⟩ := byte_at s j hjl
        have hi := run_byte s j c hjl h3
        have H1 := Lib.hid h1
        have H2 := Lib.hid h2
        clear h1 h2 h3 hrel hown hb
        cases hbl : blankB c with
        | true =>
          have hnx := Lib.hid (show (lexT (j + 1) ((bs s).drop (j + 1))).pre ts = lexT 0 (bs s) by rw [← HREL.out, H1.out, lexT_blank j c r hbl, H2.out])
          have hcc : c.toNat = 32 ∨ c.toNat = 9 ∨ c.toNat = 10 := by simpa [blankB, or_assoc] using hbl
          clear hbl
          rcases hcc with hcc | hcc | hcc
          all_goals
            rw [hcc] at hi
            go_wp2_with fail
            go_roundw
            case rel => exact ⟨j + 1, ts, by omega, by go_num, HOWN.out, HB.out, hnx.out, by omega⟩
            case measure => simp [intOf]; omega
        | false =>
          have hnb : c.toNat ≠ 32 ∧ c.toNat ≠ 9 ∧ c.toNat ≠ 10 := by
            simp only [blankB, Bool.or_eq_false_iff, decide_eq_false_iff_not] at hbl
            exact ⟨hbl.1.1, hbl.1.2, hbl.2⟩
          have k1 : ((c.toNat : Int) == 32) = false := by rw [beq_eq_false_iff_ne]; omega
          have k2 : ((c.toNat : Int) == 9) = false := by rw [beq_eq_false_iff_ne]; omega
          have k3 : ((c.toNat : Int) == 10) = false := by rw [beq_eq_false_iff_ne]; omega
          have hname := rname_any s hs j hj
          rw [H1.out] at hname
          have hdl : r.length + 1 = s.size - j := by rw [← bs_len, ← List.length_drop, H1.out]; rfl
          have HBLN := Lib.hid hbl
          have HRC := Lib.hid (show (lexT j (c :: r)).pre ts = lexT 0 (bs s) by rw [← H1.out]; exact HREL.out)
          clear hbl hnb
          cases hlc : letterB c with
          | true =>
            have k4 : ((c.toNat : Int) == 47) = false := by
              simp only [letterB, Bool.or_eq_true, decide_eq_true_eq] at hlc
              rw [beq_eq_false_iff_ne]; omega
            have h0 : passN false (c :: r) = 0 := passN_zero HBLN.out (letter_not_slash hlc)
            rw [nameN_letter hlc] at hname
            obtain ⟨m, hm⟩ : ∃ m, m = spanN nameB r + 1 := ⟨_, rfl⟩
            have hsl := spanN_le nameB r
            rw [← hm] at hname
            have hmp : 0 < m := by omega
            have hmi : (m : Int) > 0 := by omega
            have hmd : j + m ≤ s.size := by omega
            replace hname := Lib.hid hname
            generalize (c.toNat : Int) = z at hi k1 k2 k3 k4
            by_cases h24 : m ≤ 24
            · have t2 : decide ((m : Int) > 24) = false := by rw [decide_eq_false_iff_not]; omega
              have t3 : ¬ 24 < m := by omega
              have htk : tokR (c :: r) = .tok 1 m 0 := by simp only [tokR, hlc, if_true, ← hm, h24]
              have hR2 := Lib.hid (lexT_step h0 htk HRC.out)
              rw [← H1.out, List.drop_drop] at hR2
              have hx : s.extract j (j + m) = strB (((bs s).drop j).take m) := by rw [extract_strB, Nat.add_sub_cancel_left]
              obtain ⟨tx, htx⟩ : ∃ tx, tx = ((bs s).drop j).take m := ⟨_, rfl⟩
              rw [← htx] at hR2 hx
              have hjm := hmd
              clear hlc h0 htk hm htx hsl h24
              go_upto_region 16 with (go_at_call 21; refine (hname.out _).mono ?_; rintro e w1 ⟨rfl, rfl⟩)
              obtain ⟨hi31, hz31, hs31, hb31⟩ := HI.out
              have hWs := HB.out.size
              go_wp2_with (at_builtin; refine wpList_append_own _ rfl (.tmp 70) (.tmp 79) 23 rfl w.heap.size 31 i31 _ 4 40 Tryd.underlying23 hi31 hz31 hs31 hb31 rfl (by decide) (.slice og ts.length cap) ts.length _ rfl (row_below (alloc_below _ _) HOWN.out) ⟨w1.heap.size, 0, none⟩ 1 1 (tokC ⟨1, tx, 0, j⟩) rfl rfl ?c1 ?c2 ?c3 ?c4 ?c5 ?_)
              case c1 => first | exact new_cells w1 (tokC ⟨1, tx, 0, j⟩) 31 _ rfl | exact fun _ _ h => h
              case c2 => exact tok_cells _
              case c3 => unfold maxLen; omega
              case c4 => omega
              case c5 => first | omega | (simp; omega)
              intro v' w4 hown4 hgrow _
              have hb4 : Below w.heap.size w w4 := (HB.out.alloc hWs _).grown hgrow (by simp; omega) fun q hq => (HOWN.out.lt q hq).1
              rw [← toksC_snoc] at hown4
              have HO4 := Lib.hid hown4
              have HB4 := Lib.hid hb4
              clear hown4 hb4 hgrow hi31 hz31 hs31 hb31
              go_wp2_with fail
              go_roundw
              case rel =>
                refine ⟨j + m, ts ++ [_], hjm, by go_num, ?_, HB4.out, hR2.out, by simp; omega⟩
                rw [List.length_append, List.length_singleton]
                exact HO4.out
              case measure => simp [intOf]; omega
            · have t2 : decide ((m : Int) > 24) = true := by rw [decide_eq_true_eq]; omega
              have t3 : 24 < m := by omega
              have htk : tokR (c :: r) = .err 42 := by simp only [tokR, hlc, if_true, ← hm, h24, if_false]
              have hq := Lib.hid (lexT_fail h0 (by simp) htk HRC.out)
              replace hq := Lib.hid (hL.out.trans hq.out)
              clear hlc h0 htk hm hsl h24
              go_wp2_with (go_at_call 21; refine (hname.out _).mono ?_; rintro e w1 ⟨rfl, rfl⟩)
              go_returns
              exact ⟨show LexOut _ s (.returned (.tuple #[.slice none 0 0, .int .i64 42, .int .i64 j])) _ from by rw [LexOut, hq.out], HB.out⟩
          | false =>
            rw [nameN_not hlc] at hname
            replace hname := Lib.hid hname
            have hdg := Lib.hid (rdigit_any c)
            cases hdc : digitB c with
            | true =>
              have k4 : ((c.toNat : Int) == 47) = false := by
                simp only [digitB, decide_eq_true_eq] at hdc
                rw [beq_eq_false_iff_ne]; omega
              have h0 : passN false (c :: r) = 0 := passN_zero HBLN.out (digit_not_slash hdc)
              obtain ⟨m, hm⟩ : ∃ m, m = spanN digitB ((bs s).drop j) := ⟨_, rfl⟩
              have hm1 : 1 ≤ m := by rw [hm, H1.out]; exact Nat.succ_le_of_lt (by simp [spanN, hdc])
              have hml : j + m ≤ s.size := by
                have := spanN_le digitB ((bs s).drop j)
                rw [List.length_drop, bs_len, ← hm] at this
                omega
              have hall := spanN_take (f := digitB) ((bs s).drop j)
              rw [← hm] at hall
              have hx : s.extract j (j + m) = strB (((bs s).drop j).take m) := by rw [extract_strB, Nat.add_sub_cancel_left]
              obtain ⟨tx, htx⟩ : ∃ tx, tx = ((bs s).drop j).take m := ⟨_, rfl⟩
              have htk0 : tokR (c :: r) = if numV tx < 9223372036854775808 then .tok 2 m (numV tx) else .err 41 := by
                rw [htx, hm, H1.out]
                simp only [tokR, hlc, hdc, if_true, Bool.false_eq_true, if_false]
              rw [← htx] at hall hx
              have htl : tx.length = m := by rw [htx, List.length_take, List.length_drop, bs_len]; omega
              have hnum := rnumber_any (strB tx) (by rw [strB_size]; omega) (by rw [strB_bs]; exact hall)
              rw [strB_bs] at hnum
              have hspan := Lib.hid hm
              have HTX := Lib.hid htx
              have hjm : j + m ≤ s.size := hml
              clear hall hm htx hlc hdc htl
              generalize (c.toNat : Int) = z at hi k1 k2 k3 k4 hdg
              go_upto_region 18 with (go_at_call 21; refine (hname.out _).mono ?_; rintro e w1 ⟨rfl, rfl⟩)
              go_wp2_with fail
              obtain ⟨wo, hwo⟩ : ∃ wo, wo = w1 := ⟨_, rfl⟩
              subst hwo
              go_loopw [8] (fun u wy => ∃ k : Nat, j + k ≤ s.size ∧ u = .int .i64 k ∧ k + spanN digitB ((bs s).drop (j + k)) = m ∧ wy = wo) (fun u _ => s.size - (intOf u).toNat)
              case atStart => exact ⟨0, by omega, rfl, by rw [hspan.out, Nat.add_zero, Nat.zero_add], rfl⟩
              case round =>
                obtain ⟨k, hk, rfl, hks, rfl⟩ := hrel
                have HKS := Lib.hid hks
                clear hks hi
                by_cases hkl : j + k < s.size
                · have t5 : decide ((j : Int) + k < s.size) = true := by rw [decide_eq_true_eq]; omega
                  obtain ⟨c2, r2, e1, e2, e3⟩ := byte_at s (j + k) hkl
                  have hi2 := run_byte s (j + k) c2 hkl e3
                  rw [show ((j + k : Nat) : Int) = (j : Int) + k by omega] at hi2
                  have hdg2 := rdigit_any c2
                  cases hd2 : digitB c2 with
                  | true =>
                    rw [hd2] at hdg2
                    replace hdg2 := Lib.hid hdg2
                    have hnx := Lib.hid (show k + 1 + spanN digitB ((bs s).drop (j + (k + 1))) = m by
                      have h5 := HKS.out
                      rw [e1] at h5
                      simp only [spanN, hd2, if_true] at h5
                      rw [show j + (k + 1) = j + k + 1 by omega, ← e2]
                      omega)
                    clear e1 e2 e3 hd2
                    go_wp2_with (go_at_call 22; refine (hdg2.out _).mono ?_; rintro e w5 ⟨rfl, rfl⟩)
                    go_roundw
                    case rel => exact ⟨k + 1, by omega, by go_num, hnx.out, by trivial⟩
                    case measure => simp [intOf]; omega
                  | false =>
                    rw [hd2] at hdg2
                    replace hdg2 := Lib.hid hdg2
                    have hkm : k = m := by
                      have h5 := HKS.out
                      rw [e1] at h5
                      simp only [spanN, hd2, Bool.false_eq_true, if_false] at h5
                      omega
                    subst hkm
                    clear e1 e2 e3 hd2
                    have hkp : 0 < k := by omega
                    have hki : (k : Int) > 0 := by omega
                    by_cases hv : numV tx < 9223372036854775808
                    · have hno : Hid (∀ w, Calls Tryd.prog 23 #[.string (strB tx)] w fun e w' => e = .returned (.tuple #[.int .i64 (numV tx), .bool true]) ∧ w' = w) := Lib.hid fun w => by
                        have := hnum w
                        rw [numOut, if_pos hv] at this
                        exact this
                      rw [if_pos hv] at htk0
                      have hR2 := Lib.hid (lexT_step h0 htk0 HRC.out)
                      rw [← H1.out, List.drop_drop, ← HTX.out] at hR2
                      generalize hnn : numV tx = n at hR2 hno
                      clear hnum htk0 h0 hv hnn
                      go_upto_region 24 with (first
                        | (go_at_call 23; refine (hno.out _).mono ?_; rintro e w7 ⟨rfl, rfl⟩) | (go_at_call 22; refine (hdg2.out _).mono ?_; rintro e w5 ⟨rfl, rfl⟩))
                      obtain ⟨hi31, hz31, hs31, hb31⟩ := HI.out
                      have hWs := HB.out.size
                      go_wp2_with (at_builtin; refine wpList_append_own _ rfl (.tmp 115) (.tmp 125) 23 rfl w.heap.size 31 i31 _ 4 40 Tryd.underlying23 hi31 hz31 hs31 hb31 rfl (by decide) (.slice og ts.length cap) ts.length _ rfl (row_below (alloc_below _ _) HOWN.out) ⟨w7.heap.size, 0, none⟩ 1 1 (tokC ⟨2, tx, n, j⟩) rfl rfl ?d1 ?d2 ?d3 ?d4 ?d5 ?_)
                      case d1 => first | exact new_cells w7 (tokC ⟨2, tx, n, j⟩) 31 _ rfl | exact fun _ _ h => h
                      case d2 => exact tok_cells _
                      case d3 => unfold maxLen; omega
                      case d4 => omega
                      case d5 => first | omega | (simp; omega)
                      intro v' w4 hown4 hgrow _
                      have hb4 : Below w.heap.size w w4 := (HB.out.alloc hWs _).grown hgrow (by simp; omega) fun q hq => (HOWN.out.lt q hq).1
                      rw [← toksC_snoc] at hown4
                      have HO4 := Lib.hid hown4
                      have HB4 := Lib.hid hb4
                      clear hown4 hb4 hgrow hi31 hz31 hs31 hb31
                      go_wp2_with fail
                      go_roundw
                      case rel =>
                        refine ⟨j + k, ts ++ [_], hjm, by go_num, ?_, HB4.out, hR2.out, by simp; omega⟩
                        rw [List.length_append, List.length_singleton]
                        exact HO4.out
                      case measure => simp [intOf]; omega
                    · have hno : Hid (∀ w, Calls Tryd.prog 23 #[.string (strB tx)] w fun e w' => e = .returned (.tuple #[.int .i64 0, .bool false]) ∧ w' = w) := Lib.hid fun w => by
                        have := hnum w
                        rw [numOut, if_neg hv] at this
                        exact this
                      rw [if_neg hv] at htk0
                      have hq := Lib.hid (lexT_fail h0 (by simp) htk0 HRC.out)
                      replace hq := Lib.hid (hL.out.trans hq.out)
                      clear hnum htk0 h0 hv
                      go_wp2_with (first
                        | (go_at_call 23; refine (hno.out _).mono ?_; rintro e w7 ⟨rfl, rfl⟩) | (go_at_call 22; refine (hdg2.out _).mono ?_; rintro e w5 ⟨rfl, rfl⟩))
                      go_returns
                      exact ⟨show LexOut _ s (.returned (.tuple #[.slice none 0 0, .int .i64 41, .int .i64 j])) _ from by rw [LexOut, hq.out], HB.out⟩
                · have hkz : j + k = s.size := by omega
                  have t5 : decide ((j : Int) + k < s.size) = false := by rw [decide_eq_false_iff_not]; omega
                  have hkm : k = m := by
                    have h5 := HKS.out
                    rw [hkz, List.drop_eq_nil_of_le (by rw [bs_len]; omega)] at h5
                    simpa [spanN] using h5
                  subst hkm
                  clear hkz
                  have hkp : 0 < k := by omega
                  have hki : (k : Int) > 0 := by omega
                  by_cases hv : numV tx < 9223372036854775808
                  · have hno : Hid (∀ w, Calls Tryd.prog 23 #[.string (strB tx)] w fun e w' => e = .returned (.tuple #[.int .i64 (numV tx), .bool true]) ∧ w' = w) := Lib.hid fun w => by
                      have := hnum w
                      rw [numOut, if_pos hv] at this
                      exact this
                    rw [if_pos hv] at htk0
                    have hR2 := Lib.hid (lexT_step h0 htk0 HRC.out)
                    rw [← H1.out, List.drop_drop, ← HTX.out] at hR2
                    generalize hnn : numV tx = n at hR2 hno
                    clear hnum htk0 h0 hv hnn
                    go_upto_region 24 with (first
                      | (go_at_call 23; refine (hno.out _).mono ?_; rintro e w7 ⟨rfl, rfl⟩))
                    obtain ⟨hi31, hz31, hs31, hb31⟩ := HI.out
                    have hWs := HB.out.size
                    go_wp2_with (at_builtin; refine wpList_append_own _ rfl (.tmp 115) (.tmp 125) 23 rfl w.heap.size 31 i31 _ 4 40 Tryd.underlying23 hi31 hz31 hs31 hb31 rfl (by decide) (.slice og ts.length cap) ts.length _ rfl (row_below (alloc_below _ _) HOWN.out) ⟨w7.heap.size, 0, none⟩ 1 1 (tokC ⟨2, tx, n, j⟩) rfl rfl ?d1 ?d2 ?d3 ?d4 ?d5 ?_)
                    case d1 => first | exact new_cells w7 (tokC ⟨2, tx, n, j⟩) 31 _ rfl | exact fun _ _ h => h
                    case d2 => exact tok_cells _
                    case d3 => unfold maxLen; omega
                    case d4 => omega
                    case d5 => first | omega | (simp; omega)
                    intro v' w4 hown4 hgrow _
                    have hb4 : Below w.heap.size w w4 := (HB.out.alloc hWs _).grown hgrow (by simp; omega) fun q hq => (HOWN.out.lt q hq).1
                    rw [← toksC_snoc] at hown4
                    have HO4 := Lib.hid hown4
                    have HB4 := Lib.hid hb4
                    clear hown4 hb4 hgrow hi31 hz31 hs31 hb31
                    go_wp2_with fail
                    go_roundw
                    case rel =>
                      refine ⟨j + k, ts ++ [_], hjm, by go_num, ?_, HB4.out, hR2.out, by simp; omega⟩
                      rw [List.length_append, List.length_singleton]
                      exact HO4.out
                    case measure => simp [intOf]; omega
                  · have hno : Hid (∀ w, Calls Tryd.prog 23 #[.string (strB tx)] w fun e w' => e = .returned (.tuple #[.int .i64 0, .bool false]) ∧ w' = w) := Lib.hid fun w => by
                      have := hnum w
                      rw [numOut, if_neg hv] at this
                      exact this
                    rw [if_neg hv] at htk0
                    have hq := Lib.hid (lexT_fail h0 (by simp) htk0 HRC.out)
                    replace hq := Lib.hid (hL.out.trans hq.out)
                    clear hnum htk0 h0 hv
                    go_wp2_with (first
                      | (go_at_call 23; refine (hno.out _).mono ?_; rintro e w7 ⟨rfl, rfl⟩))
                    go_returns
                    exact ⟨show LexOut _ s (.returned (.tuple #[.slice none 0 0, .int .i64 41, .int .i64 j])) _ from by rw [LexOut, hq.out], HB.out⟩
            | false =>
              rw [hdc] at hdg
              have hsg := rsign_any s hs j hjl
              rw [H1.out] at hsg
              obtain ⟨m, hm⟩ : ∃ m, m = signN (c :: r) := ⟨_, rfl⟩
              have hml := signN_le (c :: r)
              rw [← hm] at hml hsg
              simp only [List.length_cons] at hml
              have hjm : j + m ≤ s.size := by omega
              have htk0 : tokR (c :: r) = if m = 0 then .err 40 else .tok 3 m 0 := by
                simp only [tokR, hlc, hdc, Bool.false_eq_true, if_false, ← hm]
              have hm47 : c.toNat = 47 → m = 0 := fun h47 => by
                have hc : c = 47 := UInt8.toNat_inj.1 h47
                rw [hm, hc]
                exact signN_slash r
              obtain ⟨tx, htx⟩ : ∃ tx, tx = (c :: r).take m := ⟨_, rfl⟩
              have htl : tx.length = m := by rw [htx, List.length_take, List.length_cons]; omega
              rw [← htx] at hsg
              have HTX := Lib.hid htx
              have hsz : (strB tx).size = m := by rw [strB_size, htl]
              have HTL := Lib.hid htl
              replace hsg := Lib.hid hsg
              clear htx htl hlc hdc hm hml
              by_cases h47 : c.toNat = 47
              · cases hsl : slashes (c :: r) with
                | true =>
                  have k4 : ((c.toNat : Int) == 47) = true := by rw [beq_iff_eq]; omega
                  obtain ⟨r', hr'⟩ := slashes_cons hsl
                  have hr1 : r = 47 :: r' := by cases hr'; rfl
                  have hlt : j + 1 < s.size := by rw [hr1, List.length_cons] at hdl; omega
                  have t6 : decide ((j : Int) + 1 < s.size) = true := by rw [decide_eq_true_eq]; omega
                  obtain ⟨d, r3, e1, e2, e3⟩ := byte_at s (j + 1) hlt
                  have hd47 : d = 47 := by rw [← H2.out, hr1] at e1; cases e1; rfl
                  have hi3 : ∀ W, (Instr.index 9 (.string s) (.int .i64 ((j : Int) + 1))).run Tryd.prog W = .ok (.int .u8 47) W := fun W => by
                    have := run_byte s (j + 1) d hlt e3 W
                    rw [hd47] at this
                    exact this
                  have hrm := Lib.hid (lexT_remark j (c :: r) hsl)
                  obtain ⟨n0, hn0⟩ : ∃ n0, n0 = spanN lineB ((bs s).drop j) := ⟨_, rfl⟩
                  have hn1 : 1 ≤ n0 := by
                    rw [hn0, H1.out, hr']
                    exact Nat.succ_le_of_lt (by simp [spanN, lineB])
                  have HN0 := Lib.hid hn0
                  have hnl : j + n0 ≤ s.size := by
                    have := spanN_le lineB ((bs s).drop j)
                    rw [List.length_drop, bs_len, ← hn0] at this
                    omega
                  clear e1 e2 e3 hd47 hr1 hr' hsl hm47 h47 htk0 hsz hn0
                  generalize (c.toNat : Int) = z at hi k1 k2 k3 k4 hdg
                  go_wp2_with fail
                  obtain ⟨wo, hwo⟩ : ∃ wo, wo = wr := ⟨_, rfl⟩
                  subst hwo
                  go_loopw [6] (fun u wy => ∃ k : Nat, k ≤ n0 ∧ u = .int .i64 ((j + k : Nat) : Int) ∧ k + spanN lineB ((bs s).drop (j + k)) = n0 ∧ wy = wo) (fun u _ => s.size - (intOf u).toNat)
                  case atStart => exact ⟨0, by omega, rfl, by rw [HN0.out, Nat.zero_add, Nat.add_zero], rfl⟩
                  case round =>
                    obtain ⟨k, hk, rfl, hks, rfl⟩ := hrel
                    have HKS := Lib.hid hks
                    clear hks hi hi3
                    obtain ⟨jk, hjk⟩ : ∃ jk, jk = j + k := ⟨_, rfl⟩
                    rw [← hjk] at HKS ⊢
                    have HJK := Lib.hid hjk
                    by_cases hkl : jk < s.size
                    · have t7 : decide ((jk : Int) < s.size) = true := by rw [decide_eq_true_eq]; omega
                      obtain ⟨c2, r2, f1, f2, f3⟩ := byte_at s jk hkl
                      have hi2 := run_byte s jk c2 hkl f3
                      cases hl2 : lineB c2 with
                      | true =>
                        have k7 : ((c2.toNat : Int) != 10) = true := by
                          simp only [lineB, Bool.not_eq_true', decide_eq_false_iff_not] at hl2
                          rw [bne_iff_ne]; omega
                        have hnx := Lib.hid (show k + 1 + spanN lineB ((bs s).drop (jk + 1)) = n0 by
                          have h5 := HKS.out
                          rw [f1] at h5
                          simp only [spanN, hl2, if_true] at h5
                          rw [← f2]
                          omega)
                        generalize (c2.toNat : Int) = z2 at hi2 k7
                        clear f1 f2 f3 hl2 hjk
                        go_wp2_with fail
                        go_roundw
                        case rel => exact ⟨k + 1, by have := hnx.out; omega, by rw [HJK.out]; go_num, by rw [show j + (k + 1) = jk + 1 by rw [HJK.out]; omega]; exact hnx.out, by trivial⟩
                        case measure => simp [intOf]; omega
                      | false =>
                        have k7 : ((c2.toNat : Int) != 10) = false := by
                          simp only [lineB, Bool.not_eq_false', decide_eq_true_eq] at hl2
                          rw [bne_eq_false_iff_eq]; omega
                        have hkn : k = n0 := by
                          have h5 := HKS.out
                          rw [f1] at h5
                          simp only [spanN, hl2, Bool.false_eq_true, if_false] at h5
                          omega
                        have hfin := Lib.hid (show (lexT jk ((bs s).drop jk)).pre ts = lexT 0 (bs s) by
                          rw [← HREL.out, H1.out, hrm.out, ← H1.out, ← HN0.out, List.drop_drop, HJK.out, hkn])
                        have hgr : j < jk := by omega
                        generalize (c2.toNat : Int) = z2 at hi2 k7
                        clear f1 f2 f3 hl2 hjk hkn
                        go_wp2_with fail
                        go_roundw
                        case rel => exact ⟨jk, ts, by omega, by go_num, HOWN.out, HB.out, hfin.out, by omega⟩
                        case measure => simp [intOf]; omega
                    · have t7 : decide ((jk : Int) < s.size) = false := by rw [decide_eq_false_iff_not]; omega
                      have hkn : k = n0 := by
                        have h5 := HKS.out
                        rw [List.drop_eq_nil_of_le (by rw [bs_len]; omega)] at h5
                        simpa [spanN] using h5
                      have hfin := Lib.hid (show (lexT jk ((bs s).drop jk)).pre ts = lexT 0 (bs s) by
                        rw [← HREL.out, H1.out, hrm.out, ← H1.out, ← HN0.out, List.drop_drop, HJK.out, hkn])
                      have hgr : j < jk := by omega
                      have hjs : jk ≤ s.size := by omega
                      clear hjk hkn
                      go_wp2_with fail
                      go_roundw
                      case rel => exact ⟨jk, ts, hjs, by go_num, HOWN.out, HB.out, hfin.out, by omega⟩
                      case measure => simp [intOf]; omega
                | false =>
                  have hm0 := hm47 h47
                  have h0 : passN false (c :: r) = 0 := passN_zero HBLN.out hsl
                  rw [if_pos hm0] at htk0
                  have hq := Lib.hid (lexT_fail h0 (by simp) htk0 HRC.out)
                  replace hq := Lib.hid (hL.out.trans hq.out)
                  have hte : tx = [] := List.length_eq_zero_iff.1 (by rw [HTL.out, hm0])
                  have k4 : ((c.toNat : Int) == 47) = true := by rw [beq_iff_eq]; omega
                  have hts : (strB tx).toList = [] := by rw [hte, Lib.toList_data]; exact strB_bs _
                  have hsl2 : j + 1 < s.size → ∃ d r3, r = d :: r3 ∧ d.toNat ≠ 47 ∧ ∀ W, (Instr.index 9 (.string s) (.int .i64 ((j : Int) + 1))).run Tryd.prog W = .ok (.int .u8 d.toNat) W := fun hlt => by
                    obtain ⟨d, r3, e1, e2, e3⟩ := byte_at s (j + 1) hlt
                    refine ⟨d, r3, by rw [H2.out, e1], fun hd47 => ?_, fun W => run_byte s (j + 1) d hlt e3 W⟩
                    rw [H2.out, e1, UInt8.toNat_inj.1 (show c.toNat = (47 : UInt8).toNat from h47), UInt8.toNat_inj.1 (show d.toNat = (47 : UInt8).toNat from hd47)] at hsl
                    simp [slashes] at hsl
                  clear htk0 h0 hsl hm47 h47
                  clear hsz hte hm0
                  by_cases hlt : j + 1 < s.size
                  · have t6 : decide ((j : Int) + 1 < s.size) = true := by rw [decide_eq_true_eq]; omega
                    obtain ⟨d, r3, -, hd47, hi3⟩ := hsl2 hlt
                    have k5 : ((d.toNat : Int) == 47) = false := by rw [beq_eq_false_iff_ne]; omega
                    clear hsl2 hd47
                    generalize (c.toNat : Int) = z at hi k1 k2 k3 k4 hdg
                    generalize (d.toNat : Int) = z2 at hi3 k5
                    go_upto_region 18 with (go_at_call 21; refine (hname.out _).mono ?_; rintro e w1 ⟨rfl, rfl⟩)
                    go_wp2_with fail
                    obtain ⟨wo, hwo⟩ : ∃ wo, wo = w1 := ⟨_, rfl⟩
                    subst hwo
                    go_loopw [8] (fun u wy => u = .int .i64 0 ∧ wy = wo) (fun _ _ => 0)
                    case atStart => exact ⟨rfl, rfl⟩
                    case round =>
                      obtain ⟨rfl, rfl⟩ := hrel
                      go_wp2_with (first
                        | (go_at_call 22; refine (hdg.out _).mono ?_; rintro e w5 ⟨rfl, rfl⟩)
                        | (go_at_call 24; refine (hsg.out _).mono ?_; rintro e w7 ⟨rfl, hb7⟩; have HB7 := Lib.hid (HB.out.trans (hb7.mono HB.out.size)); have HO7 := Lib.hid (row_below hb7 HOWN.out); clear hb7))
                      go_returns
                      exact ⟨show LexOut _ s (.returned (.tuple #[.slice none 0 0, .int .i64 40, .int .i64 j])) _ from by rw [LexOut, hq.out], HB7.out⟩
                  · have t6 : decide ((j : Int) + 1 < s.size) = false := by rw [decide_eq_false_iff_not]; omega
                    clear hsl2
                    generalize (c.toNat : Int) = z at hi k1 k2 k3 k4 hdg
                    go_upto_region 18 with (go_at_call 21; refine (hname.out _).mono ?_; rintro e w1 ⟨rfl, rfl⟩)
                    go_wp2_with fail
                    obtain ⟨wo, hwo⟩ : ∃ wo, wo = w1 := ⟨_, rfl⟩
                    subst hwo
                    go_loopw [8] (fun u wy => u = .int .i64 0 ∧ wy = wo) (fun _ _ => 0)
                    case atStart => exact ⟨rfl, rfl⟩
                    case round =>
                      obtain ⟨rfl, rfl⟩ := hrel
                      go_wp2_with (first
                        | (go_at_call 22; refine (hdg.out _).mono ?_; rintro e w5 ⟨rfl, rfl⟩)
                        | (go_at_call 24; refine (hsg.out _).mono ?_; rintro e w7 ⟨rfl, hb7⟩; have HB7 := Lib.hid (HB.out.trans (hb7.mono HB.out.size)); have HO7 := Lib.hid (row_below hb7 HOWN.out); clear hb7))
                      go_returns
                      exact ⟨show LexOut _ s (.returned (.tuple #[.slice none 0 0, .int .i64 40, .int .i64 j])) _ from by rw [LexOut, hq.out], HB7.out⟩
              · have k4 : ((c.toNat : Int) == 47) = false := by rw [beq_eq_false_iff_ne]; omega
                have hsl : slashes (c :: r) = false := by
                  cases h : slashes (c :: r) with
                  | false => rfl
                  | true =>
                    obtain ⟨r', hr⟩ := slashes_cons h
                    cases hr
                    exact absurd rfl h47
                have h0 : passN false (c :: r) = 0 := passN_zero HBLN.out hsl
                clear hm47 h47 hsl
                generalize (c.toNat : Int) = z at hi k1 k2 k3 k4 hdg
                by_cases hm0 : m = 0
                · rw [if_pos hm0] at htk0
                  have hq := Lib.hid (lexT_fail h0 (by simp) htk0 HRC.out)
                  replace hq := Lib.hid (hL.out.trans hq.out)
                  have hte : tx = [] := List.length_eq_zero_iff.1 (by rw [HTL.out, hm0])
                  have hts : (strB tx).toList = [] := by rw [hte, Lib.toList_data]; exact strB_bs _
                  clear htk0 h0 hsz hte hm0
                  go_upto_region 18 with (go_at_call 21; refine (hname.out _).mono ?_; rintro e w1 ⟨rfl, rfl⟩)
                  go_wp2_with fail
                  obtain ⟨wo, hwo⟩ : ∃ wo, wo = w1 := ⟨_, rfl⟩
                  subst hwo
                  go_loopw [8] (fun u wy => u = .int .i64 0 ∧ wy = wo) (fun _ _ => 0)
                  case atStart => exact ⟨rfl, rfl⟩
                  case round =>
                    obtain ⟨rfl, rfl⟩ := hrel
                    go_wp2_with (first
                      | (go_at_call 22; refine (hdg.out _).mono ?_; rintro e w5 ⟨rfl, rfl⟩)
                      | (go_at_call 24; refine (hsg.out _).mono ?_; rintro e w7 ⟨rfl, hb7⟩; have HB7 := Lib.hid (HB.out.trans (hb7.mono HB.out.size)); have HO7 := Lib.hid (row_below hb7 HOWN.out); clear hb7))
                    go_returns
                    exact ⟨show LexOut _ s (.returned (.tuple #[.slice none 0 0, .int .i64 40, .int .i64 j])) _ from by rw [LexOut, hq.out], HB7.out⟩
                · rw [if_neg hm0] at htk0
                  have hR2 := Lib.hid (lexT_step h0 htk0 HRC.out)
                  rw [← HTX.out, ← H1.out, List.drop_drop] at hR2
                  have hts : ¬ (strB tx).toList = [] := by
                    rw [Lib.toList_data, show (strB tx).data.toList = tx from strB_bs _]
                    intro h
                    have := HTL.out
                    rw [h] at this
                    simp at this
                    omega
                  have hts2 : (strB tx).toList.isEmpty = false := by simpa using hts
                  clear htk0 h0
                  go_upto_region 18 with (go_at_call 21; refine (hname.out _).mono ?_; rintro e w1 ⟨rfl, rfl⟩)
                  go_wp2_with fail
                  obtain ⟨wo, hwo⟩ : ∃ wo, wo = w1 := ⟨_, rfl⟩
                  subst hwo
                  go_loopw [8] (fun u wy => u = .int .i64 0 ∧ wy = wo) (fun _ _ => 0)
                  case atStart => exact ⟨rfl, rfl⟩
                  case round =>
                    obtain ⟨rfl, rfl⟩ := hrel
                    go_upto_region 29 with (first
                      | (go_at_call 22; refine (hdg.out _).mono ?_; rintro e w5 ⟨rfl, rfl⟩)
                      | (go_at_call 24; refine (hsg.out _).mono ?_; rintro e w7 ⟨rfl, hb7⟩; have HB7 := Lib.hid (HB.out.trans (hb7.mono HB.out.size)); have HO7 := Lib.hid (row_below hb7 HOWN.out); clear hb7))
                    obtain ⟨hi31, hz31, hs31, hb31⟩ := HI.out
                    have hWs := HB7.out.size
                    go_wp2_with (at_builtin; refine wpList_append_own _ rfl (.tmp 136) (.tmp 140) 23 rfl w.heap.size 31 i31 _ 4 40 Tryd.underlying23 hi31 hz31 hs31 hb31 rfl (by decide) (.slice og ts.length cap) ts.length _ rfl (row_below (alloc_below _ _) HO7.out) ⟨w7.heap.size, 0, none⟩ 1 1 (tokC ⟨3, tx, 0, j⟩) rfl rfl ?f1 ?f2 ?f3 ?f4 ?f5 ?_)
                    case f1 => first | exact new_cells w7 (tokC ⟨3, tx, 0, j⟩) 31 _ rfl | exact fun _ _ h => h
                    case f2 => exact tok_cells _
                    case f3 => unfold maxLen; omega
                    case f4 => omega
                    case f5 => first | omega | (simp; omega)
                    intro v' w4 hown4 hgrow _
                    have hb4 : Below w.heap.size w w4 := (HB7.out.alloc hWs _).grown hgrow (by simp; omega) fun q hq => (HO7.out.lt q hq).1
                    rw [← toksC_snoc] at hown4
                    have HO4 := Lib.hid hown4
                    have HB4 := Lib.hid hb4
                    clear hown4 hb4 hgrow hi31 hz31 hs31 hb31
                    go_wp2_with fail
                    go_roundw
                    case rel =>
                      refine ⟨j + m, ts ++ [_], hjm, by go_num, ?_, HB4.out, hR2.out, by simp; omega⟩
                      rw [List.length_append, List.length_singleton]
                      exact HO4.out
                    case measure => simp [intOf]; omega
      · have t1 : decide ((j : Int) < s.size) = false := by rw [decide_eq_false_iff_not]; omega
        obtain rfl : j = s.size := by omega
        have hq : Hid (lexL (bs s) = .good ts) := Lib.hid (by
          rw [hL.out, ← hrel, List.drop_eq_nil_of_le (by rw [bs_len]; omega)]
          simp [lexT, lexQ_nil, passN, Res.pre])
        obtain ⟨hi31, hz31, hs31, hb31⟩ := HI.out
        clear hrel
        go_wp2_with (at_builtin; refine wpList_append_own _ rfl (.tmp 146) (.tmp 150) 23 rfl w.heap.size 31 i31 _ 4 40 Tryd.underlying23 hi31 hz31 hs31 hb31 rfl (by decide) (.slice og ts.length cap) ts.length _ rfl (row_below (alloc_below _ _) hown) ⟨wr.heap.size, 0, none⟩ 1 1 (tokC (endTok s)) rfl rfl ?g1 ?g2 ?g3 ?g4 ?g5 ?_)
        case g1 => first | exact new_cells wr (tokC (endTok s)) 31 _ rfl | exact fun _ _ h => h
        case g2 => exact tok_cells _
        case g3 => unfold maxLen; omega
        case g4 => omega
        case g5 => first | omega | (simp; omega)
        intro v' w4 hown4 hgrow _
        have hb4 : Below w.heap.size w w4 := (hb.alloc hbs _).grown hgrow (by simp; omega) fun q hq => (hown.lt q hq).1
        rw [← toksC_snoc] at hown4
        obtain ⟨og2, g2, cap2, rfl, hog2⟩ := row_shape hown4
        obtain rfl := hog2 (by omega)
        have hT := ToksAt.of_own hown4
        have hg2 := (own_cells hown4).2.1
        go_wp2
        go_returns
        refine ⟨?_, hb4⟩
        show LexOut _ s (.returned (.tuple #[.slice (some ⟨g2, 0, none⟩) (ts.length + 1) cap2, .int .i64 0, .int .i64 0])) _
        rw [LexOut, hq.out]
        exact ⟨g2, cap2, rfl, hg2, hT⟩
  · have t0 : decide ((s.size : Int) > 65536) = true := by rw [decide_eq_true_eq]; omega
    have hL := Lib.hid (show lexL (bs s) = .bad 43 0 by rw [lexL, if_neg (by rw [bs_len]; exact hs)])
    go_enter Tryd.func11, Tryd.ntmps11
    go_wp2
    go_returns
    exact ⟨show LexOut _ s (.returned (.tuple #[.slice none 0 0, .int .i64 43, .int .i64 0])) _ from by rw [LexOut, hL.out]; rfl, Below.refl _ _⟩
end Go.Proofs.YthhkndnmeafanaaDoor
