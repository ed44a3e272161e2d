/-
  The document's own name, Word, Upper. Conditions: the place is in the text.
-/
import Derived.Test.YtgogdcpgfmndnaaGreatDoorNWord
namespace Go.Proofs.YtgogdcpgfmndnaaGreatDoor
open Go.RowKit

/-- How long a name is that begins there. -/
def nameN : List UInt8 → Nat
  | [] => 0
  | c :: r => if letterB c then spanN nameB r + 1 else 0

theorem nameN_le (l : List UInt8) : nameN l ≤ l.length := by
  cases l with
  | nil => exact Nat.le_refl _
  | cons c r =>
    have := spanN_le nameB r
    simp only [nameN, List.length_cons]
    split <;> omega

/-- What is left of a name behind n of its bytes. -/
def restN (n : Nat) (l : List UInt8) : Nat := if n = 0 then nameN l else spanN nameB l

theorem restN_yes {n : Nat} {c : UInt8} {r : List UInt8} (h : letterB c = true ∨ 0 < n ∧ nameB c = true) : restN n (c :: r) = restN (n + 1) r + 1 := by
  unfold restN
  rw [if_neg (Nat.succ_ne_zero n)]
  rcases h with h | ⟨h1, h2⟩
  · have hn : nameB c = true := by simp [nameB, h]
    split <;> simp [nameN, spanN, h, hn]
  · rw [if_neg (by omega)]
    simp [spanN, h2]

theorem restN_no {n : Nat} {c : UInt8} {r : List UInt8} (h : letterB c = false) (h2 : n = 0 ∨ nameB c = false) : restN n (c :: r) = 0 := by
  unfold restN
  split
  · simp [nameN, h]
  · rcases h2 with h2 | h2
    · omega
    · simp [spanN, h2]

theorem restN_nil (n : Nat) : restN n [] = 0 := by
  unfold restN
  split <;> rfl

set_option maxRecDepth 100000 in
set_option maxHeartbeats 4000000 in
theorem rname_any (s : ByteArray) (hs : s.size ≤ 65536) (p : Nat) (hp : p ≤ s.size) (w : World) :
    Calls Tryz.prog 89 #[.string s, .int .i64 p] w fun e w' => e = .returned (.int .i64 (nameN ((bs s).drop p))) ∧ w' = w := by
  go_enter Tryz.func89, Tryz.ntmps89
  go_wp2_with fail
  go_loopw [5] (fun u wr => ∃ n : Nat, p + n ≤ s.size ∧ u = .int .i64 n ∧ n + restN n ((bs s).drop (p + n)) = nameN ((bs s).drop p) ∧ wr = w) (fun u _ => s.size - (intOf u).toNat)
  case atStart => exact ⟨0, by omega, rfl, by simp [restN], rfl⟩
  case round =>
    obtain ⟨n, hn, rfl, hsp, rfl⟩ := hrel
    have HSP := Lib.hid hsp
    clear hsp
    by_cases hjl : p + n < s.size
    · have t1 : decide ((p : Int) + n < s.size) = true := by simp; omega
      obtain ⟨c, r, h1, h2, h3⟩ := byte_at s (p + n) hjl
      have hi := run_byte s (p + n) c hjl h3
      rw [show ((p + n : Nat) : Int) = (p : Int) + n by omega] at hi
      have H1 := Lib.hid h1
      have H2 := Lib.hid h2
      clear h1 h2 h3
      have hlet := Lib.hid (rletter_any c)
      have hdig := Lib.hid (rdigit_any c)
      obtain ⟨bl, hbl⟩ : ∃ b, b = letterB c := ⟨_, rfl⟩
      rw [← hbl] at hlet
      replace hbl := Lib.hid hbl
      cases bl with
      | true =>
        have hyes := Lib.hid (restN_yes (n := n) (c := c) (r := r) (.inl hbl.out.symm))
        clear hbl hdig
        go_wp2_with (first
          | (go_at_call 110; refine (hlet.out _).mono ?_; rintro e w1 ⟨rfl, rfl⟩)
          | (go_at_call 111; refine (hdig.out _).mono ?_; rintro e w1 ⟨rfl, rfl⟩))
        go_roundw
        case rel =>
          refine ⟨n + 1, by omega, by go_num, ?_, by trivial⟩
          rw [← HSP.out, H1.out, hyes.out, show p + (n + 1) = p + n + 1 by omega, ← H2.out]
          omega
        case measure => simp [intOf]; omega
      | false =>
        rcases Nat.eq_zero_or_pos n with hn0 | hn0
        · have t3 : ¬ 0 < n := by omega
          have hno := Lib.hid (restN_no (n := n) (c := c) (r := r) hbl.out.symm (.inl hn0))
          have HR := Lib.hid (show nameN ((bs s).drop p) = n by rw [← HSP.out, H1.out, hno.out]; rfl)
          clear hbl hdig hn0
          go_wp2_with (first
            | (go_at_call 110; refine (hlet.out _).mono ?_; rintro e w1 ⟨rfl, rfl⟩)
            | (go_at_call 111; refine (hdig.out _).mono ?_; rintro e w1 ⟨rfl, rfl⟩))
          go_ret
          exact ⟨by rw [HR.out]; rfl, rfl⟩
        · have t3 : 0 < n := hn0
          obtain ⟨bd, hbd⟩ : ∃ b, b = digitB c := ⟨_, rfl⟩
          have hnb : nameB c = (bd || ((c.toNat : Int) == 95)) := by
            have e3 : decide (c.toNat = 95) = ((c.toNat : Int) == 95) := by rw [Bool.eq_iff_iff]; simp <;> omega
            rw [nameB, e3, hbd, ← hbl.out, Bool.false_or]
          rw [← hbd] at hdig
          clear hbd
          cases bd with
          | true =>
            have hyes := Lib.hid (restN_yes (n := n) (c := c) (r := r) (.inr ⟨hn0, by rw [hnb]; rfl⟩))
            clear hnb hbl hn0
            go_wp2_with (first
              | (go_at_call 110; refine (hlet.out _).mono ?_; rintro e w1 ⟨rfl, rfl⟩)
              | (go_at_call 111; refine (hdig.out _).mono ?_; rintro e w1 ⟨rfl, rfl⟩))
            go_roundw
            case rel =>
              refine ⟨n + 1, by omega, by go_num, ?_, by trivial⟩
              rw [← HSP.out, H1.out, hyes.out, show p + (n + 1) = p + n + 1 by omega, ← H2.out]
              omega
            case measure => simp [intOf]; omega
          | false =>
            cases t2 : ((c.toNat : Int) == 95) with
            | true =>
              have hyes := Lib.hid (restN_yes (n := n) (c := c) (r := r) (.inr ⟨hn0, by rw [hnb, t2]; rfl⟩))
              clear hnb hbl hn0
              go_wp2_with (first
                | (go_at_call 110; refine (hlet.out _).mono ?_; rintro e w1 ⟨rfl, rfl⟩)
                | (go_at_call 111; refine (hdig.out _).mono ?_; rintro e w1 ⟨rfl, rfl⟩))
              go_roundw
              case rel =>
                refine ⟨n + 1, by omega, by go_num, ?_, by trivial⟩
                rw [← HSP.out, H1.out, hyes.out, show p + (n + 1) = p + n + 1 by omega, ← H2.out]
                omega
              case measure => simp [intOf]; omega
            | false =>
              have hno := Lib.hid (restN_no (n := n) (c := c) (r := r) hbl.out.symm (.inr (by rw [hnb, t2]; rfl)))
              have HR := Lib.hid (show nameN ((bs s).drop p) = n by rw [← HSP.out, H1.out, hno.out]; rfl)
              clear hbl hnb hn0
              go_wp2_with (first
                | (go_at_call 110; refine (hlet.out _).mono ?_; rintro e w1 ⟨rfl, rfl⟩)
                | (go_at_call 111; refine (hdig.out _).mono ?_; rintro e w1 ⟨rfl, rfl⟩))
              go_ret
              exact ⟨by rw [HR.out]; rfl, rfl⟩
    · have t1 : decide ((p : Int) + n < s.size) = false := by simp; omega
      have hpn : p + n = s.size := by omega
      have HZ := Lib.hid (show n = nameN ((bs s).drop p) by
        rw [← HSP.out, hpn, List.drop_eq_nil_of_le (by rw [bs_len]; omega), restN_nil]; rfl)
      go_wp2
      go_ret
      exact ⟨by rw [← HZ.out]; rfl, rfl⟩

theorem wordB_nameN (l : List UInt8) : wordB l = (decide (0 < l.length) && decide (l.length ≤ 24) && decide (nameN l = l.length)) := by
  cases l with
  | nil => rfl
  | cons c r =>
    rw [Bool.eq_iff_iff]
    cases hl : letterB c
    · have hn : nameN (c :: r) = 0 := by simp [nameN, hl]
      simp only [wordB, Bool.and_eq_true, decide_eq_true_eq, hn, hl, List.length_cons, Bool.false_eq_true]
      constructor
      · rintro ⟨⟨_, h⟩, _⟩
        exact h.elim
      · rintro ⟨_, h⟩
        omega
    · have hn : nameN (c :: r) = spanN nameB r + 1 := by simp [nameN, hl]
      simp only [wordB, Bool.and_eq_true, decide_eq_true_eq, hn, hl, List.length_cons]
      constructor
      · rintro ⟨⟨a, _⟩, b⟩
        exact ⟨⟨by omega, a⟩, by omega⟩
      · rintro ⟨⟨_, a⟩, b⟩
        exact ⟨⟨a, trivial⟩, by omega⟩

set_option maxHeartbeats 2000000 in
theorem rword_any (s : ByteArray) (w : World) : Calls Tryz.prog 65 #[.string s] w fun e w' => e = .returned (.bool (wordB (bs s))) ∧ w' = w := by
  have hwn := wordB_nameN (bs s)
  rw [bs_len] at hwn
  obtain ⟨bw, hbw⟩ : ∃ bw, bw = wordB (bs s) := ⟨_, rfl⟩
  rw [← hbw] at hwn ⊢
  clear hbw
  by_cases h0 : 0 < s.size
  · have t0 : decide ((s.size : Int) > 0) = true := by simp; omega
    by_cases h24 : s.size ≤ 24
    · have t1 : decide ((s.size : Int) ≤ 24) = true := by simp; omega
      have hn : ∀ w, Calls Tryz.prog 89 #[.string s, .int .i64 0] w fun e w' => e = .returned (.int .i64 (nameN ((bs s).drop 0))) ∧ w' = w := rname_any s (by omega) 0 (by omega)
      rw [List.drop_zero] at hn
      rw [decide_eq_true h0, decide_eq_true h24, Bool.true_and, Bool.true_and] at hwn
      obtain ⟨k, hk⟩ : ∃ k, k = nameN (bs s) := ⟨_, rfl⟩
      rw [← hk] at hn hwn
      clear hk
      have hw := Lib.hid (show bw = ((k : Int) == (s.size : Int)) by rw [hwn, Bool.eq_iff_iff]; simp only [decide_eq_true_eq, beq_iff_eq]; omega)
      replace hn := Lib.hid hn
      clear hwn
      go_enter Tryz.func65, Tryz.ntmps65
      go_wp2_with (go_at_call 89; refine (hn.out _).mono ?_; rintro e w1 ⟨rfl, rfl⟩)
      go_ret
      exact ⟨by rw [hw.out]; simp, rfl⟩
    · have t1 : decide ((s.size : Int) ≤ 24) = false := by simp; omega
      have hw := Lib.hid (show bw = false by rw [hwn, decide_eq_false h24]; simp)
      clear hwn
      go_enter Tryz.func65, Tryz.ntmps65
      go_wp2
      go_ret
      exact ⟨by rw [hw.out]; rfl, rfl⟩
  · have t0 : decide ((s.size : Int) > 0) = false := by rw [decide_eq_false_iff_not]; omega
    have hw := Lib.hid (show bw = false by rw [hwn, decide_eq_false h0]; simp)
    clear hwn
    go_enter Tryz.func65, Tryz.ntmps65
    go_wp2
    go_ret
    exact ⟨by rw [hw.out]; rfl, rfl⟩

set_option maxHeartbeats 2000000 in
theorem rupper_any (s : ByteArray) (w : World) : Calls Tryz.prog 63 #[.string s] w fun e w' => e = .returned (.bool (upperB (bs s))) ∧ w' = w := by
  obtain ⟨bw, hbw⟩ : ∃ bw, bw = upperB (bs s) := ⟨_, rfl⟩
  rw [← hbw]
  have hwd := Lib.hid (rword_any s)
  cases hwb : wordB (bs s) with
  | false =>
    have HW := Lib.hid hwb
    have hw := Lib.hid (show bw = false by rw [hbw]; unfold upperB; rw [hwb]; rfl)
    clear hbw hwb
    go_enter Tryz.func63, Tryz.ntmps63
    go_wp2_with (go_at_call 65; refine (hwd.out _).mono ?_; rintro e w1 ⟨rfl, rfl⟩; rw [HW.out])
    go_ret
    exact ⟨by rw [hw.out]; rfl, rfl⟩
  | true =>
    have HW := Lib.hid hwb
    have hpos := wordB_pos hwb
    obtain ⟨c, r, h1, h2, h3⟩ := byte_at s 0 hpos
    have hi : ∀ W, (Instr.index 9 (.string s) (.int .i64 0)).run Tryz.prog W = .ok (.int .u8 c.toNat) W := run_byte s 0 c hpos h3
    rw [List.drop_zero] at h1
    have hw : bw = (decide ((c.toNat : Int) ≥ 65) && decide ((c.toNat : Int) ≤ 90)) := by
      rw [hbw]
      unfold upperB
      rw [hwb, h1, Bool.true_and]
      show greatB c = _
      unfold greatB; rw [Bool.eq_iff_iff]; simp only [decide_eq_true_eq, Bool.and_eq_true]; omega
    clear hbw hwb h1 h2 h3
    generalize (c.toNat : Int) = z at hw hi
    replace hw := Lib.hid hw
    cases t0 : decide (z ≥ 65) <;> cases t1 : decide (z ≤ 90)
    all_goals
      rw [t0, t1] at hw
      go_enter Tryz.func63, Tryz.ntmps63
      go_wp2_with (go_at_call 65; refine (hwd.out _).mono ?_; rintro e w1 ⟨rfl, rfl⟩; rw [HW.out])
      go_ret
      exact ⟨by rw [hw.out]; rfl, rfl⟩
end Go.Proofs.YtgogdcpgfmndnaaGreatDoor
