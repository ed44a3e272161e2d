/-
  Several texts of the proof in one: LPass, LWord, LRes, PBase. No conditions of their own: each lemma states its own.
-/
import Derived.Test.YtggdpgaedmegbaaGreatDoorJLKit
import Derived.Test.YtggdpgaedmegbaaGreatDoorJShelf
import Derived.Test.YtggdpgaedmegbaaGreatDoorJLNum
namespace Go.Proofs.YtggdpgaedmegbaaGreatDoor
open Go.RowKit

theorem hasPrefix_take (l p : List UInt8) : Lib.hasPrefix l p = decide (l.take p.length = p) := by
  rw [← Lib.hasPrefix_of_take, Bool.eq_iff_iff]
  simp only [Bool.and_eq_true, decide_eq_true_eq, beq_iff_eq]
  refine ⟨fun h => h.2, fun h => ⟨?_, h⟩⟩
  have := congrArg List.length h
  simp only [List.length_take] at this
  omega
theorem slashes_prefix (l : List UInt8) : Lib.hasPrefix l [47, 47] = slashes l := by
  rw [hasPrefix_take]; rfl
theorem drop_extract (s : ByteArray) (j : Nat) : bs (s.extract j s.size) = (bs s).drop j := by
  rw [bs, Lib.extract_data, List.take_of_length_le (by rw [List.length_drop, bs_len]; omega)]
set_option maxHeartbeats 1000000 in
theorem pass_any (s : ByteArray) (hs : s.size ≤ 4611686018427387904) (p : Nat) (hp : p ≤ s.size) (w : World) :
    Calls Tryz.prog 45 #[.string s, .int .i64 p] w fun e w' => e = .returned (.int .i64 ((p + passN false ((bs s).drop p) : Nat))) ∧ w' = w := by
  go_enter Tryz.func45, Tryz.ntmps45
  go_wp2_with fail
  go_loopw [1] (fun u wr => ∃ j : Nat, p ≤ j ∧ j ≤ s.size ∧ u = .int .i64 j ∧ j + passN false ((bs s).drop j) = p + passN false ((bs s).drop p) ∧ wr = w) (fun u _ => s.size - (intOf u).toNat)
  case atStart => exact ⟨p, by omega, by omega, rfl, rfl, rfl⟩
  case round =>
    obtain ⟨j, hpj, hj, rfl, hsp, rfl⟩ := hrel
    have hb := Lib.hid (behind_any s hs 107 blankB enters29 blank_any j hj)
    obtain ⟨j1, hj1⟩ : ∃ j1, j1 = j + spanN blankB ((bs s).drop j) := ⟨_, rfl⟩
    have hle := spanN_le blankB ((bs s).drop j)
    rw [List.length_drop, bs_len] at hle
    have hj1s : j1 ≤ s.size := by omega
    have hd : ((bs s).drop j).drop (spanN blankB ((bs s).drop j)) = (bs s).drop j1 := by rw [List.drop_drop, hj1]
    have hpb := passN_blanks ((bs s).drop j)
    rw [hd] at hpb
    rw [← hj1] at hb
    have hhead : ∀ c r, (bs s).drop j1 = c :: r → blankB c = false := fun c r h => spanN_head (l := (bs s).drop j) (by rw [hd]; exact h)
    have hpf := Lib.hid (Tryz.strings_HasPrefix (s.extract j1 s.size) ⟨#[47, 47]⟩)
    have hjj : j ≤ j1 := by omega
    have HS := Lib.hid (show j1 + passN false ((bs s).drop j1) = p + passN false ((bs s).drop p) by omega)
    have HH := Lib.hid hhead
    have hdx := drop_extract s j1
    have hpt : Lib.hasPrefix (s.extract j1 s.size).data.toList [47, 47] = slashes ((bs s).drop j1) := by rw [← hdx]; exact slashes_prefix _
    have hpr : Hid (∀ w, Calls Tryz.prog 108 #[.string (s.extract j1 s.size), .string ⟨#[47, 47]⟩] w fun e w' => e = .returned (.bool (slashes ((bs s).drop j1))) ∧ w' = w) := Lib.hid (by rw [← hpt]; exact hpf.out)
    clear hpf hpt hdx hpb hhead hd hle hj1 hsp
    cases hsl : slashes ((bs s).drop j1) with
    | false =>
      have HSL := Lib.hid hsl
      clear hsl
      go_wp2_with (first
        | (go_at_call 106; refine (hb.out _).mono ?_; rintro e w1 ⟨rfl, rfl⟩)
        | (go_at_call 108; refine (hpr.out _).mono ?_; rintro e w1 ⟨rfl, rfl⟩; rw [HSL.out]))
      go_ret
      refine ⟨?_, rfl⟩
      rw [← HS.out]
      have : passN false ((bs s).drop j1) = 0 := by
        cases hd : (bs s).drop j1 with
        | nil => rfl
        | cons c r => exact passN_zero (HH.out c r hd) (by rw [← hd]; exact HSL.out)
      rw [this]
      rfl
    | true =>
      have HSL := Lib.hid hsl
      have hl := Lib.hid (behind_any s hs 109 lineB enters31 line_any j1 hj1s)
      obtain ⟨j2, hj2⟩ : ∃ j2, j2 = j1 + spanN lineB ((bs s).drop j1) := ⟨_, rfl⟩
      have hle := spanN_le lineB ((bs s).drop j1)
      rw [List.length_drop, bs_len] at hle
      have hpm := passN_remark _ hsl
      rw [List.drop_drop, ← hj2] at hpm
      have hgt : j1 < j2 := by
        obtain ⟨r, hr⟩ := slashes_cons hsl
        rw [hr] at hj2
        simp [spanN, lineB] at hj2
        omega
      have hj2s : j2 ≤ s.size := by omega
      rw [← hj2] at hl
      have HS2 := Lib.hid (show j2 + passN false ((bs s).drop j2) = p + passN false ((bs s).drop p) by rw [← HS.out]; omega)
      clear hsl hle hpm hj2
      go_wp2_with (first
        | (go_at_call_of 106 (Value.int .i64 (j : Int)); refine (hb.out _).mono ?_; rintro e w1 ⟨rfl, rfl⟩)
        | (go_at_call 108; refine (hpr.out _).mono ?_; rintro e w1 ⟨rfl, rfl⟩; rw [HSL.out])
        | (go_at_call_of 106 (Value.int .i64 (j1 : Int)); refine (hl.out _).mono ?_; rintro e w1 ⟨rfl, rfl⟩))
      go_roundw
      case rel => exact ⟨j2, by omega, by omega, rfl, HS2.out, by trivial⟩
      case measure => simp [intOf]; omega
end Go.Proofs.YtggdpgaedmegbaaGreatDoor

namespace Go.Proofs.YtggdpgaedmegbaaGreatDoor
open Go.RowKit

set_option maxHeartbeats 2000000 in
theorem word_any (s : ByteArray) (w : World) : Calls Tryz.prog 325 #[.string s] w fun e w' => e = .returned (.bool (wordB (bs s))) ∧ w' = w := by
  obtain ⟨bw, hbw⟩ : ∃ bw, bw = wordB (bs s) := ⟨_, rfl⟩
  rw [← hbw]
  by_cases h0 : s = ⟨#[]⟩
  · have t0 : s.toList = [] := by rw [h0, Lib.toList_data]
    have hw := Lib.hid (show bw = false by rw [hbw, h0]; rfl)
    clear hbw h0
    go_enter Tryz.func325, Tryz.ntmps325
    go_wp2
    go_ret
    exact ⟨by rw [hw.out]; rfl, rfl⟩
  · have t0 : ¬ s.toList = [] := fun h => h0 (by rw [Lib.toList_data] at h; rw [← strB_of s, bs, h]; rfl)
    have t0' : s.toList.isEmpty = false := by simpa using t0
    have hpos : 0 < s.size := by
      rcases Nat.eq_zero_or_pos s.size with h | h
      · exact absurd (by
          have h1 := bs_len s
          rw [h] at h1
          have h2 := List.length_eq_zero_iff.1 h1
          rw [← strB_of s, h2]; rfl) h0
      · exact h
    obtain ⟨c, r, h1, h2, h3⟩ := byte_at s 0 hpos
    have hi : ∀ W, (Instr.index 9 (.string s) (.int .i64 0)).run Tryz.prog W = .ok (.int .u8 c.toNat) W := run_byte s 0 c hpos h3
    rw [List.drop_zero] at h1
    have hl : s.size = r.length + 1 := by rw [← bs_len, h1]; rfl
    rw [h1, wordB] at hbw
    by_cases h24 : s.size ≤ 24
    · have t1 : decide ((s.size : Int) ≤ 24) = true := by simp; omega
      rw [decide_eq_true (by omega), Bool.true_and] at hbw
      have hlet := Lib.hid (letter_any c)
      have hbn : ∀ w, Calls Tryz.prog 188 #[.string s, .int .i64 0] w fun e w' => e = .returned (.int .i64 ((0 + spanN nameB ((bs s).drop 0) : Nat))) ∧ w' = w := behindName_any s (by omega) 0 (by omega)
      cases hlc : letterB c with
      | true =>
        have HL := Lib.hid hlc
        have hsp : spanN nameB (bs s) = spanN nameB r + 1 := by rw [h1]; simp [spanN, nameB, hlc]
        rw [List.drop_zero, Nat.zero_add, hsp] at hbn
        replace hbn := Lib.hid hbn
        rw [hlc, Bool.true_and] at hbw
        have hw := Lib.hid (show bw = ((spanN nameB r : Int) + 1 == (r.length : Int) + 1) by rw [hbw, Bool.eq_iff_iff]; simp only [decide_eq_true_eq, beq_iff_eq]; omega)
        clear hbw h0 h1 h2 h3 hlc hsp
        go_enter Tryz.func325, Tryz.ntmps325
        go_wp2_with (first
          | (go_at_call 110; refine (hlet.out _).mono ?_; rintro e w1 ⟨rfl, rfl⟩; rw [HL.out])
          | (go_at_call 188; refine (hbn.out _).mono ?_; rintro e w1 ⟨rfl, rfl⟩))
        go_ret
        exact ⟨by rw [hw.out]; simp, rfl⟩
      | false =>
        have HL := Lib.hid hlc
        have hw := Lib.hid (show bw = false by rw [hbw, hlc]; rfl)
        clear hbw h0 h1 h2 h3 hlc hbn
        go_enter Tryz.func325, Tryz.ntmps325
        go_wp2_with (first
          | (go_at_call 110; refine (hlet.out _).mono ?_; rintro e w1 ⟨rfl, rfl⟩; rw [HL.out]))
        go_ret
        exact ⟨by rw [hw.out]; rfl, rfl⟩
    · have t1 : decide ((s.size : Int) ≤ 24) = false := by simp; omega
      have hw := Lib.hid (show bw = false by rw [hbw, decide_eq_false (by omega)]; rfl)
      clear hbw h0 h1 h2 h3
      go_enter Tryz.func325, Tryz.ntmps325
      go_wp2
      go_ret
      exact ⟨by rw [hw.out]; rfl, rfl⟩
theorem wordB_pos {s : ByteArray} (h : wordB (bs s) = true) : 0 < s.size := by
  rcases Nat.eq_zero_or_pos s.size with h0 | h0
  · have h1 := bs_len s
    rw [h0] at h1
    rw [List.length_eq_zero_iff.1 h1] at h
    cases h
  · exact h0
set_option maxHeartbeats 1000000 in
theorem upper_any (s : ByteArray) (w : World) : Calls Tryz.prog 312 #[.string s] w fun e w' => e = .returned (.bool (upperB (bs s))) ∧ w' = w := by
  obtain ⟨bw, hbw⟩ : ∃ bw, bw = upperB (bs s) := ⟨_, rfl⟩
  rw [← hbw]
  have hwd := Lib.hid (word_any s)
  cases hwb : wordB (bs s) with
  | false =>
    have HW := Lib.hid hwb
    have hw := Lib.hid (show bw = false by rw [hbw]; unfold upperB; rw [hwb]; rfl)
    clear hbw hwb
    go_enter Tryz.func312, Tryz.ntmps312
    go_wp2_with (go_at_call 325; refine (hwd.out _).mono ?_; rintro e w1 ⟨rfl, rfl⟩; rw [HW.out])
    go_ret
    exact ⟨by rw [hw.out]; rfl, rfl⟩
  | true =>
    have HW := Lib.hid hwb
    have hpos := wordB_pos hwb
    obtain ⟨c, r, h1, h2, h3⟩ := byte_at s 0 hpos
    have hi : ∀ W, (Instr.index 9 (.string s) (.int .i64 0)).run Tryz.prog W = .ok (.int .u8 c.toNat) W := run_byte s 0 c hpos h3
    rw [List.drop_zero] at h1
    have hw := Lib.hid (show bw = greatB c by rw [hbw]; unfold upperB; rw [hwb, h1]; rfl)
    have hgr := Lib.hid (great_any c)
    clear hbw hwb h1 h2 h3
    go_enter Tryz.func312, Tryz.ntmps312
    go_wp2_with (first
      | (go_at_call 325; refine (hwd.out _).mono ?_; rintro e w1 ⟨rfl, rfl⟩; rw [HW.out])
      | (go_at_call 187; refine (hgr.out _).mono ?_; rintro e w1 ⟨rfl, rfl⟩))
    go_ret
    exact ⟨by rw [hw.out]; rfl, rfl⟩
end Go.Proofs.YtggdpgaedmegbaaGreatDoor

namespace Go.Proofs.YtggdpgaedmegbaaGreatDoor
open Go.RowKit

theorem idxR (V : Array Value) (j : Nat) (hj : j < 20) (v : Value) (h : V[j]? = some v) (W : World) : (Instr.index 372 (.agg V) (.int .i64 j)).run Tryz.prog W = .ok v W := by
  simp [Instr.index, run_underlying Tryz.underlying372, asIntOf, go_sem, h]
  intro h
  omega
theorem infoR : (Tryz.prog.info? 372).map (·.size) = some 20 := by kernel_rfl
set_option maxRecDepth 100000 in
set_option maxHeartbeats 2000000 in
theorem reserved_walk (X : Nat → ByteArray) (A : Array Value) (hA : A.size = 20) (s : ByteArray) (w : World) (hX : ∀ k, k < 20 → A[k]? = some (.string (X k))) (t : TypeId) (fr : Nat × Nat) (hrow : w.heap[5]? = some (.cells A t fr)) :
    Calls Tryz.prog 324 #[.string s] w fun e w' => (∃ b, e = .returned (.bool b) ∧ (b = true ↔ ∃ k, k < 20 ∧ s.toList = (X k).toList)) ∧ w' = w := by
  have hxi : ∀ j : Nat, j < 20 → ∀ W, (Instr.index 372 (.agg A) (.int .i64 j)).run Tryz.prog W = .ok (.string (X j)) W := fun j hj => idxR _ j hj (.string (X j)) (hX j hj)
  replace hxi := Lib.hid hxi
  have HA := Lib.hid (show (Tryz.prog.info? 372).map (·.size) = some A.size by rw [hA]; exact infoR)
  clear hX hA
  replace hrow := Lib.hid hrow
  go_enter Tryz.func324, Tryz.ntmps324
  go_wp2_with (refine wpList_load_row rfl 372 (.global 5) rfl 5 rfl t A fr _ hrow.out Tryz.underlying372 rfl HA.out ?_)
  go_loopw [6] (fun u wr => ∃ j : Nat, j ≤ 20 ∧ u = .int .i64 j ∧ (∀ i : Nat, i < j → s.toList ≠ (X i).toList) ∧ wr = w) (fun u _ => 20 - (intOf u).toNat)
  case atStart => exact ⟨0, by omega, rfl, fun i hi => by omega, rfl⟩
  case round =>
    obtain ⟨j, hj, rfl, hno, rfl⟩ := hrel
    have HNO := Lib.hid hno
    clear hno
    by_cases hj4 : j < 20
    · have t1 : decide ((j : Int) < 20) = true := by simp; omega
      have hx := hxi.out j hj4
      by_cases he : s.toList = (X j).toList
      · have hin := Lib.hid (show ∃ k, k < 20 ∧ s.toList = (X k).toList from ⟨j, hj4, he⟩)
        go_wp2
        go_ret
        exact ⟨⟨true, rfl, fun _ => hin.out, fun _ => rfl⟩, rfl⟩
      · have HE := Lib.hid he
        have t2 : (s.toList == (X j).toList) = false := by simpa using he
        clear he
        go_wp2
        go_roundw
        case rel =>
          refine ⟨j + 1, by omega, by go_num, fun i hi => ?_, by trivial⟩
          by_cases hij : i = j
          · subst hij
            exact HE.out
          · exact HNO.out i (by omega)
        case measure => simp [intOf]; omega
    · obtain rfl : j = 20 := by omega
      go_wp2
      go_ret
      exact ⟨⟨false, rfl, fun h => by (cases h), fun ⟨k, hk, h⟩ => absurd h (HNO.out k hk)⟩, rfl⟩
theorem reserved_any (s : ByteArray) (w : World) (hV : Vars w) : Calls Tryz.prog 324 #[.string s] w fun e w' => e = .returned (.bool (resB (bs s))) ∧ w' = w := by
  obtain ⟨t, fr, hrow⟩ := hV.res
  refine (reserved_walk (fun k => strB (resL.getD k [])) (resL.map fun l => Value.string (strB l)).toArray (by simp [resL]) s w (fun k hk => by
    have hk' : k < resL.length := hk
    rw [List.getElem?_toArray, List.getElem?_map, List.getElem?_eq_getElem hk', Option.map_some, List.getD_eq_getElem?_getD, List.getElem?_eq_getElem hk']; rfl) t fr hrow).mono ?_
  rintro e w' ⟨⟨b, rfl, hb⟩, rfl⟩
  refine ⟨?_, rfl⟩
  have : b = resB (bs s) := by
    rw [Bool.eq_iff_iff, hb, resB, decide_eq_true_eq, List.mem_iff_getElem?]
    simp only [Lib.toList_data]
    constructor
    · rintro ⟨k, hk, h⟩
      have hk' : k < resL.length := hk
      refine ⟨k, ?_⟩
      rw [show (strB (resL.getD k [])).data.toList = resL.getD k [] from strB_bs _] at h
      rw [show bs s = resL.getD k [] from h, List.getD_eq_getElem?_getD, List.getElem?_eq_getElem hk']
      rfl
    · rintro ⟨k, hk⟩
      refine ⟨k, (List.getElem?_eq_some_iff.1 hk).1, ?_⟩
      rw [show (strB (resL.getD k [])).data.toList = resL.getD k [] from strB_bs _, List.getD_eq_getElem?_getD, hk]
      rfl
  rw [this]
end Go.Proofs.YtggdpgaedmegbaaGreatDoor

namespace Go.Proofs.YtggdpgaedmegbaaGreatDoor
open Go.RowKit

/-- what holds of the tokens -/
structure TsOk (ts : List Tok) : Prop where
  small : ts.length ≤ 70000
  last : ∀ t, ts[ts.length - 1]? = some t → t.text = [] ∧ t.k = 0
  one : ∀ i t, ts[i]? = some t → i + 1 < ts.length → t.k ≠ 0
  n : ∀ t ∈ ts, t.n < 9223372036854775808
  pos : ∀ t ∈ ts, t.pos ≤ 70000

/-- a reader in the block b, whose tokens lie in the block g -/
structure RdAt (w : World) (b g cap : Nat) (ts : List Tok) (i : Nat) (dp : Nat) : Prop where
  at_ : w.heap[b]? = some (.cells #[.slice (some ⟨g, 0, none⟩) ts.length cap, .int .i64 i, .int .i64 dp] 175)
  toks : ToksAt w g ts
  lt : i < ts.length
  ne : g ≠ b
  ok : TsOk ts
  vars : Vars w
  b4 : nG ≤ b
theorem RdAt.keep {w w' : World} {b g cap : Nat} {ts : List Tok} {i dp j dq : Nat} (h : RdAt w b g cap ts i dp) (hk : Kb b w w') (hb : w'.heap[b]? = some (.cells #[.slice (some ⟨g, 0, none⟩) ts.length cap, .int .i64 j, .int .i64 dq] 175)) (hj : j < ts.length) : RdAt w' b g cap ts j dq := by
  refine ⟨hb, ⟨Nat.lt_of_lt_of_le h.toks.1 hk.size, fun i t ht => ?_⟩, hj, h.ne, h.ok, ?_, h.b4⟩
  · obtain ⟨a, c, d, e⟩ := h.toks.2 i t ht
    exact ⟨(hk.cell h.toks.1 h.ne).trans a, (hk.cell h.toks.1 h.ne).trans c, (hk.cell h.toks.1 h.ne).trans d, (hk.cell h.toks.1 h.ne).trans e⟩
  · have h4 := h.b4
    have hs := h.vars.size
    have hbk : Below nG w w' := ⟨hk.os, hk.tape, hk.output, hk.size, fun x hx => hk.block x (by omega) (by omega)⟩
    exact h.vars.below hbk (Nat.le_refl _)
theorem RdAt.tok {w : World} {b g cap : Nat} {ts : List Tok} {i dp : Nat} (h : RdAt w b g cap ts i dp) : ∃ t, ts[i]? = some t ∧ hd (ts.drop i) = t ∧ t ∈ ts := by
  refine ⟨ts[i]'h.lt, List.getElem?_eq_getElem h.lt, ?_, List.getElem_mem _⟩
  unfold hd
  rw [List.headD_eq_head?_getD, List.head?_drop, List.getElem?_eq_getElem h.lt]
  rfl
theorem drop_tail (ts : List Tok) (i : Nat) : (ts.drop i).tail = ts.drop (i + 1) := by rw [List.tail_drop]
theorem RdAt.next {w : World} {b g cap : Nat} {ts : List Tok} {i dp : Nat} (h : RdAt w b g cap ts i dp) {t : Tok} (ht : ts[i]? = some t) (hn : t.text ≠ [] ∨ t.k ≠ 0) : i + 1 < ts.length := by
  have h1 := h.lt
  by_cases he : i + 1 < ts.length
  · exact he
  · have e : ts.length - 1 = i := by omega
    have := h.ok.last t (by rw [e]; exact ht)
    rcases hn with h2 | h2
    · exact absurd this.1 h2
    · exact absurd this.2 h2
/-- the reader has passed one more -/
theorem RdAt.pass {w : World} {b g cap : Nat} {ts : List Tok} {i dp : Nat} (h : RdAt w b g cap ts i dp) (hi : i + 1 < ts.length) : RdAt (w.setCell ⟨b, 1, none⟩ (.int .i64 ((i : Int) + 1))) b g cap ts (i + 1) dp := by
  refine h.keep (Kb.set w 1 _) ?_ hi
  have := heap_setCell_same w b 1 _ _ (.int .i64 ((i : Int) + 1)) h.at_
  simpa using this

/-- another box is written: it holds neither the tokens nor a package variable -/
theorem RdAt.setNew {w : World} {b g cap : Nat} {ts : List Tok} {i dp : Nat} (h : RdAt w b g cap ts i dp) {k : Nat} (hk : b ≠ k) (j : Nat) (v : Value) {cs : Array Value} {t : TypeId} (_ : w.heap[k]? = some (.cells cs t)) (hg : g ≠ k) (h9 : nG ≤ k) : RdAt (w.setCell ⟨k, j, none⟩ v) b g cap ts i dp := by
  have hn : ∀ x, x ≠ k → (w.setCell ⟨k, j, none⟩ v).heap[x]? = w.heap[x]? := fun x hx => Below.heap_setCell _ _ _ _ hx
  have hs : (w.setCell ⟨k, j, none⟩ v).heap.size = w.heap.size := by simp [World.setCell]
  refine ⟨(hn b hk).trans h.at_, ⟨by rw [hs]; exact h.toks.1, fun i t ht => ?_⟩, h.lt, h.ne, h.ok, ?_, h.b4⟩
  · obtain ⟨a, c, d, e⟩ := h.toks.2 i t ht
    have hc : ∀ o, (w.setCell ⟨k, j, none⟩ v).cell? ⟨g, o, none⟩ = w.cell? ⟨g, o, none⟩ := fun o => World.cell?_of_block (hn g hg)
    exact ⟨(hc _).trans a, (hc _).trans c, (hc _).trans d, (hc _).trans e⟩
  · have hbk : Below nG w (w.setCell ⟨k, j, none⟩ v) := ⟨rfl, rfl, rfl, Nat.le_of_eq hs.symm, fun x hx => hn x (by omega)⟩
    exact h.vars.below hbk (Nat.le_refl _)
/-- what a fault's panic is -/
def faultE (e : Int) (p : Nat) : Ending := .panicked [{ v := .iface 173 (.agg #[.int .i64 e, .int .i64 p]), recovered := false }]
/-- what a rule comes to: in the heap, and as a value -/
def RPost {α : Type} (w : World) (b g cap : Nat) (ts : List Tok) (i dp : Nat) (r : Rs α) (V : World → Nat → Value → α → Prop) (e : Ending) (w' : World) : Prop :=
  Kb b w w' ∧ match r with
    | .ok a l => ∃ j v, e = .returned v ∧ l = ts.drop j ∧ i ≤ j ∧ RdAt w' b g cap ts j dp ∧ V w' w.heap.size v a
    | .no er p => e = faultE er p
theorem RPost.fault {α : Type} {w w' : World} {b g cap : Nat} {ts : List Tok} {i dp : Nat} {r : Rs α} {V : World → Nat → Value → α → Prop} {er : Int} {p : Nat} (hk : Kb b w w') (h : r = .no er p) : RPost w b g cap ts i dp r V (faultE er p) w' := by
  subst h
  exact ⟨hk, rfl⟩
theorem RPost.done {α : Type} {w w' : World} {b g cap : Nat} {ts : List Tok} {i dp : Nat} {r : Rs α} {V : World → Nat → Value → α → Prop} {a : α} {j : Nat} {v : Value} (hk : Kb b w w') (h : r = .ok a (ts.drop j)) (hj : i ≤ j) (H : RdAt w' b g cap ts j dp) (hv : V w' w.heap.size v a) : RPost w b g cap ts i dp r V (.returned v) w' := by
  subst h
  exact ⟨hk, j, v, rfl, rfl, hj, H, hv⟩
theorem RPost.ok {α : Type} {w w' : World} {b g cap : Nat} {ts : List Tok} {i dp : Nat} {r : Rs α} {V : World → Nat → Value → α → Prop} {a : α} {l : List Tok} {e : Ending} (h : RPost w b g cap ts i dp r V e w') (hr : r = .ok a l) : Kb b w w' ∧ ∃ j v, e = .returned v ∧ l = ts.drop j ∧ i ≤ j ∧ RdAt w' b g cap ts j dp ∧ V w' w.heap.size v a := by
  subst hr
  exact h
theorem RPost.no {α : Type} {w w' : World} {b g cap : Nat} {ts : List Tok} {i dp : Nat} {r : Rs α} {V : World → Nat → Value → α → Prop} {er : Int} {p : Nat} {e : Ending} (h : RPost w b g cap ts i dp r V e w') (hr : r = .no er p) : e = faultE er p ∧ Kb b w w' := by
  subst hr
  exact ⟨h.2, h.1⟩
theorem RdAt.hd {w : World} {b g cap : Nat} {ts : List Tok} {i dp : Nat} (H : RdAt w b g cap ts i dp) {t : Tok} (ht : ts[i]? = some t) : Go.Proofs.YtggdpgaedmegbaaGreatDoor.hd (ts.drop i) = t := by
  obtain ⟨u, h1, h2, _⟩ := H.tok
  rw [h1] at ht
  cases ht
  exact h2
end Go.Proofs.YtggdpgaedmegbaaGreatDoor
