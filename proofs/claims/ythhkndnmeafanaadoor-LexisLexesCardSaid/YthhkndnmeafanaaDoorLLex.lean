/-
  Lex of lexis. Conditions: the package variables lie as the program's text lays them.
-/
import Derived.Test.YthhkndnmeafanaaDoorLToken
import Derived.Deep.DeepCutAuto
import Derived.Laws.AppendOwn
namespace Go.Proofs.YthhkndnmeafanaaDoor
open Go.RowKit

def endTok (s : ByteArray) : Tok := ⟨0, [], 0, s.size⟩

/-- What Lex hands back. -/
def LexOut (B : Nat) (s : ByteArray) (e : Ending) (w' : World) : Prop := match lexL (bs s) with
  | .bad er q => e = .returned (.tuple #[.slice none 0 0, .int .i64 er, .int .i64 q])
  | .good ts => ∃ g cap, e = .returned (.tuple #[.slice (some ⟨g, 0, none⟩) (ts.length + 1) cap, .int .i64 0, .int .i64 0]) ∧ B ≤ g ∧ ToksAt w' g (ts ++ [endTok s])

theorem info31 : (Tryd.prog.info? 31).map (fun i => (i.zero, i.size, i.bytes)) = some (some (.agg #[.int .i64 0, .string ⟨#[]⟩, .int .i64 0, .int .i64 0]), 4, 40) := by kernel_rfl

theorem tokenOut_err {l : List UInt8} {p : Nat} {e : Int} (h : tokR l = .err e) : tokenOut l p = (noTok, e) := by simp [tokenOut, h]
theorem tokenOut_tok {l : List UInt8} {p m n : Nat} {k : Int} (h : tokR l = .tok k m n) : tokenOut l p = (⟨k, l.take m, n, p⟩, 0) := by simp [tokenOut, h]

theorem tokR_err {l : List UInt8} {e : Int} (h : tokR l = .err e) : e ≠ 0 := by
  cases l with
  | nil => cases h; decide
  | cons c r =>
    simp only [tokR] at h
    split at h
    · split at h <;> cases h; decide
    · split at h
      · split at h <;> cases h; decide
      · split at h <;> cases h; decide

theorem tok_cells (t : Tok) : ∀ u ∈ tokC t, u.oneCell' = true := by
  intro u hu
  simp only [tokC, List.mem_cons, List.not_mem_nil, or_false] at hu
  rcases hu with rfl | rfl | rfl | rfl <;> rfl

set_option maxRecDepth 100000 in
set_option maxHeartbeats 4000000 in
theorem lex_any (s : ByteArray) (w : World) (hV : Vars w) : Calls Tryd.prog 10 #[.string s] w fun e w' => LexOut w.heap.size s e w' ∧ Below w.heap.size w w' := by
  by_cases hs : s.size ≤ 65536
  · have t0 : decide ((s.size : Int) > 65536) = false := by simp; omega
    obtain ⟨k0, hk0⟩ : ∃ k0, k0 = passN false (bs s) := ⟨_, rfl⟩
    have hk0s : k0 ≤ s.size := by have := passN_le false (bs s); rw [bs_len] at this; omega
    have hpa := pass_any s (by omega) 0 (by omega)
    rw [List.drop_zero, Nat.zero_add, ← hk0] at hpa
    replace hpa := Lib.hid hpa
    have hst := Lib.hid (show (lexQ k0 ((bs s).drop k0)).pre [] = lexT 0 (bs s) by rw [Res.pre_nil, lexT, Nat.zero_add, ← hk0])
    have hL := Lib.hid (show lexL (bs s) = lexT 0 (bs s) by rw [lexL, if_pos (by rw [bs_len]; exact hs)])
    obtain ⟨i31, hi31, hz31, hs31, hb31⟩ := info_parts info31
    have HI := Lib.hid (And.intro hi31 (And.intro hz31 (And.intro hs31 hb31)))
    have HV := Lib.hid hV
    clear hk0 hi31 hz31 hs31 hb31 hV
    go_enter Tryd.func10, Tryd.ntmps10
    go_wp2_with (go_at_call 19; refine (hpa.out _).mono ?_; rintro e w1 ⟨rfl, rfl⟩)
    go_loopw [5, 6] (fun v i wr => ∃ (j : Nat) (ts : List Tok), j ≤ s.size ∧ i = .int .i64 j ∧ wr.ownsRow w1.heap.size 31 4 v ts.length (toksC ts) ∧ Below w1.heap.size w1 wr ∧ (lexQ j ((bs s).drop j)).pre ts = lexT 0 (bs s) ∧ ts.length ≤ j) (fun _ i _ => s.size - (intOf i).toNat)
    case atStart => exact ⟨k0, [], hk0s, rfl, World.ownsRow_nil _ _ _ _, Below.refl _ _, hst.out, by simp⟩
    case round =>
      obtain ⟨j, ts, hj, rfl, hown, hb, hrel, hlen⟩ := hrel
      obtain ⟨og, g, cap, rfl, hog⟩ := row_shape hown
      have HREL := Lib.hid hrel
      have HOWN := Lib.hid hown
      have HB := Lib.hid hb
      by_cases hjl : j < s.size
      · have t1 : decide ((j : Int) < s.size) = true := by simp; omega
        have htk := Lib.hid (token_any s hs j hjl wr (HV.out.b hb))
        cases htr : tokR ((bs s).drop j) with
        | err er =>
          have hne := tokR_err htr
          rw [tokenOut_err htr] at htk
          have hq : Hid (lexL (bs s) = .bad er j) := Lib.hid (by
            rw [hL.out, ← hrel, lexQ_err (by intro h; have := congrArg List.length h; rw [List.length_drop, bs_len] at this; simp at this; omega) htr]; rfl)
          have t2 : (er != 0) = true := by simpa using hne
          clear htr hne hrel hown hb
          go_wp2_with (go_at_call 20; refine htk.out.mono ?_; rintro e w2 ⟨rfl, hb2⟩; unfold tokOut tokV noTok; have HB2 := Lib.hid (HB.out.trans (hb2.mono HB.out.size)); clear hb2)
          go_returns
          refine ⟨show LexOut _ s (.returned (.tuple #[.slice none 0 0, .int .i64 er, .int .i64 j])) _ from by rw [LexOut, hq.out], ?_⟩
          exact HB2.out.alloc HB2.out.size _
        | tok k m n =>
          rw [tokenOut_tok htr] at htk
          have hm := tokR_len htr
          rw [List.length_drop, bs_len] at hm
          have hq := lexQ_tok (p := j) htr
          rw [List.drop_drop] at hq
          obtain ⟨tx, htx⟩ : ∃ tx, tx = ((bs s).drop j).take m := ⟨_, rfl⟩
          rw [← htx] at htk hq
          have htl : tx.length = m := by rw [htx, List.length_take, List.length_drop, bs_len]; omega
          have hts : (strB tx).size = m := by rw [strB_size, htl]
          obtain ⟨k1, hk1⟩ : ∃ k1, k1 = passN false ((bs s).drop (j + m)) := ⟨_, rfl⟩
          have hk1s : j + m + k1 ≤ s.size := by have := passN_le false ((bs s).drop (j + m)); rw [List.length_drop, bs_len] at this; omega
          have hpb := pass_any s (by omega) (j + m) (by omega)
          rw [← hk1] at hpb
          replace hpb := Lib.hid hpb
          have hR2 : Hid ((lexQ (j + m + k1) ((bs s).drop (j + m + k1))).pre (ts ++ [⟨k, tx, n, j⟩]) = lexT 0 (bs s)) := Lib.hid (by
            rw [← hrel, hq, Res.pre_pre, lexT, List.drop_drop, ← hk1])
          have hm1 := hm.1
          clear htr hq htx hk1 hrel hown hb hm
          go_upto_region 9 with (go_at_call 20; refine htk.out.mono ?_; rintro e w2 ⟨rfl, hb2⟩; unfold tokOut tokV; have HB2 := Lib.hid (HB.out.trans (hb2.mono HB.out.size)); have HO2 := Lib.hid (row_below hb2 HOWN.out); clear hb2)
          have hB3 := HB2.out.alloc HB2.out.size (.cells #[.int .i64 k, .string (strB tx), .int .i64 n, .int .i64 j] 31)
          have hO3 := row_below (alloc_below w2 (.cells #[.int .i64 k, .string (strB tx), .int .i64 n, .int .i64 j] 31)) HO2.out
          have hX3 := heap_alloc_new w2 (.cells #[.int .i64 k, .string (strB tx), .int .i64 n, .int .i64 j] 31)
          have hne : ∀ q, (Value.slice og ts.length cap).ownBlock = some q → q ≠ w2.heap.size := fun q hq => Nat.ne_of_lt (HO2.out.lt q hq).2
          generalize hbx : w2.heap.size = bx at hX3 hne ⊢
          have HNE := Lib.hid hne
          generalize hW3 : w2.alloc (.cells #[.int .i64 k, .string (strB tx), .int .i64 n, .int .i64 j] 31) = W3 at hB3 hO3 hX3 ⊢
          have HX3 := Lib.hid hX3
          obtain ⟨c0, c1, c2, c3, cf, cl⟩ := cells4 hX3
          clear hbx hW3 hX3 HO2 HB2 hne
          obtain ⟨hi31, hz31, hs31, hb31⟩ := HI.out
          have hB3s := hB3.size
          go_wp2_with (at_builtin; refine wpList_append_own _ rfl (.tmp 28) (.tmp 30) 23 rfl w1.heap.size 31 i31 _ 4 40 Tryd.underlying23 hi31 hz31 hs31 hb31 rfl (by decide) (.slice og ts.length cap) ts.length _ rfl (row_below (alloc_below _ _) hO3) ⟨W3.heap.size, 0, none⟩ 1 1 (tokC ⟨k, tx, n, j⟩) rfl rfl ?c1 ?c2 ?c3 ?c4 ?c5 ?_)
          case c1 => first | exact new_cells W3 (tokC ⟨k, tx, n, j⟩) 31 _ rfl | exact fun _ _ h => h
          case c2 => exact tok_cells _
          case c3 => unfold maxLen; omega
          case c4 => omega
          case c5 => first | omega | (simp; omega)
          intro v' w4 hown4 hgrow _
          have hb4 : Below w1.heap.size w1 w4 := (hB3.alloc hB3s _).grown hgrow (by simp; omega) fun q hq => (hO3.lt q hq).1
          have hX4 : w4.heap[bx]? = some (.cells #[.int .i64 k, .string (strB tx), .int .i64 n, .int .i64 j] 31) := by
            rw [hgrow.block bx (by simp; omega) (fun h => HNE.out bx h.symm rfl), Below.heap_alloc _ _ _ cl]
            exact HX3.out
          rw [← toksC_snoc] at hown4
          have HX4 := Lib.hid hX4
          have HB4 := Lib.hid hb4
          have HO4 := Lib.hid hown4
          clear hown4 hgrow hO3 hB3 c0 c1 c2 c3 cf cl hX4 hb4 hi31 hz31 hs31 hb31
          obtain ⟨c0, c1, c2, c3, cf, cl⟩ := cells4 HX4.out
          go_wp2_with (go_at_call 19; refine (hpb.out _).mono ?_; rintro e w5 ⟨rfl, rfl⟩)
          go_roundw
          case rel =>
            refine ⟨j + m + k1, ts ++ [⟨k, tx, n, j⟩], hk1s, rfl, ?_, HB4.out, hR2.out, by simp; omega⟩
            rw [List.length_append, List.length_singleton]
            exact HO4.out
          case measure => simp [intOf]; omega
      · have t1 : decide ((j : Int) < s.size) = false := by simp; omega
        obtain rfl : j = s.size := by omega
        have hq : Hid (lexL (bs s) = .good ts) := Lib.hid (by
          rw [hL.out, ← hrel, List.drop_eq_nil_of_le (by rw [bs_len]; omega), lexQ_nil]
          simp [Res.pre])
        obtain ⟨hi31, hz31, hs31, hb31⟩ := HI.out
        have hbs := hb.size
        clear hrel
        go_wp2_with (at_builtin; refine wpList_append_own _ rfl (.tmp 39) (.tmp 43) 23 rfl w1.heap.size 31 i31 _ 4 40 Tryd.underlying23 hi31 hz31 hs31 hb31 rfl (by decide) (.slice og ts.length cap) ts.length _ rfl (row_below (alloc_below _ _) hown) ⟨wr.heap.size, 0, none⟩ 1 1 (tokC (endTok s)) rfl rfl ?d1 ?d2 ?d3 ?d4 ?d5 ?_)
        case d1 => first | exact new_cells wr (tokC (endTok s)) 31 _ rfl | exact fun _ _ h => h
        case d2 => exact tok_cells _
        case d3 => unfold maxLen; omega
        case d4 => omega
        case d5 => first | omega | (simp; omega)
        intro v' w4 hown4 hgrow _
        have hb4 : Below w1.heap.size w1 w4 := (hb.alloc hbs _).grown hgrow (by simp; omega) fun q hq => (hown.lt q hq).1
        rw [← toksC_snoc] at hown4
        obtain ⟨og2, g2, cap2, rfl, hog2⟩ := row_shape hown4
        obtain rfl := hog2 (by omega)
        have hT := ToksAt.of_own hown4
        have hg2 := (own_cells hown4).2.1
        go_wp2
        go_returns
        refine ⟨?_, hb4⟩
        show LexOut _ s (.returned (.tuple #[.slice (some ⟨g2, 0, none⟩) (ts.length + 1) cap2, .int .i64 0, .int .i64 0])) _
        rw [LexOut, hq.out]
        exact ⟨g2, cap2, rfl, hg2, hT⟩
  · have t0 : decide ((s.size : Int) > 65536) = true := by simp; omega
    have hL := Lib.hid (show lexL (bs s) = .bad 43 0 by rw [lexL, if_neg (by rw [bs_len]; exact hs)])
    go_enter Tryd.func10, Tryd.ntmps10
    go_wp2
    go_returns
    exact ⟨show LexOut _ s (.returned (.tuple #[.slice none 0 0, .int .i64 43, .int .i64 0])) _ from by rw [LexOut, hL.out]; rfl, Below.refl _ _⟩
end Go.Proofs.YthhkndnmeafanaaDoor
