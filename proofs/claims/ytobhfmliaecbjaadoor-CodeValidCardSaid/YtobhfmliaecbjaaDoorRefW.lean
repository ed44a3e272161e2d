/-
  written of the document's own: is each register written ahead of where it is read? Conditions: the function lies in the heap, its registers and labels are such.
-/
import Derived.Test.YtobhfmliaecbjaaDoorRefC
import Derived.Test.YtobhfmliaecbjaaDoorRefS
import Derived.Deep.LoopGhost
import Derived.Deep.CutBlock
import Derived.Deep.DeepCutAuto
import Derived.Deep.QuietTactic
import Derived.BigQuiet
namespace Go.Proofs.YtobhfmliaecbjaaDoor
open Go.RowKit

/-- the row that is gone on with -/
def NextAt (Bn : Nat) (w : World) (v : Value) (l : List Int) : Prop := w.ownsRow Bn 3 1 v l.length (l.map (Value.int .i64))
theorem NextAt.below {Bn : Nat} {w w' : World} {v : Value} {l : List Int} (h : NextAt Bn w v l) (hb : Below w.heap.size w w') : NextAt Bn w' v l := row_below hb h

theorem wpList_append_none {ops : Array Oper} {rest : List Oper} {o : Oper} {a : Act} {w : World} {Q : Exit → Act → World → Prop} (hgd : o.guard = none) (s x : Operand) (t : TypeId)
    (ho : o.op = .call { callee := .builtin .append, args := #[s, x], argTypes := #[t, t] }) (v u r : Value) (hs : a.eval s = v) (hx : a.eval x = u)
    (hrun : (Builtin.append_ #[t, t] o.type #[v, u]).run Tryd.prog w = .ok r w) (h : wpList Tryd.prog ops Q rest (a.put o.dst r) w) : wpList Tryd.prog ops Q (o :: rest) a w :=
  wpList_plain hgd fun K hK => by
    unfold Oper.wp execOp
    simp only [ho, resolve, invoke, builtin, Sem.run_bind, Sem.run_pure, Result.andThen_ok, List.map_toArray, List.map_cons, List.map_nil, hs, hx, hrun]
    exact hK _ _ h
theorem addr_addn (g o j : Nat) : ((⟨g, o, none⟩ : Addr).add j) = ⟨g, o + j, none⟩ := by unfold Addr.add; split <;> simp_all
theorem goes_in {x : In} {k : Nat} {z : Int} (hz : z ∈ nextL x k) : 0 ≤ z → ∃ j : Nat, z = j ∧ goes x k j := fun h0 => ⟨z.toNat, by omega, mem_next.1 (by rw [show ((z.toNat : Nat) : Int) = z by omega]; exact hz)⟩
theorem next_small {f : List In} (hF : Fit f) {k : Nat} {x : In} (hx : f[k]? = some x) {z : Int} (hz : z ∈ nextL x k) : ∃ j : Nat, z = j ∧ j < f.length ∧ goes x k j := by
  unfold nextL at hz
  rcases List.mem_append.1 hz with h | h
  · obtain ⟨h0, h1⟩ := hF.labels k x hx z h
    exact ⟨z.toNat, by omega, by omega, .inl (by rw [show ((z.toNat : Nat) : Int) = z by omega]; exact h)⟩
  · split at h
    · rename_i hf
      have h1 : z = (k : Int) + 1 := by simpa using h
      have := hF.last k x hx hf
      exact ⟨k + 1, by omega, this, .inr ⟨hf, rfl⟩⟩
    · simp at h

theorem writesV_cases2 (o : Option Int) : (o = none ∧ writesV o = .tuple #[.int .i64 0, .bool false]) ∨ ∃ r, o = some r ∧ writesV o = .tuple #[.int .i64 r, .bool true] := by
  cases o with
  | none => exact .inl ⟨rfl, rfl⟩
  | some r => exact .inr ⟨r, rfl, rfl⟩

set_option maxRecDepth 100000 in
set_option maxHeartbeats 16000000 in
theorem written_any (w : World) (v : Value) (f : List In) (hf : FunV w v f) (hF : Fit f) (h0 : 0 < f.length) (hn : f.length ≤ 65536) (k0 : Int) (hlab : ∀ x ∈ f, x.l.length ≤ 1000000) :
    Calls Tryd.prog 35 #[v, .int .i64 k0] w fun e w' => ∃ b : Bool, e = .returned (.bool b) ∧ (b = true ↔ Ahead f (zk k0).testBit) ∧ Below w.heap.size w w' := by
  obtain ⟨oa, capf, bf, off, rfl, q1, q2, q3, q4⟩ := hf
  unfold maxLen at q2
  obtain ⟨rfl, hbf⟩ := q3 h0
  have HQ := Lib.hid q4
  have HF := Lib.hid hF
  have HLAB := Lib.hid hlab
  have HST := Lib.hid (RInv.start f k0 h0)
  obtain ⟨hA0, hBl0⟩ := A3_at w f.length h0 (k0 == 0)
  replace hA0 := Lib.hid hA0
  replace hBl0 := Lib.hid hBl0
  obtain ⟨n, hnn⟩ : ∃ n, n = f.length := ⟨_, rfl⟩
  have HN := Lib.hid hnn
  have mk1 := make_rows n (by omega)
  have mk2 := make_mets n (by omega)
  have mk3 := make_16
  rw [← hnn] at q1 hA0 hBl0 HST h0 hn
  rw [← hnn]
  unfold A3 at hA0 hBl0
  obtain ⟨B, hB⟩ : ∃ B, B = w.heap.size := ⟨_, rfl⟩
  have HB := Lib.hid hB
  clear q4 q3 hF hlab hnn hB
  go_enter Tryd.func35, Tryd.ntmps35
  go_wp2_with fail
  generalize (((w.alloc (.cells ((Array.replicate n (.slice none 0 0)).setIfInBounds 0 (.slice (some ⟨w.heap.size + 1 + 1, 0, none⟩) 16 16)) 78)).alloc (.cells ((Array.replicate n (.bool false)).setIfInBounds 0 (.bool true)) 4)).alloc (.cells ((Array.replicate 16 (.bool false)).setIfInBounds 0 (.bool (k0 == 0))) 4) : World) = W5 at hA0 hBl0 ⊢
  obtain ⟨st1, hst1⟩ : ∃ st1 : Mb, st1 = (List.replicate n none).set 0 (some ((k0 == 0) :: List.replicate 15 false)) := ⟨_, rfl⟩
  obtain ⟨vs1, hvs1⟩ : ∃ vs1 : List Value, vs1 = (List.replicate n (.slice none 0 0)).set 0 (.slice (some ⟨w.heap.size + 1 + 1, 0, none⟩) 16 16) := ⟨_, rfl⟩
  rw [← hst1, ← hvs1] at hA0
  rw [← hst1] at HST
  have hph := Lib.hid (ph_le st1 HST.out.row)
  have hsl := Lib.hid HST.out.len
  simp only [← HB.out] at hA0 hBl0 ⊢
  generalize hgm : B + 1 = gm at hA0 ⊢
  clear hst1 hvs1 mk1 mk2 mk3 hgm
  go_loopg [7] (17 * n + 1) (fun g u7 wr => ∃ (v : Bool) (vs : List Value) (st : Mb), u7 = .bool v ∧ BAt B B gm wr vs st ∧ RInv f (zk k0).testBit st ∧ (v = false → ∀ k, k < n → Clo f st k) ∧ (v = true → ph st + 1 ≤ g) ∧ g ≤ 17 * n + 1 ∧ Below B w wr)
  case atStart => exact ⟨true, vs1, st1, rfl, hA0.out, HST.out, fun h => (by cases h), fun _ => by have := hph.out; have := hsl.out; have := HN.out; omega, Nat.le_refl _, hBl0.out⟩
  case round =>
    clear hA0 hBl0 HST hph hsl
    obtain ⟨v, vs, st0, rfl, A, R, hcl, hph, hgk, hb⟩ := hrel
    have HA := Lib.hid A
    have HR := Lib.hid R
    have HCL := Lib.hid hcl
    have HPH := Lib.hid hph
    have Hb := Lib.hid hb
    have hbfr : bf < wr.heap.size := Nat.lt_of_lt_of_le hbf (by have := hb.size; have := HB.out; omega)
    clear A R hcl hph hb
    cases v with
    | true =>
      go_wp2_with fail
      go_loopw [7, 8] (fun u7 u8 wr => ∃ (v : Bool) (k : Nat) (vs : List Value) (st : Mb), k ≤ n ∧ u7 = .bool v ∧ u8 = .int .i64 k ∧ BAt B B gm wr vs st ∧ Pass f (zk k0).testBit st0 st v (∀ k', k' < k → Clo f st0 k') ∧ Below B w wr) (fun _ u8 _ => n - (intOf u8).toNat)
      case atStart => exact ⟨false, 0, vs, st0, by omega, rfl, rfl, HA.out, ⟨HR.out, fun _ => ⟨rfl, fun k' h => absurd h (Nat.not_lt_zero _)⟩, fun h => (by cases h)⟩, Hb.out⟩
      case round =>
        clear hbfr HA Hb
        obtain ⟨v, k, vs, st, hk, rfl, rfl, A, P, hb⟩ := hrel
        have HP := Lib.hid P
        have hbwB : B ≤ wr.heap.size := by have := hb.size; have := HB.out; omega
        have hbfr : bf < wr.heap.size := Nat.lt_of_lt_of_le hbf (by have := hb.size; have := HB.out; omega)
        by_cases hkl : k < n
        · have t1 : decide ((k : Int) < n) = true := by simpa using hkl
          have hstl : st.length = n := by rw [P.inv.len, HN.out]
          obtain ⟨o, ho⟩ : ∃ o, st[k]? = some o := ⟨_, List.getElem?_eq_getElem (by omega)⟩
          have m0 := A.read ho
          have hgml := World.block_lt_of_cell? wr _ m0
          cases o with
          | none =>
            have hA := Lib.hid A
            have hb' := Lib.hid hb
            have hnone : Hid (st = st0 → Clo f st0 k) := Lib.hid fun e l x h1 => by rw [← e, ho] at h1; cases h1
            clear A P hb ho
            go_wp2
            go_roundw
            case rel =>
              refine ⟨v, k + 1, vs, st, by omega, rfl, by go_num, hA.out, HP.out.mono fun hv e hq k' hk' => ?_, hb'.out⟩
              by_cases e2 : k' = k
              · subst e2; exact hnone.out e
              · exact hq k' (by omega)
            case measure => simp [intOf]; omega
          | some l =>
            obtain ⟨g, cap, r0, hv, hrow, hgne⟩ := A.row ho
            obtain ⟨hglt, hgB, hgc, hgf, -⟩ := row_cells hrow
            have hl16 := P.inv.row k l ho
            obtain ⟨x, hx⟩ : ∃ x, f[k]? = some x := ⟨_, List.getElem?_eq_getElem (by have := HN.out; omega)⟩
            obtain ⟨lv, i0, i1, i2, i3, i4, oal, capl, bl, offl, rfl, l1, l2, l3, l4⟩ := HQ.out k x hx
            unfold maxLen at l2
            have hxl := HLAB.out x (List.mem_of_getElem? hx)
            obtain ⟨iq, hi4, hz4, hs4, hb4⟩ := info_parts info4
            have HX := Lib.hid hx
            have HV := Lib.hid hv
            have hA := Lib.hid A
            have hbb := Lib.hid hb
            have HO := Lib.hid ho
            have hnl : (l.map Value.bool).length = 16 * 1 := by simp [hl16]
            have hnews : Hid (∀ j u, (l.map Value.bool)[j]? = some u → wr.cell? ((⟨g, 0, none⟩ : Addr).add j) = some u) := Lib.hid fun j u hu => by
              rw [addr_add0]; exact hgc j u hu
            have hone : Hid (∀ u ∈ l.map Value.bool, u.oneCell' = true) := Lib.hid fun u hu => by obtain ⟨b, _, rfl⟩ := List.mem_map.1 hu; rfl
            have hinx := Lib.hid (show ∀ w', Below w.heap.size w w' → w'.cell? ⟨bf, off + k * 5, none⟩ = some (.int .i64 x.op) ∧ w'.cell? ⟨bf, off + k * 5 + 1, none⟩ = some (.int .i64 x.a) ∧ w'.cell? ⟨bf, off + k * 5 + 2, none⟩ = some (.int .i64 x.b) ∧ w'.cell? ⟨bf, off + k * 5 + 3, none⟩ = some (.int .i64 x.c) ∧ w'.cell? ⟨bf, off + k * 5 + 4, none⟩ = some (.slice oal x.l.length capl) ∧ bf < w'.heap.size from fun w' h =>
              ⟨(h.cell (p := ⟨bf, off + k * 5, none⟩) hbf).trans i0, (h.cell (p := ⟨bf, off + k * 5 + 1, none⟩) hbf).trans i1, (h.cell (p := ⟨bf, off + k * 5 + 2, none⟩) hbf).trans i2, (h.cell (p := ⟨bf, off + k * 5 + 3, none⟩) hbf).trans i3, (h.cell (p := ⟨bf, off + k * 5 + 4, none⟩) hbf).trans i4, Nat.lt_of_lt_of_le hbf h.size⟩)
            have hlx := Lib.hid (show 0 < x.l.length → oal = some ⟨bl, offl, none⟩ ∧ ∀ w', Below w.heap.size w w' → ∀ (q : Nat) (z : Int), x.l[q]? = some z → w'.cell? ⟨bl, offl + q, none⟩ = some (.int .i64 z) from fun h => ⟨(l3 h).1, fun w' hb q z hz => (hb.cell (p := ⟨bl, offl + q, none⟩) (l3 h).2).trans (l4 q z hz)⟩)
            clear A P hb hx hv ho hrow hgc hgf i0 i1 i2 i3 i4 l3 l4
            go_wp2_with (at_builtin; refine wpList_append_own _ rfl (.tmp 48) (.tmp 52) 78 rfl wr.heap.size 4 iq _ 1 1 Tryd.underlying78 hi4 hz4 hs4 hb4 rfl (by decide) (.slice none 0 0) 0 [] rfl (World.ownsRow_nil _ _ _ _) ⟨g, 0, none⟩ 16 cap (l.map Value.bool) rfl hnl hnews.out hone.out ?a1 ?a2 ?a3 ?_)
            try case a1 => unfold maxLen; omega
            try case a2 => omega
            try case a3 => omega
            intro v5 w5 hown5 hg5 _
            have hb5 : Below wr.heap.size wr w5 := ⟨hg5.os, hg5.tape, hg5.output, hg5.size, fun q hq => hg5.block q hq (by simp [Value.ownBlock])⟩
            obtain ⟨og, go, capo, rfl, hog⟩ := row_shape hown5
            obtain rfl := hog (by omega)
            have O5 := Lib.hid (hA.out.out hbwB hown5)
            have A5 := Lib.hid (hA.out.stay (Stay.of_below hb5))
            have B5 := Lib.hid (hbb.out.trans (hb5.mono hbwB))
            have hBw5 : B ≤ w5.heap.size := Nat.le_trans hbwB hb5.size
            clear hown5 hg5 hb5 hog hi4 hz4 hs4 hb4 hnews hone hnl m0 r0 hgml hglt
            obtain ⟨i0, i1, i2, i3, i4, hbf5⟩ := hinx.out w5 (by rw [← HB.out]; exact B5.out)
            have hcw := refWrites_any x (.slice oal x.l.length capl) w5
            unfold In.val at hcw
            go_wp2_with fail
            refine hcw.mono ?_
            clear hcw
            rintro e w6 ⟨rfl, hb6⟩
            have O6 := Lib.hid (O5.out.stay (Stay.of_below hb6))
            have A6 := Lib.hid (A5.out.stay (Stay.of_below hb6))
            have B6 := Lib.hid (B5.out.trans (hb6.mono hBw5))
            have hBw6 : B ≤ w6.heap.size := Nat.le_trans hBw5 hb6.size
            have hgo6 := (row_cells O6.out.own).1
            have hfro := (row_cells O6.out.own).2.2.2.1
            clear hb6 i0 i1 i2 i3 i4 hbf5 O5 A5 B5
            obtain ⟨wa, wb, hwv⟩ : ∃ wa wb, writesV (writesO x) = .tuple #[.int .i64 wa, .bool wb] := by
              rcases writesV_cases2 (writesO x) with ⟨_, e⟩ | ⟨r, _, e⟩
              · exact ⟨0, false, e⟩
              · exact ⟨r, true, e⟩
            rw [hwv]
            replace hwv := Lib.hid hwv
            have hun : Hid (∀ j, goes x k j → ∀ r : Nat, (nowL l x)[r]? = some false → Un f (zk k0).testBit r j) := Lib.hid fun j hg r hr => HP.out.inv.out HF.out HO.out HX.out hg hr
            go_upto_if 62 with fail
            go_cut [] (fun wc => BAt B B gm wc vs st ∧ OutAt B gm wc vs go capo (nowL l x) ∧ Below B w wc)
            case first =>
              rcases writesV_cases2 (writesO x) with ⟨hw, e⟩ | ⟨r, hw, e⟩
              · have h1 := hwv.out
                rw [e] at h1
                cases h1
                have hnl2 := Lib.hid (show nowL l x = l by rw [nowL, hw])
                clear e hw
                go_wp2_with fail
                go_meet
                case rel => exact ⟨A6.out, by rw [hnl2.out]; exact O6.out, B6.out⟩
              · have h1 := hwv.out
                rw [e] at h1
                cases h1
                obtain ⟨hr0, hr1⟩ := HF.out.writes k x HX.out wa hw
                obtain ⟨rn, rfl⟩ : ∃ rn : Nat, wa = rn := ⟨wa.toNat, by omega⟩
                have hnl2 := Lib.hid (show nowL l x = l.set rn true by rw [nowL, hw]; rfl)
                have hset := Lib.hid (A6.out.setOut O6.out rn true)
                have hcl : ∃ u, w6.cell? ⟨go, rn, none⟩ = some u := ⟨_, (row_cells O6.out.own).2.2.1 rn (.bool (l[rn]'(by omega))) (by rw [List.getElem?_map, List.getElem?_eq_getElem (by omega)]; rfl)⟩
                obtain ⟨u, hcl⟩ := hcl
                have hfr1 := hfro rn
                clear e hw
                go_wp2_with fail
                go_meet
                case rel => exact ⟨hset.out.1, by rw [hnl2.out]; exact hset.out.2.1, B6.out.trans hset.out.2.2⟩
            case rest =>
            obtain ⟨A7, O7, B7⟩ := hcut
            obtain ⟨w7, hw7⟩ : ∃ w7, w7 = wc := ⟨_, rfl⟩
            subst hw7
            replace A7 := Lib.hid A7
            replace O7 := Lib.hid O7
            replace B7 := Lib.hid B7
            clear O6 A6 B6 hgo6 hfro hwv hBw6 hBw5
            obtain ⟨out, hout⟩ : ∃ out, out = nowL l x := ⟨_, rfl⟩
            rw [← hout] at O7 hun
            have hout16 : out.length = 16 := by rw [hout, nowL_len]; exact hl16
            replace hout := Lib.hid hout
            have hBc : B ≤ w7.heap.size := by have := B7.out.size; have := HB.out; omega
            obtain ⟨i0, i1, i2, i3, i4, hbf7⟩ := hinx.out w7 (by rw [← HB.out]; exact B7.out)
            go_upto_region 19 with fail
            obtain ⟨i3q, hi3, hz3, hs3, hb3⟩ := info_parts info3
            go_cut [12] (fun s12 wd => NextAt B wd s12 x.l ∧ BAt B B gm wd vs st ∧ OutAt B gm wd vs go capo out ∧ Below B w wd)
            case first =>
              by_cases hl0 : x.l.length = 0
              · have happ : ∀ W, (Builtin.append_ #[23, 23] 23 #[.slice none 0 0, .slice oal 0 capl]).run Tryd.prog W = .ok (.slice none 0 0) W := fun W => app_nil oal capl W
                rw [hl0] at i4
                have hxl0 : x.l = [] := List.length_eq_zero_iff.1 hl0
                replace hxl0 := Lib.hid hxl0
                clear hl0
                go_wp2_with (at_builtin; refine wpList_append_none rfl (.tmp 66) (.tmp 71) 23 rfl (.slice none 0 0) (.slice oal 0 capl) _ rfl rfl (happ _) ?_)
                go_meet
                case rel => exact ⟨by rw [hxl0.out]; exact World.ownsRow_nil _ _ _ _, A7.out, O7.out, B7.out⟩
              · obtain ⟨rfl, hlc⟩ := hlx.out (by omega)
                have hnews : Hid (∀ j u, (x.l.map (Value.int .i64))[j]? = some u → w7.cell? ((⟨bl, offl, none⟩ : Addr).add j) = some u) := Lib.hid fun j u hu => by
                  rw [List.getElem?_map] at hu
                  obtain ⟨z, hz, rfl⟩ := Option.map_eq_some_iff.1 hu
                  have e : ((⟨bl, offl, none⟩ : Addr).add j) = ⟨bl, offl + j, none⟩ := addr_addn bl offl j
                  rw [e]
                  exact hlc w7 (by rw [← HB.out]; exact B7.out) j z hz
                have hone : Hid (∀ u ∈ x.l.map (Value.int .i64), u.oneCell' = true) := Lib.hid fun u hu => by obtain ⟨b, _, rfl⟩ := List.mem_map.1 hu; rfl
                have hlen1 : (x.l.map (Value.int .i64)).length = x.l.length * 1 := by simp
                clear hl0 hlc
                go_wp2_with (at_builtin; refine wpList_append_own _ rfl (.tmp 66) (.tmp 71) 23 rfl B 3 i3q _ 1 8 Tryd.underlying23 hi3 hz3 hs3 hb3 rfl (by decide) (.slice none 0 0) 0 [] rfl (World.ownsRow_nil _ _ _ _) ⟨bl, offl, none⟩ x.l.length capl (x.l.map (Value.int .i64)) rfl hlen1 hnews.out hone.out ?b1 ?b2 ?b3 ?_)
                try case b1 => unfold maxLen; omega
                try case b2 => omega
                try case b3 => omega
                intro v8 w8 hown8 hg8 _
                have hb8 : Below w7.heap.size w7 w8 := ⟨hg8.os, hg8.tape, hg8.output, hg8.size, fun q hq => hg8.block q hq (by simp [Value.ownBlock])⟩
                have hnx : Hid (NextAt B w8 v8 x.l) := Lib.hid (by unfold NextAt; simpa using hown8)
                clear hown8 hg8 hnews hone hlen1
                go_wp2_with fail
                go_meet
                case rel => exact ⟨hnx.out, A7.out.stay (Stay.of_below hb8), O7.out.stay (Stay.of_below hb8), B7.out.trans (hb8.mono hBc)⟩
            case rest =>
            obtain ⟨N8, A8, O8, B8⟩ := hcut
            obtain ⟨wd, hwd⟩ : ∃ wd, wd = wc := ⟨_, rfl⟩
            subst hwd
            clear A7 O7 B7 i0 i1 i2 i3 i4 hbf7 hBc
            replace N8 := Lib.hid N8
            replace A8 := Lib.hid A8
            replace O8 := Lib.hid O8
            replace B8 := Lib.hid B8
            have hBd : B ≤ wd.heap.size := by have := B8.out.size; have := HB.out; omega
            obtain ⟨i0, i1, i2, i3, i4, hbf8⟩ := hinx.out wd (by rw [← HB.out]; exact B8.out)
            have hcf := refFalls_any x (.slice oal x.l.length capl) wd
            unfold In.val at hcf
            go_wp2_with fail
            refine hcf.mono ?_
            clear hcf
            rintro e w9 ⟨rfl, hb9⟩
            have N9 := Lib.hid (N8.out.below hb9)
            have A9 := Lib.hid (A8.out.stay (Stay.of_below hb9))
            have O9 := Lib.hid (O8.out.stay (Stay.of_below hb9))
            have B9 := Lib.hid (B8.out.trans (hb9.mono hBd))
            have hB9 : B ≤ w9.heap.size := Nat.le_trans hBd hb9.size
            clear hb9 i0 i1 i2 i3 i4 hbf8 N8 A8 O8 B8 hBd
            obtain ⟨fb, hfb⟩ : ∃ fb, fb = fallsB x.op := ⟨_, rfl⟩
            rw [← hfb]
            replace hfb := Lib.hid hfb
            go_upto_if 77 with fail
            go_cut [12] (fun s12 we => NextAt B we s12 (nextL x k) ∧ BAt B B gm we vs st ∧ OutAt B gm we vs go capo out ∧ Below B w we)
            case first =>
              cases fb with
              | false =>
                have hnl2 := Lib.hid (show nextL x k = x.l by rw [nextL, ← hfb.out]; simp)
                go_wp2_with fail
                go_meet
                case rel => exact ⟨by rw [hnl2.out]; exact N9.out, A9.out, O9.out, B9.out⟩
              | true =>
                have hnl2 := Lib.hid (show nextL x k = x.l ++ [(k : Int) + 1] by rw [nextL, ← hfb.out]; simp)
                have hown := row_below (alloc_below w9 (.cells #[.int .i64 ((k : Int) + 1)] 3)) N9.out
                go_wp2_with (at_builtin; refine wpList_append_own _ rfl (.tmp 78) (.tmp 81) 23 rfl B 3 i3q _ 1 8 Tryd.underlying23 hi3 hz3 hs3 hb3 rfl (by decide) _ x.l.length _ rfl hown ⟨w9.heap.size, 0, none⟩ 1 1 [.int .i64 ((k : Int) + 1)] rfl rfl ?d1 ?d2 ?d3 ?d4 ?d5 ?_)
                try case d1 => exact new_cells w9 [.int .i64 ((k : Int) + 1)] 3 _ rfl
                try case d2 => first | rfl | (intro u hu; simp at hu; rcases hu with rfl; rfl)
                try case d3 => unfold maxLen; omega
                try case d4 => omega
                try case d5 => first | omega | (simp; omega)
                intro v10 w10 hown10 hg10 _
                have hs10 : Stay w9 w10 := (Stay.of_below (alloc_below _ _)).trans (Stay.grown hown (by decide) hg10)
                have hb10 : Hid (Below B w w10) := Lib.hid ((B9.out.alloc hB9 _).grown hg10 (by simp; omega) (fun q hq => (hown.lt q hq).1))
                have hnx : Hid (NextAt B w10 v10 (nextL x k)) := Lib.hid (by rw [hnl2.out]; unfold NextAt; simpa using hown10)
                replace hs10 := Lib.hid hs10
                clear hown10 hg10 hown
                go_wp2_with fail
                go_meet
                case rel => exact ⟨hnx.out, A9.out.stay hs10.out, O9.out.stay hs10.out, hb10.out⟩
            case rest =>
            obtain ⟨N10, A10, O10, B10⟩ := hcut
            obtain ⟨we, hwe⟩ : ∃ we, we = wc := ⟨_, rfl⟩
            subst hwe
            clear N9 A9 O9 B9 hB9 hi3 hz3 hs3 hb3
            obtain ⟨onx, gx, capn, rfl, hog2⟩ := row_shape N10
            replace N10 := Lib.hid N10
            replace A10 := Lib.hid A10
            replace O10 := Lib.hid O10
            replace B10 := Lib.hid B10
            obtain ⟨L, hL⟩ : ∃ L, L = nextL x k := ⟨_, rfl⟩
            rw [← hL] at N10 hog2
            simp only [← hL]
            have hLm := Lib.hid (show ∀ (m : Nat) (z : Int), L[m]? = some z → ∃ j : Nat, z = j ∧ j < n ∧ goes x k j from fun m z hz => by
              rw [hL] at hz
              obtain ⟨j, h1, h2, h3⟩ := next_small HF.out HX.out (List.mem_of_getElem? hz)
              exact ⟨j, h1, by rw [HN.out]; exact h2, h3⟩)
            have hLg := Lib.hid (show ∀ j : Nat, goes x k j → ∃ m : Nat, L[m]? = some (j : Int) from fun j hg => by
              rw [hL]; exact List.getElem?_of_mem (mem_next.2 hg))
            have hLl : L.length ≤ 1000001 := by rw [hL, nextL, List.length_append]; split <;> simp <;> omega
            obtain ⟨vk, hvk⟩ : ∃ vk, vk = v := ⟨_, rfl⟩
            clear hL
            have HP2 := Lib.hid (show Pass f (zk k0).testBit st0 st v ((∀ k', k' < k → Clo f st0 k') ∧ ∀ q j, q < 0 → L[q]? = some ((j : Nat) : Int) → Flw st0 out j) from HP.out.mono fun _ _ h => ⟨h, fun q j hq => absurd hq (Nat.not_lt_zero _)⟩)
            have hvk2 := Lib.hid hvk
            clear hvk
            go_wp2_with fail
            go_loopw [7, 13] (fun u7 u13 wr => ∃ (v : Bool) (m : Nat) (vs : List Value) (st : Mb), m ≤ L.length ∧ u7 = .bool v ∧ u13 = .int .i64 m ∧ BAt B B gm wr vs st ∧ OutAt B gm wr vs go capo out ∧ NextAt B wr (.slice onx L.length capn) L ∧ Pass f (zk k0).testBit st0 st v ((∀ k', k' < k → Clo f st0 k') ∧ ∀ q j, q < m → L[q]? = some ((j : Nat) : Int) → Flw st0 out j) ∧ (vk = true → v = true) ∧ Below B w wr) (fun _ u13 _ => L.length - (intOf u13).toNat)
            case atStart => exact ⟨v, 0, vs, st, by omega, rfl, rfl, A10.out, O10.out, N10.out, HP2.out, fun h => by rw [← hvk2.out]; exact h, B10.out⟩
            case round =>
              have HCK : Hid (∀ vv : Bool, vv = false → (vk = true → vv = true) → (∀ j, goes x k j → Flw st0 out j) → Clo f st0 k) := Lib.hid fun vv hvv himp hall l' x' hl' hx' j hg => by
                rw [HX.out] at hx'
                cases hx'
                have hvf : vk = false := by
                  cases hh : vk with
                  | false => rfl
                  | true => have := himp hh; rw [hvv] at this; cases this
                have h1 := (HP.out.still (by rw [← hvk2.out]; exact hvf)).1
                have h2 := HO.out
                rw [h1, hl'] at h2
                cases h2
                rw [← hout.out]
                exact hall j hg
              clear A10 O10 N10 HP2 B10 HP HO hvk2
              obtain ⟨v, m, vs, st, hm, rfl, rfl, A, O, N, P, hvv, hb⟩ := hrel
              have hBr : B ≤ wr.heap.size := by have := hb.size; have := HB.out; omega
              have hA := Lib.hid A
              have hO := Lib.hid O
              have hN := Lib.hid N
              have HP3 := Lib.hid P
              have hVV := Lib.hid hvv
              have hB3 := Lib.hid hb
              by_cases hml : m < L.length
              · have t5 : decide ((m : Int) < L.length) = true := by simpa using hml
                obtain ⟨z, hz⟩ : ∃ z, L[m]? = some z := ⟨_, List.getElem?_eq_getElem hml⟩
                obtain ⟨j, rfl, hjn, hgj⟩ := hLm.out m z hz
                obtain rfl := hog2 (by omega)
                have c5 : wr.cell? ⟨gx, m, none⟩ = some (.int .i64 (j : Int)) := (row_cells N).2.2.1 m _ (by rw [List.getElem?_map, hz]; rfl)
                have hgxl := (row_cells N).1
                obtain ⟨o, ho⟩ : ∃ o, st[j]? = some o := ⟨_, List.getElem?_eq_getElem (by rw [P.inv.len, ← HN.out]; exact hjn)⟩
                have m0 := A.read ho
                have hgml := World.block_lt_of_cell? wr _ m0
                have fr0 : wr.frozen? ⟨gm, j, none⟩ = false := by simp [World.frozen?, A.met]
                have HZ := Lib.hid hz
                have HGJ := Lib.hid hgj
                have HOJ := Lib.hid ho
                have HUJ := Lib.hid (hun.out j hgj)
                have hjlen : j < st.length := (List.getElem?_eq_some_iff.1 ho).1
                cases o with
                | none =>
                  obtain ⟨iq, hi4, hz4, hs4, hb4⟩ := info_parts info4
                  have hlr := (Array.getElem?_eq_some_iff.1 A.rowA).1
                  have hsz1 : (wr.setCell ⟨gm, j, none⟩ (.bool true)).heap.size = wr.heap.size := by simp [World.setCell]
                  have hcB : wr.cell? ⟨B, j, none⟩ = some (.slice none 0 0) := by simp [World.cell?, A.rowA, A.off j ho]
                  have hfB : wr.frozen? ⟨B, j, none⟩ = false := by simp [World.frozen?, A.rowA]
                  have hgmB : gm ≠ B := fun e => A.ne e.symm
                  have hbase : Hid (((wr.setCell ⟨gm, j, none⟩ (.bool true)).alloc (.cells #[] 4)).ownsRow wr.heap.size 4 1 (.slice (some ⟨wr.heap.size, 0, none⟩) 0 0) 0 []) := Lib.hid ⟨by simp, .inr ⟨wr.heap.size, 0, #[], rfl, Nat.le_refl _, by have := heap_alloc_new (wr.setCell ⟨gm, j, none⟩ (.bool true)) (.cells #[] 4); rw [hsz1] at this; exact this, Nat.le_refl _, Nat.zero_le _, by simp, by simp⟩⟩
                  have hnews : Hid (∀ q u, (out.map Value.bool)[q]? = some u → ((wr.setCell ⟨gm, j, none⟩ (.bool true)).alloc (.cells #[] 4)).cell? ((⟨go, 0, none⟩ : Addr).add q) = some u) := Lib.hid fun q u hu => by
                    obtain ⟨h1, _, h2, _⟩ := row_cells O.own
                    rw [addr_add0, ← h2 q u hu]
                    have e : ((wr.setCell ⟨gm, j, none⟩ (.bool true)).alloc (.cells #[] 4)).heap[go]? = wr.heap[go]? := by
                      rw [heap_alloc_old _ _ (by rw [hsz1]; exact h1), Below.heap_setCell wr ⟨gm, j, none⟩ _ go O.ne]
                    simp only [World.cell?, e]
                  have hone : Hid (∀ u ∈ out.map Value.bool, u.oneCell' = true) := Lib.hid fun u hu => by obtain ⟨b, _, rfl⟩ := List.mem_map.1 hu; rfl
                  have hnl : (out.map Value.bool).length = 16 * 1 := by simp [hout16]
                  clear A O N P hvv hb hz hgj ho
                  go_wp2_with (at_builtin; refine wpList_append_own _ rfl (.tmp 103) (.tmp 104) 78 rfl wr.heap.size 4 iq _ 1 1 Tryd.underlying78 hi4 hz4 hs4 hb4 rfl (by decide) (.slice (some ⟨wr.heap.size, 0, none⟩) 0 0) 0 [] (by first | rfl | simp [World.setCell]) hbase.out ⟨go, 0, none⟩ 16 capo (out.map Value.bool) rfl hnl hnews.out hone.out ?f1 ?f2 ?f3 ?_)
                  try case f1 => unfold maxLen; omega
                  try case f2 => omega
                  try case f3 => first | omega | (simp [World.setCell]; done) | (simp [World.setCell]; omega)
                  intro v11 w11 hown11 hg11 _
                  obtain ⟨og, g11, cap11, rfl, hog⟩ := row_shape hown11
                  obtain rfl := hog (by omega)
                  have hb11 : Below wr.heap.size (wr.setCell ⟨gm, j, none⟩ (.bool true)) w11 := by
                    have h1 : Below wr.heap.size (wr.setCell ⟨gm, j, none⟩ (.bool true)) ((wr.setCell ⟨gm, j, none⟩ (.bool true)).alloc (.cells #[] 4)) := by
                      have := alloc_below (wr.setCell ⟨gm, j, none⟩ (.bool true)) (.cells #[] 4)
                      rw [hsz1] at this
                      exact this
                    exact h1.grown hg11 (by simp [World.setCell]) (fun q hq => by cases hq; exact Nat.le_refl _)
                  have hgle : wr.heap.size ≤ g11 := (row_cells hown11).2.1
                  have hown12 : w11.ownsRow B 4 1 (.slice (some ⟨g11, 0, none⟩) 16 cap11) 16 (out.map Value.bool) := row_base (by simpa using hown11) hBr
                  have hcB2 : w11.cell? ⟨B, j, none⟩ = some (.slice none 0 0) := by
                    have e : w11.heap[B]? = wr.heap[B]? := by rw [hb11.block B hlr, Below.heap_setCell wr ⟨gm, j, none⟩ _ B (fun e => hgmB e.symm)]
                    simp only [World.cell?, e] at hcB ⊢; exact hcB
                  have hfB2 : w11.frozen? ⟨B, j, none⟩ = false := by
                    have e : w11.heap[B]? = wr.heap[B]? := by rw [hb11.block B hlr, Below.heap_setCell wr ⟨gm, j, none⟩ _ B (fun e => hgmB e.symm)]
                    simp only [World.frozen?, e] at hfB ⊢; exact hfB
                  have hA2 := Lib.hid (hA.out.mark HOJ.out hb11 hgle hown12)
                  have hO2 := Lib.hid (hO.out.mark (n := j) (cap' := cap11) hb11 hgle hA.out.rowA)
                  have hN2 : Hid (NextAt B (w11.setCell ⟨B, j, none⟩ (.slice (some ⟨g11, 0, none⟩) 16 cap11)) (.slice (some ⟨gx, 0, none⟩) L.length capn) L) := Lib.hid (by
                    obtain ⟨_, _, _, _, cur, hc⟩ := row_cells hN.out
                    refine row_keep hN.out ?_
                    rw [Below.heap_setCell w11 ⟨B, j, none⟩ _ gx (bne hc hA.out.rowA (by decide)), hb11.block gx hgxl, Below.heap_setCell wr ⟨gm, j, none⟩ _ gx (bne hc hA.out.met (by decide))])
                  clear hown11 hown12 hg11 hb11 hi4 hz4 hs4 hb4 hnews hone hbase hcB hfB
                  go_wp2
                  go_roundw
                  case rel =>
                    refine ⟨true, m + 1, _, _, by omega, rfl, by go_num, hA2.out.1, hO2.out, hN2.out, HP3.out.mark HOJ.out out hout16 HUJ.out _, fun _ => rfl, hB3.out.trans hA2.out.2⟩
                  case measure => simp [intOf]; omega
                | some lj =>
                  have HP4 := Lib.hid (show Pass f (zk k0).testBit st0 st v (((∀ k', k' < k → Clo f st0 k') ∧ ∀ q j, q < m → L[q]? = some ((j : Nat) : Int) → Flw st0 out j) ∧ ∀ q : Nat, q < 0 → ∀ l0, st0[j]? = some (some l0) → l0[q]? = some true → out[q]? = some true) from P.mono fun _ _ h => ⟨h, fun q hq => absurd hq (Nat.not_lt_zero _)⟩)
                  clear A O N P hvv hb hz hgj ho
                  go_wp2_with fail
                  go_loopw [7, 15] (fun u7 u15 wr => ∃ (v : Bool) (r : Nat) (st : Mb) (lj : List Bool), r ≤ 16 ∧ u7 = .bool v ∧ u15 = .int .i64 r ∧ BAt B B gm wr vs st ∧ OutAt B gm wr vs go capo out ∧ NextAt B wr (.slice (some ⟨gx, 0, none⟩) L.length capn) L ∧ Pass f (zk k0).testBit st0 st v (((∀ k', k' < k → Clo f st0 k') ∧ ∀ q j, q < m → L[q]? = some ((j : Nat) : Int) → Flw st0 out j) ∧ ∀ q : Nat, q < r → ∀ l0, st0[j]? = some (some l0) → l0[q]? = some true → out[q]? = some true) ∧ st[j]? = some (some lj) ∧ (vk = true → v = true) ∧ Below B w wr) (fun _ u15 _ => 16 - (intOf u15).toNat)
                  case atStart => exact ⟨v, 0, st, lj, by omega, rfl, rfl, hA.out, hO.out, hN.out, HP4.out, HOJ.out, hVV.out, hB3.out⟩
                  case round =>
                    clear hA hO hN HP3 HP4 hVV hB3 m0 fr0 c5 hgxl hgml HOJ hjlen
                    obtain ⟨v, r, st, lj, hr, rfl, rfl, A, O, N, P, hoj, hvv, hb⟩ := hrel
                    have hBr : B ≤ wr.heap.size := by have := hb.size; have := HB.out; omega
                    have hlj := P.inv.row j lj hoj
                    obtain ⟨gj, capj, d0, hvj, hrowj, hgjm⟩ := A.row hoj
                    have hA := Lib.hid A
                    have hO := Lib.hid O
                    have hN := Lib.hid N
                    have HP4 := Lib.hid P
                    have hVV := Lib.hid hvv
                    have hB3 := Lib.hid hb
                    have HVJ := Lib.hid hvj
                    have HOJ := Lib.hid hoj
                    by_cases hrl : r < 16
                    · have t6 : decide ((r : Int) < 16) = true := by simp; omega
                      obtain ⟨b1, hb1⟩ : ∃ b1, lj[r]? = some b1 := ⟨_, List.getElem?_eq_getElem (by omega)⟩
                      obtain ⟨b2, hb2⟩ : ∃ b2, out[r]? = some b2 := ⟨_, List.getElem?_eq_getElem (by omega)⟩
                      have c6 : wr.cell? ⟨gj, r, none⟩ = some (.bool b1) := (row_cells hrowj).2.2.1 r _ (by rw [List.getElem?_map, hb1]; rfl)
                      have c7 : wr.cell? ⟨go, r, none⟩ = some (.bool b2) := (row_cells O.own).2.2.1 r _ (by rw [List.getElem?_map, hb2]; rfl)
                      have f6 := (row_cells hrowj).2.2.2.1 r
                      have hgjl := (row_cells hrowj).1
                      have hgol := (row_cells O.own).1
                      have HB1 := Lib.hid hb1
                      have HB2 := Lib.hid hb2
                      clear A O N P hvv hb hoj hvj hrowj hb1 hb2
                      cases b1 with
                      | false =>
                        go_wp2
                        go_roundw
                        case rel =>
                          refine ⟨v, r + 1, st, lj, by omega, rfl, by go_num, hA.out, hO.out, hN.out, HP4.out.mono fun hv e hq => ⟨hq.1, fun q hq2 l0 hl0 hl1 => ?_⟩, HOJ.out, hVV.out, hB3.out⟩
                          by_cases e2 : q = r
                          · subst e2
                            have h2 := HOJ.out
                            rw [e, hl0] at h2
                            cases h2
                            rw [HB1.out] at hl1
                            cases hl1
                          · exact hq.2 q (by omega) l0 hl0 hl1
                        case measure => simp [intOf]; omega
                      | true =>
                        cases b2 with
                        | true =>
                          go_wp2
                          go_roundw
                          case rel =>
                            refine ⟨v, r + 1, st, lj, by omega, rfl, by go_num, hA.out, hO.out, hN.out, HP4.out.mono fun hv e hq => ⟨hq.1, fun q hq2 l0 hl0 hl1 => ?_⟩, HOJ.out, hVV.out, hB3.out⟩
                            by_cases e2 : q = r
                            · subst e2; exact HB2.out
                            · exact hq.2 q (by omega) l0 hl0 hl1
                          case measure => simp [intOf]; omega
                        | false =>
                          have hcl := Lib.hid (hA.out.clear HOJ.out HVJ.out r)
                          have hO2 := Lib.hid (hO.out.clear (w := wr) HVJ.out r (.bool false))
                          have hN2 : Hid (NextAt B (wr.setCell ⟨gj, r, none⟩ (.bool false)) (.slice (some ⟨gx, 0, none⟩) L.length capn) L) := Lib.hid (by
                            obtain ⟨_, _, _, _, cur, hc⟩ := row_cells hN.out
                            obtain ⟨g2, cap2, k1, k2, _⟩ := hA.out.on j lj HOJ.out
                            obtain ⟨_, _, _, _, cur2, hc2⟩ := row_cells k2
                            have e3 := HVJ.out
                            rw [k1] at e3
                            cases e3
                            exact row_keep hN.out (Below.heap_setCell wr ⟨gj, r, none⟩ _ gx (bne hc hc2 (by decide))))
                          have hst2 : Hid ((st.set j (some (lj.set r false)))[j]? = some (some (lj.set r false))) := Lib.hid (by rw [List.getElem?_set, if_pos rfl, if_pos (List.getElem?_eq_some_iff.1 HOJ.out).1])
                          go_wp2
                          go_roundw
                          case rel =>
                            exact ⟨true, r + 1, _, _, by omega, rfl, by go_num, hcl.out.1, hO2.out, hN2.out, HP4.out.clear HOJ.out HB1.out (HUJ.out r HB2.out) _, hst2.out, fun _ => rfl, hB3.out.trans hcl.out.2⟩
                          case measure => simp [intOf]; omega
                    · have t6 : decide ((r : Int) < 16) = false := by simp; omega
                      obtain rfl : r = 16 := by omega
                      clear A O N P hvv hb hoj hvj hrowj d0
                      go_wp2
                      go_roundw
                      case rel =>
                        refine ⟨v, m + 1, vs, st, by omega, rfl, by go_num, hA.out, hO.out, hN.out, HP4.out.mono fun hv e hq => ⟨hq.1.1, fun q j2 hq2 hl2 => ?_⟩, hVV.out, hB3.out⟩
                        by_cases e2 : q = m
                        · subst e2
                          rw [HZ.out] at hl2
                          have e4 : j = j2 := by have := Option.some.inj hl2; omega
                          subst e4
                          refine ⟨lj, by rw [← e]; exact HOJ.out, fun r hr => ?_⟩
                          have h16 : r < 16 := by have := (List.getElem?_eq_some_iff.1 hr).1; omega
                          exact hq.2 r h16 lj (by rw [← e]; exact HOJ.out) hr
                        · exact hq.1.2 q j2 (by omega) hl2
                      case measure => simp [intOf]; omega
              · have t5 : decide ((m : Int) < L.length) = false := by simpa using hml
                obtain rfl : m = L.length := by omega
                clear A O N P hvv hb
                go_wp2
                go_roundw
                case rel =>
                  refine ⟨v, k + 1, vs, st, by omega, rfl, by go_num, hA.out, HP3.out.mono fun hv e hq k' hk' => ?_, hB3.out⟩
                  by_cases e2 : k' = k
                  · subst e2
                    exact HCK.out v hv hVV.out fun j hg => by
                      obtain ⟨q, hq2⟩ := hLg.out j hg
                      exact hq.2 q j (List.getElem?_eq_some_iff.1 hq2).1 hq2
                  · exact hq.1 k' (by omega)
                case measure => simp [intOf]; omega
        · have t1 : decide ((k : Int) < n) = false := by simpa using hkl
          obtain rfl : k = n := by omega
          have hA := Lib.hid A
          have hb' := Lib.hid hb
          clear A P hb
          go_wp2
          go_roundg (gk - 1)
          case measure => have := HPH.out (by simp); omega
          case rel =>
            refine ⟨v, vs, st, rfl, hA.out, HP.out.inv, fun hv => ?_, fun hv => ?_, by omega, hb'.out⟩
            · obtain ⟨rfl, hq⟩ := HP.out.still hv
              exact hq
            · have h1 := HPH.out (by simp); have h2 := HP.out.less hv; omega
    | false =>
      have hcl := Lib.hid (show ∀ k, k < n → Clo f st0 k from HCL.out (by simp))
      have hstl : st0.length = n := by rw [HR.out.len, HN.out]
      obtain ⟨wo, hwo⟩ : ∃ wo, wo = wr := ⟨_, rfl⟩
      subst hwo
      have hbwB : B ≤ wo.heap.size := by have := Hb.out.size; have := HB.out; omega
      clear HCL HPH
      go_wp2_with fail
      go_loopw [16] (fun u16 wr => ∃ i : Nat, i ≤ n ∧ u16 = .int .i64 i ∧ (∀ (i' : Nat) (l : List Bool) (x : In) (r : Nat), i' < i → st0[i']? = some (some l) → f[i']? = some x → ((r : Nat) : Int) ∈ readsL x → l[r]? = some true) ∧ Below wo.heap.size wo wr) (fun u16 _ => n - (intOf u16).toNat)
      case atStart => exact ⟨0, by omega, rfl, fun i' l x r h => absurd h (Nat.not_lt_zero _), Below.refl _ _⟩
      case round =>
        clear hbfr
        obtain ⟨i, hi, rfl, hso, hb⟩ := hrel
        have HSO := Lib.hid hso
        have hb0 := Lib.hid hb
        have hbw := Lib.hid (Hb.out.trans (hb.mono hbwB))
        clear hso hb
        by_cases hil : i < n
        · have t1 : decide ((i : Int) < n) = true := by simpa using hil
          obtain ⟨x, hx⟩ : ∃ x, f[i]? = some x := ⟨_, List.getElem?_eq_getElem (by have := HN.out; omega)⟩
          obtain ⟨lv, i0, i1, i2, i3, i4, oal, capl, bl, offl, rfl, l1, l2, l3, l4⟩ := HQ.out i x hx
          have HX := Lib.hid hx
          have hbw2 : Below w.heap.size w wr := by rw [← HB.out]; exact hbw.out
          replace i0 := (hbw2.cell (p := ⟨bf, off + i * 5, none⟩) hbf).trans i0
          replace i1 := (hbw2.cell (p := ⟨bf, off + i * 5 + 1, none⟩) hbf).trans i1
          replace i2 := (hbw2.cell (p := ⟨bf, off + i * 5 + 2, none⟩) hbf).trans i2
          replace i3 := (hbw2.cell (p := ⟨bf, off + i * 5 + 3, none⟩) hbf).trans i3
          replace i4 := (hbw2.cell (p := ⟨bf, off + i * 5 + 4, none⟩) hbf).trans i4
          have hbfr : bf < wr.heap.size := Nat.lt_of_lt_of_le hbf hbw2.size
          have hcr := refReads_any x (.slice oal x.l.length capl) wr
          unfold In.val at hcr
          clear hx l3 l4 hbw2 l1 l2
          go_wp2_with fail
          refine hcr.mono ?_
          clear hcr
          rintro e w6 ⟨vr, rfl, ⟨oar, capr, br, offr, rfl, r1, r2, r3, r4⟩, hb6⟩
          unfold maxLen at r2
          replace r3 := Lib.hid r3
          replace r4 := Lib.hid r4
          have hb7 := Lib.hid (hb0.out.trans (hb6.mono hb0.out.size))
          have A7 := Lib.hid (HA.out.stay (Stay.of_below hb7.out))
          have hrl : (readsL x).length ≤ 3 := by
            have q0 := fl_len (shp x.op).f0 x.a; have q1 := fl_len (shp x.op).f1 x.b; have q2 := fl_len (shp x.op).f2 x.c
            simp only [readsL, List.length_append]; omega
          obtain ⟨o, ho⟩ : ∃ o, st0[i]? = some o := ⟨_, List.getElem?_eq_getElem (by omega)⟩
          have m0 := A7.out.read ho
          have hgml := World.block_lt_of_cell? w6 _ m0
          have HO := Lib.hid ho
          clear hb6 i0 i1 i2 i3 i4 hbfr ho
          cases o with
          | none =>
            go_wp2_with fail
            go_loopw [18] (fun u18 wr => u18 = .int .i64 0 ∧ wr = w6) (fun _ _ => 0)
            case atStart => exact ⟨rfl, rfl⟩
            case round =>
              obtain ⟨rfl, rfl⟩ := hrel
              by_cases hr0 : 0 < (readsL x).length
              · have t2 : decide ((0 : Int) < (readsL x).length) = true := by simp; omega
                go_wp2
                go_roundw
                case rel =>
                  refine ⟨i + 1, by omega, by go_num, fun i' l x' r hi' hl hx' hr => ?_, hb7.out⟩
                  by_cases e2 : i' = i
                  · subst e2; rw [HO.out] at hl; cases hl
                  · exact HSO.out i' l x' r (by omega) hl hx' hr
                case measure => simp [intOf]; omega
              · have t2 : decide ((0 : Int) < (readsL x).length) = false := by rw [decide_eq_false_iff_not]; omega
                go_wp2
                go_roundw
                case rel =>
                  refine ⟨i + 1, by omega, by go_num, fun i' l x' r hi' hl hx' hr => ?_, hb7.out⟩
                  by_cases e2 : i' = i
                  · subst e2; rw [HO.out] at hl; cases hl
                  · exact HSO.out i' l x' r (by omega) hl hx' hr
                case measure => simp [intOf]; omega
          | some l =>
            obtain ⟨g, cap, d0, hv, hrow, hgne⟩ := A7.out.row HO.out
            obtain ⟨hglt, _, hgc, _, _⟩ := row_cells hrow
            replace hgc := Lib.hid hgc
            have hl16 := HR.out.row i l HO.out
            have hBl := World.block_lt_of_cell? w6 _ d0
            clear hv hrow
            obtain ⟨w7, hw7⟩ : ∃ w7, w7 = w6 := ⟨_, rfl⟩
            subst hw7
            go_wp2_with fail
            go_loopw [18] (fun u18 wr => ∃ (q n7 : Nat), q ≤ (readsL x).length ∧ u18 = .int .i64 q ∧ (∀ (t : Nat) (r : Nat), t < q → (readsL x)[t]? = some ((r : Nat) : Int) → l[r]? = some true) ∧ wr = w7.drewN n7) (fun u18 _ => (readsL x).length - (intOf u18).toNat)
            case atStart => exact ⟨0, 0, by omega, rfl, fun t r h => absurd h (Nat.not_lt_zero _), rfl⟩
            case round =>
              obtain ⟨q, n7, hq, rfl, hs2, rfl⟩ := hrel
              have HS2 := Lib.hid hs2
              have hbd : Hid (∀ n, Below wo.heap.size wo (w7.drewN n)) := Lib.hid fun n => ⟨hb7.out.os, hb7.out.tape, hb7.out.output, hb7.out.size, hb7.out.block⟩
              have hbd2 : Hid (∀ n n', Below wo.heap.size wo ((w7.drewN n).drewN n')) := Lib.hid fun n n' => ⟨hb7.out.os, hb7.out.tape, hb7.out.output, hb7.out.size, hb7.out.block⟩
              clear hs2
              by_cases hql : q < (readsL x).length
              · have t2 : decide ((q : Int) < (readsL x).length) = true := by simp; omega
                obtain ⟨rfl, hbr⟩ := r3.out (by omega)
                obtain ⟨nz, hnz⟩ : ∃ nz, (readsL x)[q]? = some nz := ⟨_, List.getElem?_eq_getElem hql⟩
                obtain ⟨p0, p1⟩ := HF.out.reads i x HX.out nz (List.mem_of_getElem? hnz)
                obtain ⟨r, rfl⟩ : ∃ r : Nat, nz = r := ⟨nz.toNat, by omega⟩
                have c5 := r4.out q _ hnz
                obtain ⟨b1, hb1⟩ : ∃ b1, l[r]? = some b1 := ⟨_, List.getElem?_eq_getElem (by omega)⟩
                have c6 : w7.cell? ⟨g, r, none⟩ = some (.bool b1) := hgc.out r _ (by rw [List.getElem?_map, hb1]; rfl)
                have hqi : (q : Int) < (readsL x).length := by omega
                have hri : (r : Int) < 16 := by omega
                have HNZ := Lib.hid hnz
                have HB1 := Lib.hid hb1
                clear hnz hb1
                cases b1 with
                | true =>
                  go_wp2_with fail
                  go_quiet (fail)
                  go_wp2
                  go_roundw
                  case rel =>
                    refine ⟨q + 1, _, by omega, by go_num, fun t r' ht hr' => ?_, rfl⟩
                    by_cases e2 : t = q
                    · subst e2
                      rw [HNZ.out] at hr'
                      have e4 : r = r' := by have := Option.some.inj hr'; omega
                      subst e4
                      exact HB1.out
                    · exact HS2.out t r' (by omega) hr'
                  case measure => simp [intOf]; omega
                | false =>
                  go_wp2_with fail
                  go_quiet (fail)
                  go_wp2
                  go_returns
                  exact ⟨false, rfl, ⟨fun h => (by cases h), fun h => absurd (HR.out.sound i l r HO.out HB1.out) (h i x r HX.out (List.mem_of_getElem? HNZ.out))⟩, by rw [← HB.out]; first | exact Hb.out.trans ((hbd2.out _ _).mono hbwB) | exact Hb.out.trans ((hbd.out _).mono hbwB)⟩
              · have t2 : decide ((q : Int) < (readsL x).length) = false := by simp; omega
                obtain rfl : q = (readsL x).length := by omega
                go_wp2
                go_roundw
                case rel =>
                  refine ⟨i + 1, by omega, by go_num, fun i' l' x' r hi' hl hx' hr => ?_, hbd.out _⟩
                  by_cases e2 : i' = i
                  · subst e2
                    rw [HO.out] at hl
                    cases hl
                    rw [HX.out] at hx'
                    cases hx'
                    obtain ⟨t, ht⟩ := List.getElem?_of_mem hr
                    exact HS2.out t r (List.getElem?_eq_some_iff.1 ht).1 ht
                  · exact HSO.out i' l' x' r (by omega) hl hx' hr
                case measure => simp [intOf]; omega
        · have t1 : decide ((i : Int) < n) = false := by simpa using hil
          obtain rfl : i = n := by omega
          go_wp2
          go_ret
          refine ⟨true, rfl, ⟨fun _ i' x r hx hr hu => ?_, fun _ => rfl⟩, by rw [← HB.out]; exact hbw.out⟩
          have hr16 : r < 16 := by have := HF.out.reads i' x hx r hr; omega
          obtain ⟨l, h1, h2⟩ := HR.out.un HF.out (fun k hk => hcl.out k (by rw [HN.out]; exact hk)) hr16 hu
          have h3 := HSO.out i' l x r (by rw [HN.out]; exact (List.getElem?_eq_some_iff.1 hx).1) h1 hx hr
          rw [h2] at h3
          cases h3
end Go.Proofs.YtobhfmliaecbjaaDoor
