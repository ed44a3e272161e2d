/-
  GraphTurned's walk. Conditions: the arguments lie in the heap.
-/
import Derived.Test.YtfpdecjlfnambaaGTurnP
import Derived.Test.YtfpdecjlfnambaaGLawW
namespace Go.Proofs.Ytfpdecjlfnambaa
open Go Go.RowKit

set_option maxRecDepth 100000 in
set_option maxHeartbeats 8000000 in
theorem graphTurned_walk (B : Bv) (ni : Int) (oS : Option Addr) (capS : Nat) (st : List Bool) (oc : Option Addr) (capC : Nat) (C : List Chg) (w : World)
    (hB : B.At w.heap.size w) (hgl : B.g.length ≤ maxLen) (hS : BSrc w.heap.size w oS st) (hsl : st.length ≤ maxLen) (hC : CRow w.heap.size w oc C) (hcl : C.length ≤ maxLen) :
    Calls Try.prog 9 #[B.v, .int .i64 ni, .slice oS st.length capS, .slice oc C.length capC] w fun e w' => e = .returned (.bool true) ∧ Below w.heap.size w w' := by
  obtain ⟨nm, pa, lo, oa, cap, g⟩ := B
  simp only at hgl ⊢
  obtain ⟨L, hL⟩ : ∃ L, L = g.length := ⟨_, rfl⟩
  obtain ⟨nS, hnS⟩ : ∃ k, k = st.length := ⟨_, rfl⟩
  obtain ⟨kC, hnC⟩ : ∃ k, k = C.length := ⟨_, rfl⟩
  unfold maxLen at hgl hsl hcl
  have bS : nS ≤ 9223372036854775807 := by omega
  have bL : L ≤ 9223372036854775807 := by omega
  have bC' : kC ≤ 9223372036854775807 := by omega
  rw [← hnS, ← hnC]
  have HA := Lib.hid (And.intro hB (And.intro hC (And.intro hL (And.intro hnC (And.intro hS hnS)))))
  unfold Bv.v Bv.cs
  simp only [← hL]
  clear hB hC hL hnC hgl hcl hS hnS hsl
  go_enter Try.func9, Try.ntmps9
  go_upto_region 1 with fail
  obtain ⟨wa, hwa⟩ : ∃ wa, wa = w.alloc (.cells #[nm, pa, lo, .slice oa L cap] 25) := ⟨_, rfl⟩
  obtain ⟨s, hs⟩ : ∃ s, s = w.heap.size := ⟨_, rfl⟩
  rw [← hwa, ← hs]
  have hxa : Bx wa s 25 [nm, pa, lo, .slice oa L cap] := by
    rw [hwa, hs]
    exact Bx.new w _ [nm, pa, lo, .slice oa L cap]
  have hba : Below w.heap.size w wa := by
    rw [hwa]
    exact (Below.refl _ _).alloc (Nat.le_refl _) _
  have HW := Lib.hid (And.intro hxa (And.intro hba hs))
  clear hxa hba hs hwa
  have HOV : Go.RowKit.Hid (∀ W, Below w.heap.size w W → Calls Try.prog 11 #[.agg #[nm, pa, lo, .slice oa L cap], .int .i64 ni, .slice oc kC capC] W fun e w' => OverT g ni C W e w') := Lib.hid (fun W hb => by
    obtain ⟨hB, hC, hL, hnC, -⟩ := HA.out
    have h := over_any w.heap.size ⟨nm, pa, lo, oa, cap, g⟩ ni oc capC C W (hB.below hb (Nat.le_refl _)) (hC.below hb (Nat.le_refl _)) hb.size
    unfold Bv.v Bv.cs at h
    simp only [← hL, ← hnC] at h
    exact h)
  go_upto_region 4 with (go_at_call 10; refine (works_any _).mono ?_; rintro e w1 ⟨rfl, h1⟩; have hx1 := HW.out.1.below h1 HW.out.1.lt; have e0 := hx1.cell 0; have e1 := hx1.cell 1; have e2 := hx1.cell 2; have e3 := hx1.cell 3; have H1 := Lib.hid (And.intro hx1 (HW.out.2.1.trans (h1.mono HW.out.2.1.size))); simp at e0 e1 e2 e3; clear h1 hx1)
  go_upto_region 5 with (go_at_call 11; refine (HOV.out _ H1.out.2).mono ?_; clear e0 e1 e2 e3; rintro e w2 ⟨h2, o, rfl, ho⟩)
  have hx2 := H1.out.1.below h2 H1.out.1.lt
  have e0 := hx2.cell 0
  have e1 := hx2.cell 1
  have e2 := hx2.cell 2
  have e3 := hx2.cell 3
  simp at e0 e1 e2 e3
  have H2 := Lib.hid (And.intro hx2 (And.intro (H1.out.2.trans (h2.mono H1.out.2.size)) ho))
  clear h2 hx2 ho HOV
  cases o with
  | true =>
    go_wp2
    go_ret
    exact ⟨rfl, H2.out.2.1⟩
  | false =>
    by_cases c0 : 30 < nS
    · go_wp2
      go_ret
      exact ⟨rfl, H2.out.2.1⟩
    by_cases c3 : ni < 0
    · go_wp2
      go_ret
      exact ⟨rfl, H2.out.2.1⟩
    have hsm := small_of (B := ⟨nm, pa, lo, oa, cap, g⟩) (H2.out.2.2 rfl)
    have hb30 := H2.out.2.2 rfl
    have HS := Lib.hid (And.intro hsm hb30)
    have hn30 : ni ≤ 30 := hb30.2.1
    have hL30 : L ≤ 30 := by rw [HA.out.2.2.1]; exact hb30.1
    have hC90 : kC ≤ 90 := by rw [HA.out.2.2.2.1]; exact hb30.2.2.1
    obtain ⟨n, rfl⟩ : ∃ n : Nat, ni = n := ⟨ni.toNat, by omega⟩
    have hn1 : n ≤ 30 := by omega
    have hS30 : nS ≤ 30 := by omega
    clear hsm hb30 bS bL bC' hn30
    go_upto_region 7 with fail
    clear c0 c3 e0 e1 e2 e3
    have hmk := make_bools n (by omega) w2
    go_upto_region 8 with fail
    clear hmk
    obtain ⟨w3, hw3⟩ : ∃ w3, w3 = w2.alloc (.cells (Array.replicate n (.bool false)) 4) := ⟨_, rfl⟩
    obtain ⟨nb, hnb⟩ : ∃ nb, nb = w2.heap.size := ⟨_, rfl⟩
    rw [← hw3, ← hnb]
    have HN : Go.RowKit.Hid (Bx w3 nb 4 (bC (List.replicate n false)) ∧ Below w2.heap.size w2 w3 ∧ w2.heap.size ≤ nb) := Lib.hid (by
      rw [hw3, hnb]
      have h9 := Bx.new w2 4 (bC (List.replicate n false))
      simp only [bC, List.map_replicate, List.toArray_replicate] at h9
      exact ⟨by simpa [bC] using h9, (Below.refl _ _).alloc (Nat.le_refl _) _, Nat.le_refl _⟩)
    clear hw3 hnb
    go_wp2
    go_loopw [12] (fun ui wr => ∃ (i : Nat) (cur : List Bool), i ≤ n ∧ ui = .int .i64 i ∧ cur.length = n ∧ (∀ j, j < n → cur[j]?.getD false = (decide (j < i) && !(st[j]?.getD false))) ∧ Bx wr nb 4 (bC cur) ∧ Below w2.heap.size w2 wr) (fun ui _ => n - (intOf ui).toNat)
    case atStart =>
      refine ⟨0, List.replicate n false, Nat.zero_le _, rfl, by simp, fun j hj => ?_, HN.out.1, HN.out.2.1⟩
      rw [List.getElem?_replicate_of_lt hj]
      simp
    case round =>
      obtain ⟨i, cur, hi, rfl, hcl, hcj, hbx, hbr⟩ := hrel
      have HC := Lib.hid (And.intro hcl (And.intro hcj (And.intro hbx hbr)))
      by_cases hin : i < n
      · have hcy := hbx.cell i
        rw [bC_get (by omega)] at hcy
        have hfy := hbx.frozen i
        by_cases his : i < nS
        · obtain ⟨-, -, -, -, hS, hnS⟩ := HA.out
          have hbw := H2.out.2.1.trans (hbr.mono H2.out.2.1.size)
          obtain ⟨bS, fS, rfl, -, cS⟩ := hS.below hbw (Nat.le_refl _) (by omega)
          have c9 := cS i (by omega)
          obtain ⟨x, hx⟩ : ∃ x, x = st[i]?.getD false := ⟨_, rfl⟩
          rw [← hx] at c9
          have HX9 := Lib.hid hx
          clear hS hnS hbw cS hx hcl hcj hbx hbr
          go_wp2
          go_roundw
          case rel =>
            obtain ⟨hcl, hcj, hbx, hbr⟩ := HC.out
            have h1 := hbx.set i (.bool (!x))
            rw [bC_set] at h1
            refine ⟨i + 1, cur.set i (!x), by omega, nxt _, by simp [hcl], fun j hj => ?_, h1, hbr.setCell (p := ⟨nb, i, none⟩) HN.out.2.2 _⟩
            by_cases e : i = j
            · subst e
              rw [List.getElem?_set_self (by omega), HX9.out]
              simp
            · rw [List.getElem?_set_ne e, hcj j hj]
              congr 1
              simp
              omega
          case measure => exact meas hin
        · clear hcl hcj hbx hbr
          go_wp2
          go_roundw
          case rel =>
            obtain ⟨hcl, hcj, hbx, hbr⟩ := HC.out
            have h1 := hbx.set i (.bool true)
            rw [bC_set] at h1
            refine ⟨i + 1, cur.set i true, by omega, nxt _, by simp [hcl], fun j hj => ?_, h1, hbr.setCell (p := ⟨nb, i, none⟩) HN.out.2.2 _⟩
            by_cases e : i = j
            · subst e
              have hnS := HA.out.2.2.2.2.2
              rw [List.getElem?_set_self (by omega), List.getElem?_eq_none (l := st) (by omega)]
              simp
            · rw [List.getElem?_set_ne e, hcj j hj]
              congr 1
              simp
              omega
          case measure => exact meas hin
      · obtain rfl : n = i := (last hi hin).symm
        clear hcl hcj hbx hbr
        obtain ⟨w5, rfl⟩ : ∃ w5 : World, w5 = wr := ⟨_, rfl⟩
        have HF : Go.RowKit.Hid (∃ fi : List Bool, fi.length = n ∧ (∀ j, j < n → fi[j]?.getD false = !(st[j]?.getD false)) ∧ Bx w5 nb 4 (bC fi) ∧ Below w2.heap.size w2 w5 ∧ Below w.heap.size w w5) := Lib.hid (by
          obtain ⟨hcl, hcj, hbx, hbr⟩ := HC.out
          exact ⟨cur, hcl, fun j hj => by rw [hcj j hj]; simp [hj], hbx, hbr, H2.out.2.1.trans (hbr.mono H2.out.2.1.size)⟩)
        clear HC
        obtain ⟨fi, hfi⟩ := HF.out
        have HF := Lib.hid hfi
        clear hfi
        obtain ⟨i3, hi3, hz3, hs3, hb3⟩ := info_parts infoInt
        have HI3 := Lib.hid (And.intro hi3 (And.intro hz3 (And.intro hs3 hb3)))
        clear hi3 hz3 hs3 hb3
        obtain ⟨i4, hi4, hz4, hs4, hb4⟩ := info_parts infoChg
        have HI4 := Lib.hid (And.intro hi4 (And.intro hz4 (And.intro hs4 hb4)))
        clear hi4 hz4 hs4 hb4
        go_wp2
        go_loopw [13, 14] (fun um ui wr => ∃ (i : Nat) (xs : List Value), i ≤ kC ∧ ui = .int .i64 i ∧ OnceC (C.take i) ∧ TRow w.heap.size w5.heap.size wr um ((C.take i).map turnC) xs ∧ Below w5.heap.size w5 wr) (fun _ ui _ => kC - (intOf ui).toNat)
        case atStart => exact ⟨0, [], Nat.zero_le _, rfl, by intro a ha; simp at ha, by simpa using TRow.nil _ _ _, Below.refl _ _⟩
        case round =>
          obtain ⟨i, xs, hi, rfl, hon, htr, hb5⟩ := hrel
          obtain ⟨wo, rfl⟩ : ∃ wo : World, wo = wr := ⟨_, rfl⟩
          have hbw5 : Below w.heap.size w w5 := HF.out.2.2.2.2
          have hbo : Below w.heap.size w wo := hbw5.trans (hb5.mono hbw5.size)
          have h05 := hbw5.size
          have HI := Lib.hid (And.intro hon (And.intro htr (And.intro hb5 (And.intro hbo h05))))
          clear hon htr hb5 hbo hbw5 h05
          by_cases hlt : i < kC
          · as_aux_lemma =>
              obtain ⟨hB, hC, hL, hnC, hS, hnS⟩ := HA.out
              obtain ⟨bl, off, rfl, hbl, hrow⟩ := hC (by omega)
              obtain ⟨a1, a2, ⟨v3, a3, hg⟩, v4, a4, hk⟩ := hrow i (by omega)
              obtain ⟨bi, hbi⟩ : ∃ x, x = (C[i]?.getD default).b := ⟨_, rfl⟩
              obtain ⟨si, hsi⟩ : ∃ x, x = (C[i]?.getD default).s := ⟨_, rfl⟩
              obtain ⟨gl, hgl⟩ : ∃ x, x = (C[i]?.getD default).gen := ⟨_, rfl⟩
              obtain ⟨kl, hkl⟩ : ∃ x, x = (C[i]?.getD default).kill := ⟨_, rfl⟩
              rw [← hbi] at a1
              rw [← hsi] at a2
              rw [← hgl] at hg
              rw [← hkl] at hk
              obtain ⟨ng, hng⟩ : ∃ x, x = gl.length := ⟨_, rfl⟩
              obtain ⟨mk, hmk⟩ : ∃ x, x = kl.length := ⟨_, rfl⟩
              have hlens := HS.out.2.2.2.2.2 i (by omega)
              rw [← hgl, ← hkl] at hlens
              have hgl30 : ng ≤ 30 := by rw [hng]; exact hlens.1
              have hmk30 : mk ≤ 30 := by rw [hmk]; exact hlens.2
              obtain ⟨og, cg, hv3, -⟩ := id hg
              obtain ⟨ok, ck, hv4, hkc⟩ := hk
              subst hv3 hv4
              rw [← hng] at a3 hg
              rw [← hmk] at a4 hkc
              have HAI : Go.RowKit.Hid (∀ W, Below w.heap.size w W → W.cell? ⟨bl, off + i * 4, none⟩ = some (.int .i64 bi) ∧ W.cell? ⟨bl, off + i * 4 + 1, none⟩ = some (.int .i64 si) ∧ W.cell? ⟨bl, off + i * 4 + 2, none⟩ = some (.slice og ng cg) ∧ W.cell? ⟨bl, off + i * 4 + 3, none⟩ = some (.slice ok mk ck)) := Lib.hid (fun W h => ⟨below_cell h a1, below_cell h a2, below_cell h a3, below_cell h a4⟩)
              have HAJ : Go.RowKit.Hid (∀ W, Below w.heap.size w W → ∀ k, k < kC → W.cell? ⟨bl, off + k * 4, none⟩ = some (.int .i64 (C[k]?.getD default).b) ∧ W.cell? ⟨bl, off + k * 4 + 1, none⟩ = some (.int .i64 (C[k]?.getD default).s)) := Lib.hid (fun W h k hk => ⟨below_cell h (hrow k (by omega)).1, below_cell h (hrow k (by omega)).2.1⟩)
              have HAK : Go.RowKit.Hid (∀ W, Below w.heap.size w W → 0 < mk → ∃ bk fk, ok = some ⟨bk, fk, none⟩ ∧ ∀ q, q < mk → W.cell? ⟨bk, fk + q, none⟩ = some (.int .i64 (kl[q]?.getD 0))) := Lib.hid (fun W h h0 => by
                obtain ⟨bk, fk, e1, e2, e3⟩ := hkc h0
                exact ⟨bk, fk, e1, fun q hq => below_cell h (e3 q (by omega))⟩)
              have HHS0 : Go.RowKit.Hid (∀ W x, Below w.heap.size w W → Calls Try.prog 25 #[.slice og ng cg, .int .i64 x] W fun e w' => e = .returned (.bool (decide (x ∈ gl))) ∧ w' = W) := Lib.hid (fun W x h => has_any w.heap.size _ gl x W (hg.below h (Nat.le_refl _)) (by omega))
              have HGI := Lib.hid hg
              have HE := Lib.hid (And.intro hbi (And.intro hsi (And.intro hgl (And.intro hkl (And.intro hng (And.intro hmk hnC))))))
              clear hB hC hL hnC hS hnS hbl hrow hbi hsi hgl hkl hng hmk hlens hkc hg a1 a2 a3 a4
              go_wp2
              go_loopw [15] (fun uk wq => ∃ k : Nat, k ≤ i ∧ uk = .int .i64 k ∧ (∀ j, j < k → ¬ ((C[j]?.getD default).b = bi ∧ (C[j]?.getD default).s = si)) ∧ TRow w.heap.size w5.heap.size wq u13 ((C.take i).map turnC) xs ∧ Below w5.heap.size w5 wq) (fun uk _ => i - (intOf uk).toNat)
              case atStart => exact ⟨0, Nat.zero_le _, rfl, fun j hj => absurd hj (Nat.not_lt_zero _), HI.out.2.1, HI.out.2.2.1⟩
              case round =>
                obtain ⟨k, hk, rfl, hno, htr, hbq⟩ := hrel
                obtain ⟨wp, rfl⟩ : ∃ wp : World, wp = wr := ⟨_, rfl⟩
                have hbw5 : Below w.heap.size w w5 := HF.out.2.2.2.2
                have hbwp : Below w.heap.size w wp := hbw5.trans (hbq.mono hbw5.size)
                by_cases hki : k < i
                · as_aux_lemma =>
                    obtain ⟨a1, a2, -, -⟩ := HAI.out wp hbwp
                    obtain ⟨j1, j2⟩ := HAJ.out wp hbwp k (by omega)
                    obtain ⟨bk, hbk⟩ : ∃ x, x = (C[k]?.getD default).b := ⟨_, rfl⟩
                    obtain ⟨sk, hsk⟩ : ∃ x, x = (C[k]?.getD default).s := ⟨_, rfl⟩
                    rw [← hbk] at j1
                    rw [← hsk] at j2
                    have HQ := Lib.hid (And.intro hno (And.intro htr (And.intro hbq (And.intro hbk (And.intro hsk hbwp.size)))))
                    clear hno htr hbq hbk hsk hbwp hbw5
                    have hkC : k < kC := by omega
                    go_upto_region 19 with fail
                    have hSS := And.intro j1 (And.intro j2 (And.intro a1 a2))
                    by_cases e1 : bk = bi
                    · by_cases e2 : sk = si
                      · as_aux_lemma =>
                          refine wp_region_held_drew (S := (fun w' => w'.cell? ⟨bl, off + k * 4, none⟩ = some (.int .i64 bk) ∧ w'.cell? ⟨bl, off + k * 4 + 1, none⟩ = some (.int .i64 sk) ∧ w'.cell? ⟨bl, off + i * 4, none⟩ = some (.int .i64 bi) ∧ w'.cell? ⟨bl, off + i * 4 + 1, none⟩ = some (.int .i64 si))) (by kernel_rfl) ?_ (fun hHeld => ?_)
                          · exact hSS
                          refine wpAnyH_take (i := 0) (oi := { dst := some 73, op := Op.move (Operand.tmp 3), type := 27, pos := "law.go:289", after := #[], guard := none }) (v := ?vq0_38) rfl (by kernel_rfl) (by kernel_rfl) (by kernel_rfl) (fun _ _ _ h => h) (Or.inl ⟨by rfl, ?hq0_38⟩) (by assumption) ?_
                          case hq0_38 => intro w hSw; (try dsimp only at hSw); go_simp; try (with_reducible rfl)
                          (try simp only [Act.put, List.setIfInBounds_toArray, List.set_cons_zero, List.set_cons_succ])
                          refine wpAnyH_take (i := 1) (oi := { dst := some 74, op := Op.move (Operand.tmp 15), type := 3, pos := "law.go:289", after := #[], guard := none }) (v := ?vq1_39) rfl (by kernel_rfl) (by kernel_rfl) (by kernel_rfl) (fun _ _ _ h => h) (Or.inl ⟨by rfl, ?hq1_39⟩) (by assumption) ?_
                          case hq1_39 => intro w hSw; (try dsimp only at hSw); go_simp; try (with_reducible rfl)
                          (try simp only [Act.put, List.setIfInBounds_toArray, List.set_cons_zero, List.set_cons_succ])
                          refine wpAnyH_take (i := 2) (oi := { dst := some 75, op := Op.indexAddr 27 (Operand.tmp 73) (Operand.tmp 74), type := 0, pos := "law.go:289", after := #[{ on := 0, ground := Ground.data }, { on := 1, ground := Ground.data }], guard := none }) (v := .pointer (some ⟨bl, off + k * 4, none⟩)) rfl (by kernel_rfl) (by kernel_rfl) (by kernel_rfl) (fun _ _ _ h => h) (Or.inl ⟨by rfl, ?hq2_40⟩) (by assumption) ?_
                          case hq2_40 => intro w hSw; (try dsimp only at hSw); go_simp; try (intro h; exfalso; omega)
                          (try simp only [Act.put, List.setIfInBounds_toArray, List.set_cons_zero, List.set_cons_succ])
                          refine wpAnyH_take (i := 3) (oi := { dst := some 76, op := Op.fieldAddr 66 (Operand.tmp 75) 0, type := 0, pos := "law.go:289", after := #[{ on := 2, ground := Ground.data }], guard := none }) (v := .pointer (some ⟨bl, off + k * 4, none⟩)) rfl (by kernel_rfl) (by kernel_rfl) (by kernel_rfl) (fun _ _ _ h => h) (Or.inl ⟨by rfl, ?hq3_41⟩) (by assumption) ?_
                          case hq3_41 => intro w hSw; (try dsimp only at hSw); go_simp; try (intro h; exfalso; omega)
                          (try simp only [Act.put, List.setIfInBounds_toArray, List.set_cons_zero, List.set_cons_succ])
                          refine wpAnyH_take (i := 4) (oi := { dst := some 77, op := Op.load 3 (Operand.tmp 76), type := 3, pos := "law.go:289", after := #[{ on := 3, ground := Ground.data }], guard := none }) (v := ?vq4_42) rfl (by kernel_rfl) (by kernel_rfl) (by kernel_rfl) (fun _ _ _ h => h) (Or.inl ⟨by rfl, ?hq4_42⟩) (by assumption) ?_
                          case hq4_42 => intro w hSw; (try dsimp only at hSw); go_simp; try (with_reducible rfl)
                          (try simp only [Act.put, List.setIfInBounds_toArray, List.set_cons_zero, List.set_cons_succ])
                          refine wpAnyH_take (i := 5) (oi := { dst := some 78, op := Op.move (Operand.tmp 3), type := 27, pos := "law.go:289", after := #[], guard := none }) (v := ?vq5_43) rfl (by kernel_rfl) (by kernel_rfl) (by kernel_rfl) (fun _ _ _ h => h) (Or.inl ⟨by rfl, ?hq5_43⟩) (by assumption) ?_
                          case hq5_43 => intro w hSw; (try dsimp only at hSw); go_simp; try (with_reducible rfl)
                          (try simp only [Act.put, List.setIfInBounds_toArray, List.set_cons_zero, List.set_cons_succ])
                          refine wpAnyH_take (i := 6) (oi := { dst := some 79, op := Op.move (Operand.tmp 14), type := 3, pos := "law.go:289", after := #[], guard := none }) (v := ?vq6_44) rfl (by kernel_rfl) (by kernel_rfl) (by kernel_rfl) (fun _ _ _ h => h) (Or.inl ⟨by rfl, ?hq6_44⟩) (by assumption) ?_
                          case hq6_44 => intro w hSw; (try dsimp only at hSw); go_simp; try (with_reducible rfl)
                          (try simp only [Act.put, List.setIfInBounds_toArray, List.set_cons_zero, List.set_cons_succ])
                          refine wpAnyH_take (i := 7) (oi := { dst := some 80, op := Op.indexAddr 27 (Operand.tmp 78) (Operand.tmp 79), type := 0, pos := "law.go:289", after := #[{ on := 5, ground := Ground.data }, { on := 6, ground := Ground.data }], guard := none }) (v := .pointer (some ⟨bl, off + i * 4, none⟩)) rfl (by kernel_rfl) (by kernel_rfl) (by kernel_rfl) (fun _ _ _ h => h) (Or.inl ⟨by rfl, ?hq7_45⟩) (by assumption) ?_
                          case hq7_45 => intro w hSw; (try dsimp only at hSw); go_simp; try (intro h; exfalso; omega)
                          (try simp only [Act.put, List.setIfInBounds_toArray, List.set_cons_zero, List.set_cons_succ])
                          refine wpAnyH_take (i := 8) (oi := { dst := some 81, op := Op.fieldAddr 66 (Operand.tmp 80) 0, type := 0, pos := "law.go:289", after := #[{ on := 7, ground := Ground.data }], guard := none }) (v := .pointer (some ⟨bl, off + i * 4, none⟩)) rfl (by kernel_rfl) (by kernel_rfl) (by kernel_rfl) (fun _ _ _ h => h) (Or.inl ⟨by rfl, ?hq8_46⟩) (by assumption) ?_
                          case hq8_46 => intro w hSw; (try dsimp only at hSw); go_simp; try (intro h; exfalso; omega)
                          (try simp only [Act.put, List.setIfInBounds_toArray, List.set_cons_zero, List.set_cons_succ])
                          refine wpAnyH_take (i := 9) (oi := { dst := some 82, op := Op.load 3 (Operand.tmp 81), type := 3, pos := "law.go:289", after := #[{ on := 8, ground := Ground.data }], guard := none }) (v := ?vq9_47) rfl (by kernel_rfl) (by kernel_rfl) (by kernel_rfl) (fun _ _ _ h => h) (Or.inl ⟨by rfl, ?hq9_47⟩) (by assumption) ?_
                          case hq9_47 => intro w hSw; (try dsimp only at hSw); go_simp; try (with_reducible rfl)
                          (try simp only [Act.put, List.setIfInBounds_toArray, List.set_cons_zero, List.set_cons_succ])
                          refine wpAnyH_take (i := 10) (oi := { dst := some 83, op := Op.binOp BinOp.eql 3 (Operand.tmp 77) (Operand.tmp 82) 3, type := 4, pos := "law.go:289", after := #[{ on := 4, ground := Ground.data }, { on := 9, ground := Ground.data }], guard := none }) (v := .bool true) rfl (by kernel_rfl) (by kernel_rfl) (by kernel_rfl) (fun _ _ _ h => h) (Or.inl ⟨by rfl, ?hq10_48⟩) (by assumption) ?_
                          case hq10_48 => intro w hSw; (try dsimp only at hSw); go_simp; try (simp [e1])
                          (try simp only [Act.put, List.setIfInBounds_toArray, List.set_cons_zero, List.set_cons_succ])
                          refine wpAnyH_take (i := 11) (oi := { dst := some 84, op := Op.move (Operand.tmp 83), type := 4, pos := "law.go:289", after := #[{ on := 10, ground := Ground.data }], guard := none }) (v := ?vq11_49) rfl (by kernel_rfl) (by kernel_rfl) (by kernel_rfl) (fun _ _ _ h => h) (Or.inl ⟨by rfl, ?hq11_49⟩) (by assumption) ?_
                          case hq11_49 => intro w hSw; (try dsimp only at hSw); go_simp; try (with_reducible rfl)
                          (try simp only [Act.put, List.setIfInBounds_toArray, List.set_cons_zero, List.set_cons_succ])
                          refine wpAnyH_take (i := 12) (oi := { dst := some 85, op := Op.move (Operand.tmp 3), type := 27, pos := "law.go:289", after := #[{ on := 11, ground := Ground.guard }], guard := some (11, true) }) (v := ?vq12_50) rfl (by kernel_rfl) (by kernel_rfl) (by kernel_rfl) (fun _ _ _ h => h) (Or.inl ⟨by rfl, ?hq12_50⟩) (by assumption) ?_
                          case hq12_50 => intro w hSw; (try dsimp only at hSw); go_simp; try (with_reducible rfl)
                          (try simp only [Act.put, List.setIfInBounds_toArray, List.set_cons_zero, List.set_cons_succ])
                          refine wpAnyH_take (i := 13) (oi := { dst := some 86, op := Op.move (Operand.tmp 15), type := 3, pos := "law.go:289", after := #[{ on := 11, ground := Ground.guard }], guard := some (11, true) }) (v := ?vq13_51) rfl (by kernel_rfl) (by kernel_rfl) (by kernel_rfl) (fun _ _ _ h => h) (Or.inl ⟨by rfl, ?hq13_51⟩) (by assumption) ?_
                          case hq13_51 => intro w hSw; (try dsimp only at hSw); go_simp; try (with_reducible rfl)
                          (try simp only [Act.put, List.setIfInBounds_toArray, List.set_cons_zero, List.set_cons_succ])
                          refine wpAnyH_take (i := 14) (oi := { dst := some 87, op := Op.indexAddr 27 (Operand.tmp 85) (Operand.tmp 86), type := 0, pos := "law.go:289", after := #[{ on := 12, ground := Ground.data }, { on := 13, ground := Ground.data }, { on := 11, ground := Ground.guard }], guard := some (11, true) }) (v := .pointer (some ⟨bl, off + k * 4, none⟩)) rfl (by kernel_rfl) (by kernel_rfl) (by kernel_rfl) (fun _ _ _ h => h) (Or.inl ⟨by rfl, ?hq14_52⟩) (by assumption) ?_
                          case hq14_52 => intro w hSw; (try dsimp only at hSw); go_simp; try (intro h; exfalso; omega)
                          (try simp only [Act.put, List.setIfInBounds_toArray, List.set_cons_zero, List.set_cons_succ])
                          refine wpAnyH_take (i := 15) (oi := { dst := some 88, op := Op.fieldAddr 66 (Operand.tmp 87) 1, type := 0, pos := "law.go:289", after := #[{ on := 14, ground := Ground.data }, { on := 11, ground := Ground.guard }], guard := some (11, true) }) (v := .pointer (some ⟨bl, off + k * 4 + 1, none⟩)) rfl (by kernel_rfl) (by kernel_rfl) (by kernel_rfl) (fun _ _ _ h => h) (Or.inl ⟨by rfl, ?hq15_53⟩) (by assumption) ?_
                          case hq15_53 => intro w hSw; (try dsimp only at hSw); go_simp; try (intro h; exfalso; omega)
                          (try simp only [Act.put, List.setIfInBounds_toArray, List.set_cons_zero, List.set_cons_succ])
                          refine wpAnyH_take (i := 16) (oi := { dst := some 89, op := Op.load 3 (Operand.tmp 88), type := 3, pos := "law.go:289", after := #[{ on := 15, ground := Ground.data }, { on := 11, ground := Ground.guard }], guard := some (11, true) }) (v := ?vq16_54) rfl (by kernel_rfl) (by kernel_rfl) (by kernel_rfl) (fun _ _ _ h => h) (Or.inl ⟨by rfl, ?hq16_54⟩) (by assumption) ?_
                          case hq16_54 => intro w hSw; (try dsimp only at hSw); go_simp; try (with_reducible rfl)
                          (try simp only [Act.put, List.setIfInBounds_toArray, List.set_cons_zero, List.set_cons_succ])
                          refine wpAnyH_take (i := 17) (oi := { dst := some 90, op := Op.move (Operand.tmp 3), type := 27, pos := "law.go:289", after := #[{ on := 11, ground := Ground.guard }], guard := some (11, true) }) (v := ?vq17_55) rfl (by kernel_rfl) (by kernel_rfl) (by kernel_rfl) (fun _ _ _ h => h) (Or.inl ⟨by rfl, ?hq17_55⟩) (by assumption) ?_
                          case hq17_55 => intro w hSw; (try dsimp only at hSw); go_simp; try (with_reducible rfl)
                          (try simp only [Act.put, List.setIfInBounds_toArray, List.set_cons_zero, List.set_cons_succ])
                          refine wpAnyH_take (i := 18) (oi := { dst := some 91, op := Op.move (Operand.tmp 14), type := 3, pos := "law.go:289", after := #[{ on := 11, ground := Ground.guard }], guard := some (11, true) }) (v := ?vq18_56) rfl (by kernel_rfl) (by kernel_rfl) (by kernel_rfl) (fun _ _ _ h => h) (Or.inl ⟨by rfl, ?hq18_56⟩) (by assumption) ?_
                          case hq18_56 => intro w hSw; (try dsimp only at hSw); go_simp; try (with_reducible rfl)
                          (try simp only [Act.put, List.setIfInBounds_toArray, List.set_cons_zero, List.set_cons_succ])
                          refine wpAnyH_take (i := 19) (oi := { dst := some 92, op := Op.indexAddr 27 (Operand.tmp 90) (Operand.tmp 91), type := 0, pos := "law.go:289", after := #[{ on := 17, ground := Ground.data }, { on := 18, ground := Ground.data }, { on := 11, ground := Ground.guard }], guard := some (11, true) }) (v := .pointer (some ⟨bl, off + i * 4, none⟩)) rfl (by kernel_rfl) (by kernel_rfl) (by kernel_rfl) (fun _ _ _ h => h) (Or.inl ⟨by rfl, ?hq19_57⟩) (by assumption) ?_
                          case hq19_57 => intro w hSw; (try dsimp only at hSw); go_simp; try (intro h; exfalso; omega)
                          (try simp only [Act.put, List.setIfInBounds_toArray, List.set_cons_zero, List.set_cons_succ])
                          refine wpAnyH_take (i := 20) (oi := { dst := some 93, op := Op.fieldAddr 66 (Operand.tmp 92) 1, type := 0, pos := "law.go:289", after := #[{ on := 19, ground := Ground.data }, { on := 11, ground := Ground.guard }], guard := some (11, true) }) (v := .pointer (some ⟨bl, off + i * 4 + 1, none⟩)) rfl (by kernel_rfl) (by kernel_rfl) (by kernel_rfl) (fun _ _ _ h => h) (Or.inl ⟨by rfl, ?hq20_58⟩) (by assumption) ?_
                          case hq20_58 => intro w hSw; (try dsimp only at hSw); go_simp; try (intro h; exfalso; omega)
                          (try simp only [Act.put, List.setIfInBounds_toArray, List.set_cons_zero, List.set_cons_succ])
                          refine wpAnyH_take (i := 21) (oi := { dst := some 94, op := Op.load 3 (Operand.tmp 93), type := 3, pos := "law.go:289", after := #[{ on := 20, ground := Ground.data }, { on := 11, ground := Ground.guard }], guard := some (11, true) }) (v := ?vq21_59) rfl (by kernel_rfl) (by kernel_rfl) (by kernel_rfl) (fun _ _ _ h => h) (Or.inl ⟨by rfl, ?hq21_59⟩) (by assumption) ?_
                          case hq21_59 => intro w hSw; (try dsimp only at hSw); go_simp; try (with_reducible rfl)
                          (try simp only [Act.put, List.setIfInBounds_toArray, List.set_cons_zero, List.set_cons_succ])
                          refine wpAnyH_take (i := 22) (oi := { dst := some 95, op := Op.binOp BinOp.eql 3 (Operand.tmp 89) (Operand.tmp 94) 3, type := 4, pos := "law.go:289", after := #[{ on := 16, ground := Ground.data }, { on := 21, ground := Ground.data }, { on := 11, ground := Ground.guard }], guard := some (11, true) }) (v := .bool true) rfl (by kernel_rfl) (by kernel_rfl) (by kernel_rfl) (fun _ _ _ h => h) (Or.inl ⟨by rfl, ?hq22_60⟩) (by assumption) ?_
                          case hq22_60 => intro w hSw; (try dsimp only at hSw); go_simp; try (simp [e2])
                          (try simp only [Act.put, List.setIfInBounds_toArray, List.set_cons_zero, List.set_cons_succ])
                          refine wpAnyH_take (i := 23) (oi := { dst := some 96, op := Op.pick (Operand.tmp 84) (Operand.tmp 95) (Operand.const (Value.bool false)), type := 4, pos := "law.go:289", after := #[{ on := 11, ground := Ground.data }, { on := 22, ground := Ground.data }], guard := none }) (v := .bool true) rfl (by kernel_rfl) (by kernel_rfl) (by kernel_rfl) (fun _ _ _ h => h) (Or.inl ⟨by rfl, ?hq23_61⟩) (by assumption) ?_
                          case hq23_61 => intro w hSw; (try dsimp only at hSw); go_simp; try (simp; try omega)
                          (try simp only [Act.put, List.setIfInBounds_toArray, List.set_cons_zero, List.set_cons_succ])
                          refine wpAnyH_done (by kernel_rfl) ?_ _
                          clear hSS j1 j2 a1 a2
                          have HQ3 := Lib.hid (show Below w.heap.size w wp.drew from by
                            have h := HF.out.2.2.2.2
                            exact h.trans ((HQ.out.2.2.1.drew).mono h.size))
                          go_wp2
                          go_ret
                          exact ⟨rfl, HQ3.out⟩
                      · as_aux_lemma =>
                          refine wp_region_held_drew (S := (fun w' => w'.cell? ⟨bl, off + k * 4, none⟩ = some (.int .i64 bk) ∧ w'.cell? ⟨bl, off + k * 4 + 1, none⟩ = some (.int .i64 sk) ∧ w'.cell? ⟨bl, off + i * 4, none⟩ = some (.int .i64 bi) ∧ w'.cell? ⟨bl, off + i * 4 + 1, none⟩ = some (.int .i64 si))) (by kernel_rfl) ?_ (fun hHeld => ?_)
                          · exact hSS
                          refine wpAnyH_take (i := 0) (oi := { dst := some 73, op := Op.move (Operand.tmp 3), type := 27, pos := "law.go:289", after := #[], guard := none }) (v := ?vq0_14) rfl (by kernel_rfl) (by kernel_rfl) (by kernel_rfl) (fun _ _ _ h => h) (Or.inl ⟨by rfl, ?hq0_14⟩) (by assumption) ?_
                          case hq0_14 => intro w hSw; (try dsimp only at hSw); go_simp; try (with_reducible rfl)
                          (try simp only [Act.put, List.setIfInBounds_toArray, List.set_cons_zero, List.set_cons_succ])
                          refine wpAnyH_take (i := 1) (oi := { dst := some 74, op := Op.move (Operand.tmp 15), type := 3, pos := "law.go:289", after := #[], guard := none }) (v := ?vq1_15) rfl (by kernel_rfl) (by kernel_rfl) (by kernel_rfl) (fun _ _ _ h => h) (Or.inl ⟨by rfl, ?hq1_15⟩) (by assumption) ?_
                          case hq1_15 => intro w hSw; (try dsimp only at hSw); go_simp; try (with_reducible rfl)
                          (try simp only [Act.put, List.setIfInBounds_toArray, List.set_cons_zero, List.set_cons_succ])
                          refine wpAnyH_take (i := 2) (oi := { dst := some 75, op := Op.indexAddr 27 (Operand.tmp 73) (Operand.tmp 74), type := 0, pos := "law.go:289", after := #[{ on := 0, ground := Ground.data }, { on := 1, ground := Ground.data }], guard := none }) (v := .pointer (some ⟨bl, off + k * 4, none⟩)) rfl (by kernel_rfl) (by kernel_rfl) (by kernel_rfl) (fun _ _ _ h => h) (Or.inl ⟨by rfl, ?hq2_16⟩) (by assumption) ?_
                          case hq2_16 => intro w hSw; (try dsimp only at hSw); go_simp; try (intro h; exfalso; omega)
                          (try simp only [Act.put, List.setIfInBounds_toArray, List.set_cons_zero, List.set_cons_succ])
                          refine wpAnyH_take (i := 3) (oi := { dst := some 76, op := Op.fieldAddr 66 (Operand.tmp 75) 0, type := 0, pos := "law.go:289", after := #[{ on := 2, ground := Ground.data }], guard := none }) (v := .pointer (some ⟨bl, off + k * 4, none⟩)) rfl (by kernel_rfl) (by kernel_rfl) (by kernel_rfl) (fun _ _ _ h => h) (Or.inl ⟨by rfl, ?hq3_17⟩) (by assumption) ?_
                          case hq3_17 => intro w hSw; (try dsimp only at hSw); go_simp; try (intro h; exfalso; omega)
                          (try simp only [Act.put, List.setIfInBounds_toArray, List.set_cons_zero, List.set_cons_succ])
                          refine wpAnyH_take (i := 4) (oi := { dst := some 77, op := Op.load 3 (Operand.tmp 76), type := 3, pos := "law.go:289", after := #[{ on := 3, ground := Ground.data }], guard := none }) (v := ?vq4_18) rfl (by kernel_rfl) (by kernel_rfl) (by kernel_rfl) (fun _ _ _ h => h) (Or.inl ⟨by rfl, ?hq4_18⟩) (by assumption) ?_
                          case hq4_18 => intro w hSw; (try dsimp only at hSw); go_simp; try (with_reducible rfl)
                          (try simp only [Act.put, List.setIfInBounds_toArray, List.set_cons_zero, List.set_cons_succ])
                          refine wpAnyH_take (i := 5) (oi := { dst := some 78, op := Op.move (Operand.tmp 3), type := 27, pos := "law.go:289", after := #[], guard := none }) (v := ?vq5_19) rfl (by kernel_rfl) (by kernel_rfl) (by kernel_rfl) (fun _ _ _ h => h) (Or.inl ⟨by rfl, ?hq5_19⟩) (by assumption) ?_
                          case hq5_19 => intro w hSw; (try dsimp only at hSw); go_simp; try (with_reducible rfl)
                          (try simp only [Act.put, List.setIfInBounds_toArray, List.set_cons_zero, List.set_cons_succ])
                          refine wpAnyH_take (i := 6) (oi := { dst := some 79, op := Op.move (Operand.tmp 14), type := 3, pos := "law.go:289", after := #[], guard := none }) (v := ?vq6_20) rfl (by kernel_rfl) (by kernel_rfl) (by kernel_rfl) (fun _ _ _ h => h) (Or.inl ⟨by rfl, ?hq6_20⟩) (by assumption) ?_
                          case hq6_20 => intro w hSw; (try dsimp only at hSw); go_simp; try (with_reducible rfl)
                          (try simp only [Act.put, List.setIfInBounds_toArray, List.set_cons_zero, List.set_cons_succ])
                          refine wpAnyH_take (i := 7) (oi := { dst := some 80, op := Op.indexAddr 27 (Operand.tmp 78) (Operand.tmp 79), type := 0, pos := "law.go:289", after := #[{ on := 5, ground := Ground.data }, { on := 6, ground := Ground.data }], guard := none }) (v := .pointer (some ⟨bl, off + i * 4, none⟩)) rfl (by kernel_rfl) (by kernel_rfl) (by kernel_rfl) (fun _ _ _ h => h) (Or.inl ⟨by rfl, ?hq7_21⟩) (by assumption) ?_
                          case hq7_21 => intro w hSw; (try dsimp only at hSw); go_simp; try (intro h; exfalso; omega)
                          (try simp only [Act.put, List.setIfInBounds_toArray, List.set_cons_zero, List.set_cons_succ])
                          refine wpAnyH_take (i := 8) (oi := { dst := some 81, op := Op.fieldAddr 66 (Operand.tmp 80) 0, type := 0, pos := "law.go:289", after := #[{ on := 7, ground := Ground.data }], guard := none }) (v := .pointer (some ⟨bl, off + i * 4, none⟩)) rfl (by kernel_rfl) (by kernel_rfl) (by kernel_rfl) (fun _ _ _ h => h) (Or.inl ⟨by rfl, ?hq8_22⟩) (by assumption) ?_
                          case hq8_22 => intro w hSw; (try dsimp only at hSw); go_simp; try (intro h; exfalso; omega)
                          (try simp only [Act.put, List.setIfInBounds_toArray, List.set_cons_zero, List.set_cons_succ])
                          refine wpAnyH_take (i := 9) (oi := { dst := some 82, op := Op.load 3 (Operand.tmp 81), type := 3, pos := "law.go:289", after := #[{ on := 8, ground := Ground.data }], guard := none }) (v := ?vq9_23) rfl (by kernel_rfl) (by kernel_rfl) (by kernel_rfl) (fun _ _ _ h => h) (Or.inl ⟨by rfl, ?hq9_23⟩) (by assumption) ?_
                          case hq9_23 => intro w hSw; (try dsimp only at hSw); go_simp; try (with_reducible rfl)
                          (try simp only [Act.put, List.setIfInBounds_toArray, List.set_cons_zero, List.set_cons_succ])
                          refine wpAnyH_take (i := 10) (oi := { dst := some 83, op := Op.binOp BinOp.eql 3 (Operand.tmp 77) (Operand.tmp 82) 3, type := 4, pos := "law.go:289", after := #[{ on := 4, ground := Ground.data }, { on := 9, ground := Ground.data }], guard := none }) (v := .bool true) rfl (by kernel_rfl) (by kernel_rfl) (by kernel_rfl) (fun _ _ _ h => h) (Or.inl ⟨by rfl, ?hq10_24⟩) (by assumption) ?_
                          case hq10_24 => intro w hSw; (try dsimp only at hSw); go_simp; try (simp [e1])
                          (try simp only [Act.put, List.setIfInBounds_toArray, List.set_cons_zero, List.set_cons_succ])
                          refine wpAnyH_take (i := 11) (oi := { dst := some 84, op := Op.move (Operand.tmp 83), type := 4, pos := "law.go:289", after := #[{ on := 10, ground := Ground.data }], guard := none }) (v := ?vq11_25) rfl (by kernel_rfl) (by kernel_rfl) (by kernel_rfl) (fun _ _ _ h => h) (Or.inl ⟨by rfl, ?hq11_25⟩) (by assumption) ?_
                          case hq11_25 => intro w hSw; (try dsimp only at hSw); go_simp; try (with_reducible rfl)
                          (try simp only [Act.put, List.setIfInBounds_toArray, List.set_cons_zero, List.set_cons_succ])
                          refine wpAnyH_take (i := 12) (oi := { dst := some 85, op := Op.move (Operand.tmp 3), type := 27, pos := "law.go:289", after := #[{ on := 11, ground := Ground.guard }], guard := some (11, true) }) (v := ?vq12_26) rfl (by kernel_rfl) (by kernel_rfl) (by kernel_rfl) (fun _ _ _ h => h) (Or.inl ⟨by rfl, ?hq12_26⟩) (by assumption) ?_
                          case hq12_26 => intro w hSw; (try dsimp only at hSw); go_simp; try (with_reducible rfl)
                          (try simp only [Act.put, List.setIfInBounds_toArray, List.set_cons_zero, List.set_cons_succ])
                          refine wpAnyH_take (i := 13) (oi := { dst := some 86, op := Op.move (Operand.tmp 15), type := 3, pos := "law.go:289", after := #[{ on := 11, ground := Ground.guard }], guard := some (11, true) }) (v := ?vq13_27) rfl (by kernel_rfl) (by kernel_rfl) (by kernel_rfl) (fun _ _ _ h => h) (Or.inl ⟨by rfl, ?hq13_27⟩) (by assumption) ?_
                          case hq13_27 => intro w hSw; (try dsimp only at hSw); go_simp; try (with_reducible rfl)
                          (try simp only [Act.put, List.setIfInBounds_toArray, List.set_cons_zero, List.set_cons_succ])
                          refine wpAnyH_take (i := 14) (oi := { dst := some 87, op := Op.indexAddr 27 (Operand.tmp 85) (Operand.tmp 86), type := 0, pos := "law.go:289", after := #[{ on := 12, ground := Ground.data }, { on := 13, ground := Ground.data }, { on := 11, ground := Ground.guard }], guard := some (11, true) }) (v := .pointer (some ⟨bl, off + k * 4, none⟩)) rfl (by kernel_rfl) (by kernel_rfl) (by kernel_rfl) (fun _ _ _ h => h) (Or.inl ⟨by rfl, ?hq14_28⟩) (by assumption) ?_
                          case hq14_28 => intro w hSw; (try dsimp only at hSw); go_simp; try (intro h; exfalso; omega)
                          (try simp only [Act.put, List.setIfInBounds_toArray, List.set_cons_zero, List.set_cons_succ])
                          refine wpAnyH_take (i := 15) (oi := { dst := some 88, op := Op.fieldAddr 66 (Operand.tmp 87) 1, type := 0, pos := "law.go:289", after := #[{ on := 14, ground := Ground.data }, { on := 11, ground := Ground.guard }], guard := some (11, true) }) (v := .pointer (some ⟨bl, off + k * 4 + 1, none⟩)) rfl (by kernel_rfl) (by kernel_rfl) (by kernel_rfl) (fun _ _ _ h => h) (Or.inl ⟨by rfl, ?hq15_29⟩) (by assumption) ?_
                          case hq15_29 => intro w hSw; (try dsimp only at hSw); go_simp; try (intro h; exfalso; omega)
                          (try simp only [Act.put, List.setIfInBounds_toArray, List.set_cons_zero, List.set_cons_succ])
                          refine wpAnyH_take (i := 16) (oi := { dst := some 89, op := Op.load 3 (Operand.tmp 88), type := 3, pos := "law.go:289", after := #[{ on := 15, ground := Ground.data }, { on := 11, ground := Ground.guard }], guard := some (11, true) }) (v := ?vq16_30) rfl (by kernel_rfl) (by kernel_rfl) (by kernel_rfl) (fun _ _ _ h => h) (Or.inl ⟨by rfl, ?hq16_30⟩) (by assumption) ?_
                          case hq16_30 => intro w hSw; (try dsimp only at hSw); go_simp; try (with_reducible rfl)
                          (try simp only [Act.put, List.setIfInBounds_toArray, List.set_cons_zero, List.set_cons_succ])
                          refine wpAnyH_take (i := 17) (oi := { dst := some 90, op := Op.move (Operand.tmp 3), type := 27, pos := "law.go:289", after := #[{ on := 11, ground := Ground.guard }], guard := some (11, true) }) (v := ?vq17_31) rfl (by kernel_rfl) (by kernel_rfl) (by kernel_rfl) (fun _ _ _ h => h) (Or.inl ⟨by rfl, ?hq17_31⟩) (by assumption) ?_
                          case hq17_31 => intro w hSw; (try dsimp only at hSw); go_simp; try (with_reducible rfl)
                          (try simp only [Act.put, List.setIfInBounds_toArray, List.set_cons_zero, List.set_cons_succ])
                          refine wpAnyH_take (i := 18) (oi := { dst := some 91, op := Op.move (Operand.tmp 14), type := 3, pos := "law.go:289", after := #[{ on := 11, ground := Ground.guard }], guard := some (11, true) }) (v := ?vq18_32) rfl (by kernel_rfl) (by kernel_rfl) (by kernel_rfl) (fun _ _ _ h => h) (Or.inl ⟨by rfl, ?hq18_32⟩) (by assumption) ?_
                          case hq18_32 => intro w hSw; (try dsimp only at hSw); go_simp; try (with_reducible rfl)
                          (try simp only [Act.put, List.setIfInBounds_toArray, List.set_cons_zero, List.set_cons_succ])
                          refine wpAnyH_take (i := 19) (oi := { dst := some 92, op := Op.indexAddr 27 (Operand.tmp 90) (Operand.tmp 91), type := 0, pos := "law.go:289", after := #[{ on := 17, ground := Ground.data }, { on := 18, ground := Ground.data }, { on := 11, ground := Ground.guard }], guard := some (11, true) }) (v := .pointer (some ⟨bl, off + i * 4, none⟩)) rfl (by kernel_rfl) (by kernel_rfl) (by kernel_rfl) (fun _ _ _ h => h) (Or.inl ⟨by rfl, ?hq19_33⟩) (by assumption) ?_
                          case hq19_33 => intro w hSw; (try dsimp only at hSw); go_simp; try (intro h; exfalso; omega)
                          (try simp only [Act.put, List.setIfInBounds_toArray, List.set_cons_zero, List.set_cons_succ])
                          refine wpAnyH_take (i := 20) (oi := { dst := some 93, op := Op.fieldAddr 66 (Operand.tmp 92) 1, type := 0, pos := "law.go:289", after := #[{ on := 19, ground := Ground.data }, { on := 11, ground := Ground.guard }], guard := some (11, true) }) (v := .pointer (some ⟨bl, off + i * 4 + 1, none⟩)) rfl (by kernel_rfl) (by kernel_rfl) (by kernel_rfl) (fun _ _ _ h => h) (Or.inl ⟨by rfl, ?hq20_34⟩) (by assumption) ?_
                          case hq20_34 => intro w hSw; (try dsimp only at hSw); go_simp; try (intro h; exfalso; omega)
                          (try simp only [Act.put, List.setIfInBounds_toArray, List.set_cons_zero, List.set_cons_succ])
                          refine wpAnyH_take (i := 21) (oi := { dst := some 94, op := Op.load 3 (Operand.tmp 93), type := 3, pos := "law.go:289", after := #[{ on := 20, ground := Ground.data }, { on := 11, ground := Ground.guard }], guard := some (11, true) }) (v := ?vq21_35) rfl (by kernel_rfl) (by kernel_rfl) (by kernel_rfl) (fun _ _ _ h => h) (Or.inl ⟨by rfl, ?hq21_35⟩) (by assumption) ?_
                          case hq21_35 => intro w hSw; (try dsimp only at hSw); go_simp; try (with_reducible rfl)
                          (try simp only [Act.put, List.setIfInBounds_toArray, List.set_cons_zero, List.set_cons_succ])
                          refine wpAnyH_take (i := 22) (oi := { dst := some 95, op := Op.binOp BinOp.eql 3 (Operand.tmp 89) (Operand.tmp 94) 3, type := 4, pos := "law.go:289", after := #[{ on := 16, ground := Ground.data }, { on := 21, ground := Ground.data }, { on := 11, ground := Ground.guard }], guard := some (11, true) }) (v := .bool false) rfl (by kernel_rfl) (by kernel_rfl) (by kernel_rfl) (fun _ _ _ h => h) (Or.inl ⟨by rfl, ?hq22_36⟩) (by assumption) ?_
                          case hq22_36 => intro w hSw; (try dsimp only at hSw); go_simp; try (simp [e2])
                          (try simp only [Act.put, List.setIfInBounds_toArray, List.set_cons_zero, List.set_cons_succ])
                          refine wpAnyH_take (i := 23) (oi := { dst := some 96, op := Op.pick (Operand.tmp 84) (Operand.tmp 95) (Operand.const (Value.bool false)), type := 4, pos := "law.go:289", after := #[{ on := 11, ground := Ground.data }, { on := 22, ground := Ground.data }], guard := none }) (v := .bool false) rfl (by kernel_rfl) (by kernel_rfl) (by kernel_rfl) (fun _ _ _ h => h) (Or.inl ⟨by rfl, ?hq23_37⟩) (by assumption) ?_
                          case hq23_37 => intro w hSw; (try dsimp only at hSw); go_simp; try (simp; try omega)
                          (try simp only [Act.put, List.setIfInBounds_toArray, List.set_cons_zero, List.set_cons_succ])
                          refine wpAnyH_done (by kernel_rfl) ?_ _
                          have HQ2 := Lib.hid (show TRow w.heap.size w5.heap.size wp.drew u13 ((C.take i).map turnC) xs ∧ Below w5.heap.size w5 wp.drew from ⟨HQ.out.2.1.below (Below.refl _ _).drew HQ.out.2.2.2.2.2, HQ.out.2.2.1.drew⟩)
                          clear hSS j1 j2 a1 a2
                          go_wp2
                          go_roundw
                          case rel =>
                            refine ⟨k + 1, hki, nxt _, fun j hj => ?_, HQ2.out.1, HQ2.out.2⟩
                            by_cases e : j = k
                            · subst e
                              rw [← HQ.out.2.2.2.1, ← HQ.out.2.2.2.2.1]
                              exact fun h => e2 h.2
                            · exact HQ.out.1 j (by omega)
                          case measure => exact meas hki
                    · as_aux_lemma =>
                        refine wp_region_held_drew (S := (fun w' => w'.cell? ⟨bl, off + k * 4, none⟩ = some (.int .i64 bk) ∧ w'.cell? ⟨bl, off + k * 4 + 1, none⟩ = some (.int .i64 sk) ∧ w'.cell? ⟨bl, off + i * 4, none⟩ = some (.int .i64 bi) ∧ w'.cell? ⟨bl, off + i * 4 + 1, none⟩ = some (.int .i64 si))) (by kernel_rfl) ?_ (fun hHeld => ?_)
                        · exact hSS
                        refine wpAnyH_take (i := 0) (oi := { dst := some 73, op := Op.move (Operand.tmp 3), type := 27, pos := "law.go:289", after := #[], guard := none }) (v := ?vq0_1) rfl (by kernel_rfl) (by kernel_rfl) (by kernel_rfl) (fun _ _ _ h => h) (Or.inl ⟨by rfl, ?hq0_1⟩) (by assumption) ?_
                        case hq0_1 => intro w hSw; (try dsimp only at hSw); go_simp; try (with_reducible rfl)
                        (try simp only [Act.put, List.setIfInBounds_toArray, List.set_cons_zero, List.set_cons_succ])
                        refine wpAnyH_take (i := 1) (oi := { dst := some 74, op := Op.move (Operand.tmp 15), type := 3, pos := "law.go:289", after := #[], guard := none }) (v := ?vq1_2) rfl (by kernel_rfl) (by kernel_rfl) (by kernel_rfl) (fun _ _ _ h => h) (Or.inl ⟨by rfl, ?hq1_2⟩) (by assumption) ?_
                        case hq1_2 => intro w hSw; (try dsimp only at hSw); go_simp; try (with_reducible rfl)
                        (try simp only [Act.put, List.setIfInBounds_toArray, List.set_cons_zero, List.set_cons_succ])
                        refine wpAnyH_take (i := 2) (oi := { dst := some 75, op := Op.indexAddr 27 (Operand.tmp 73) (Operand.tmp 74), type := 0, pos := "law.go:289", after := #[{ on := 0, ground := Ground.data }, { on := 1, ground := Ground.data }], guard := none }) (v := .pointer (some ⟨bl, off + k * 4, none⟩)) rfl (by kernel_rfl) (by kernel_rfl) (by kernel_rfl) (fun _ _ _ h => h) (Or.inl ⟨by rfl, ?hq2_3⟩) (by assumption) ?_
                        case hq2_3 => intro w hSw; (try dsimp only at hSw); go_simp; try (intro h; exfalso; omega)
                        (try simp only [Act.put, List.setIfInBounds_toArray, List.set_cons_zero, List.set_cons_succ])
                        refine wpAnyH_take (i := 3) (oi := { dst := some 76, op := Op.fieldAddr 66 (Operand.tmp 75) 0, type := 0, pos := "law.go:289", after := #[{ on := 2, ground := Ground.data }], guard := none }) (v := .pointer (some ⟨bl, off + k * 4, none⟩)) rfl (by kernel_rfl) (by kernel_rfl) (by kernel_rfl) (fun _ _ _ h => h) (Or.inl ⟨by rfl, ?hq3_4⟩) (by assumption) ?_
                        case hq3_4 => intro w hSw; (try dsimp only at hSw); go_simp; try (intro h; exfalso; omega)
                        (try simp only [Act.put, List.setIfInBounds_toArray, List.set_cons_zero, List.set_cons_succ])
                        refine wpAnyH_take (i := 4) (oi := { dst := some 77, op := Op.load 3 (Operand.tmp 76), type := 3, pos := "law.go:289", after := #[{ on := 3, ground := Ground.data }], guard := none }) (v := ?vq4_5) rfl (by kernel_rfl) (by kernel_rfl) (by kernel_rfl) (fun _ _ _ h => h) (Or.inl ⟨by rfl, ?hq4_5⟩) (by assumption) ?_
                        case hq4_5 => intro w hSw; (try dsimp only at hSw); go_simp; try (with_reducible rfl)
                        (try simp only [Act.put, List.setIfInBounds_toArray, List.set_cons_zero, List.set_cons_succ])
                        refine wpAnyH_take (i := 5) (oi := { dst := some 78, op := Op.move (Operand.tmp 3), type := 27, pos := "law.go:289", after := #[], guard := none }) (v := ?vq5_6) rfl (by kernel_rfl) (by kernel_rfl) (by kernel_rfl) (fun _ _ _ h => h) (Or.inl ⟨by rfl, ?hq5_6⟩) (by assumption) ?_
                        case hq5_6 => intro w hSw; (try dsimp only at hSw); go_simp; try (with_reducible rfl)
                        (try simp only [Act.put, List.setIfInBounds_toArray, List.set_cons_zero, List.set_cons_succ])
                        refine wpAnyH_take (i := 6) (oi := { dst := some 79, op := Op.move (Operand.tmp 14), type := 3, pos := "law.go:289", after := #[], guard := none }) (v := ?vq6_7) rfl (by kernel_rfl) (by kernel_rfl) (by kernel_rfl) (fun _ _ _ h => h) (Or.inl ⟨by rfl, ?hq6_7⟩) (by assumption) ?_
                        case hq6_7 => intro w hSw; (try dsimp only at hSw); go_simp; try (with_reducible rfl)
                        (try simp only [Act.put, List.setIfInBounds_toArray, List.set_cons_zero, List.set_cons_succ])
                        refine wpAnyH_take (i := 7) (oi := { dst := some 80, op := Op.indexAddr 27 (Operand.tmp 78) (Operand.tmp 79), type := 0, pos := "law.go:289", after := #[{ on := 5, ground := Ground.data }, { on := 6, ground := Ground.data }], guard := none }) (v := .pointer (some ⟨bl, off + i * 4, none⟩)) rfl (by kernel_rfl) (by kernel_rfl) (by kernel_rfl) (fun _ _ _ h => h) (Or.inl ⟨by rfl, ?hq7_8⟩) (by assumption) ?_
                        case hq7_8 => intro w hSw; (try dsimp only at hSw); go_simp; try (intro h; exfalso; omega)
                        (try simp only [Act.put, List.setIfInBounds_toArray, List.set_cons_zero, List.set_cons_succ])
                        refine wpAnyH_take (i := 8) (oi := { dst := some 81, op := Op.fieldAddr 66 (Operand.tmp 80) 0, type := 0, pos := "law.go:289", after := #[{ on := 7, ground := Ground.data }], guard := none }) (v := .pointer (some ⟨bl, off + i * 4, none⟩)) rfl (by kernel_rfl) (by kernel_rfl) (by kernel_rfl) (fun _ _ _ h => h) (Or.inl ⟨by rfl, ?hq8_9⟩) (by assumption) ?_
                        case hq8_9 => intro w hSw; (try dsimp only at hSw); go_simp; try (intro h; exfalso; omega)
                        (try simp only [Act.put, List.setIfInBounds_toArray, List.set_cons_zero, List.set_cons_succ])
                        refine wpAnyH_take (i := 9) (oi := { dst := some 82, op := Op.load 3 (Operand.tmp 81), type := 3, pos := "law.go:289", after := #[{ on := 8, ground := Ground.data }], guard := none }) (v := ?vq9_10) rfl (by kernel_rfl) (by kernel_rfl) (by kernel_rfl) (fun _ _ _ h => h) (Or.inl ⟨by rfl, ?hq9_10⟩) (by assumption) ?_
                        case hq9_10 => intro w hSw; (try dsimp only at hSw); go_simp; try (with_reducible rfl)
                        (try simp only [Act.put, List.setIfInBounds_toArray, List.set_cons_zero, List.set_cons_succ])
                        refine wpAnyH_take (i := 10) (oi := { dst := some 83, op := Op.binOp BinOp.eql 3 (Operand.tmp 77) (Operand.tmp 82) 3, type := 4, pos := "law.go:289", after := #[{ on := 4, ground := Ground.data }, { on := 9, ground := Ground.data }], guard := none }) (v := .bool false) rfl (by kernel_rfl) (by kernel_rfl) (by kernel_rfl) (fun _ _ _ h => h) (Or.inl ⟨by rfl, ?hq10_11⟩) (by assumption) ?_
                        case hq10_11 => intro w hSw; (try dsimp only at hSw); go_simp; try (simp [e1])
                        (try simp only [Act.put, List.setIfInBounds_toArray, List.set_cons_zero, List.set_cons_succ])
                        refine wpAnyH_take (i := 11) (oi := { dst := some 84, op := Op.move (Operand.tmp 83), type := 4, pos := "law.go:289", after := #[{ on := 10, ground := Ground.data }], guard := none }) (v := ?vq11_12) rfl (by kernel_rfl) (by kernel_rfl) (by kernel_rfl) (fun _ _ _ h => h) (Or.inl ⟨by rfl, ?hq11_12⟩) (by assumption) ?_
                        case hq11_12 => intro w hSw; (try dsimp only at hSw); go_simp; try (with_reducible rfl)
                        (try simp only [Act.put, List.setIfInBounds_toArray, List.set_cons_zero, List.set_cons_succ])
                        refine wpAnyH_take (i := 12) (oi := { dst := some 85, op := Op.move (Operand.tmp 3), type := 27, pos := "law.go:289", after := #[{ on := 11, ground := Ground.guard }], guard := some (11, true) }) (v := undef) rfl (by kernel_rfl) (by kernel_rfl) (by kernel_rfl) (fun _ _ _ h => h) (Or.inr ⟨by rfl, rfl⟩) (by assumption) ?_
                        (try simp only [Act.put, List.setIfInBounds_toArray, List.set_cons_zero, List.set_cons_succ])
                        refine wpAnyH_take (i := 13) (oi := { dst := some 86, op := Op.move (Operand.tmp 15), type := 3, pos := "law.go:289", after := #[{ on := 11, ground := Ground.guard }], guard := some (11, true) }) (v := undef) rfl (by kernel_rfl) (by kernel_rfl) (by kernel_rfl) (fun _ _ _ h => h) (Or.inr ⟨by rfl, rfl⟩) (by assumption) ?_
                        (try simp only [Act.put, List.setIfInBounds_toArray, List.set_cons_zero, List.set_cons_succ])
                        refine wpAnyH_take (i := 14) (oi := { dst := some 87, op := Op.indexAddr 27 (Operand.tmp 85) (Operand.tmp 86), type := 0, pos := "law.go:289", after := #[{ on := 12, ground := Ground.data }, { on := 13, ground := Ground.data }, { on := 11, ground := Ground.guard }], guard := some (11, true) }) (v := undef) rfl (by kernel_rfl) (by kernel_rfl) (by kernel_rfl) (fun _ _ _ h => h) (Or.inr ⟨by rfl, rfl⟩) (by assumption) ?_
                        (try simp only [Act.put, List.setIfInBounds_toArray, List.set_cons_zero, List.set_cons_succ])
                        refine wpAnyH_take (i := 15) (oi := { dst := some 88, op := Op.fieldAddr 66 (Operand.tmp 87) 1, type := 0, pos := "law.go:289", after := #[{ on := 14, ground := Ground.data }, { on := 11, ground := Ground.guard }], guard := some (11, true) }) (v := undef) rfl (by kernel_rfl) (by kernel_rfl) (by kernel_rfl) (fun _ _ _ h => h) (Or.inr ⟨by rfl, rfl⟩) (by assumption) ?_
                        (try simp only [Act.put, List.setIfInBounds_toArray, List.set_cons_zero, List.set_cons_succ])
                        refine wpAnyH_take (i := 16) (oi := { dst := some 89, op := Op.load 3 (Operand.tmp 88), type := 3, pos := "law.go:289", after := #[{ on := 15, ground := Ground.data }, { on := 11, ground := Ground.guard }], guard := some (11, true) }) (v := undef) rfl (by kernel_rfl) (by kernel_rfl) (by kernel_rfl) (fun _ _ _ h => h) (Or.inr ⟨by rfl, rfl⟩) (by assumption) ?_
                        (try simp only [Act.put, List.setIfInBounds_toArray, List.set_cons_zero, List.set_cons_succ])
                        refine wpAnyH_take (i := 17) (oi := { dst := some 90, op := Op.move (Operand.tmp 3), type := 27, pos := "law.go:289", after := #[{ on := 11, ground := Ground.guard }], guard := some (11, true) }) (v := undef) rfl (by kernel_rfl) (by kernel_rfl) (by kernel_rfl) (fun _ _ _ h => h) (Or.inr ⟨by rfl, rfl⟩) (by assumption) ?_
                        (try simp only [Act.put, List.setIfInBounds_toArray, List.set_cons_zero, List.set_cons_succ])
                        refine wpAnyH_take (i := 18) (oi := { dst := some 91, op := Op.move (Operand.tmp 14), type := 3, pos := "law.go:289", after := #[{ on := 11, ground := Ground.guard }], guard := some (11, true) }) (v := undef) rfl (by kernel_rfl) (by kernel_rfl) (by kernel_rfl) (fun _ _ _ h => h) (Or.inr ⟨by rfl, rfl⟩) (by assumption) ?_
                        (try simp only [Act.put, List.setIfInBounds_toArray, List.set_cons_zero, List.set_cons_succ])
                        refine wpAnyH_take (i := 19) (oi := { dst := some 92, op := Op.indexAddr 27 (Operand.tmp 90) (Operand.tmp 91), type := 0, pos := "law.go:289", after := #[{ on := 17, ground := Ground.data }, { on := 18, ground := Ground.data }, { on := 11, ground := Ground.guard }], guard := some (11, true) }) (v := undef) rfl (by kernel_rfl) (by kernel_rfl) (by kernel_rfl) (fun _ _ _ h => h) (Or.inr ⟨by rfl, rfl⟩) (by assumption) ?_
                        (try simp only [Act.put, List.setIfInBounds_toArray, List.set_cons_zero, List.set_cons_succ])
                        refine wpAnyH_take (i := 20) (oi := { dst := some 93, op := Op.fieldAddr 66 (Operand.tmp 92) 1, type := 0, pos := "law.go:289", after := #[{ on := 19, ground := Ground.data }, { on := 11, ground := Ground.guard }], guard := some (11, true) }) (v := undef) rfl (by kernel_rfl) (by kernel_rfl) (by kernel_rfl) (fun _ _ _ h => h) (Or.inr ⟨by rfl, rfl⟩) (by assumption) ?_
                        (try simp only [Act.put, List.setIfInBounds_toArray, List.set_cons_zero, List.set_cons_succ])
                        refine wpAnyH_take (i := 21) (oi := { dst := some 94, op := Op.load 3 (Operand.tmp 93), type := 3, pos := "law.go:289", after := #[{ on := 20, ground := Ground.data }, { on := 11, ground := Ground.guard }], guard := some (11, true) }) (v := undef) rfl (by kernel_rfl) (by kernel_rfl) (by kernel_rfl) (fun _ _ _ h => h) (Or.inr ⟨by rfl, rfl⟩) (by assumption) ?_
                        (try simp only [Act.put, List.setIfInBounds_toArray, List.set_cons_zero, List.set_cons_succ])
                        refine wpAnyH_take (i := 22) (oi := { dst := some 95, op := Op.binOp BinOp.eql 3 (Operand.tmp 89) (Operand.tmp 94) 3, type := 4, pos := "law.go:289", after := #[{ on := 16, ground := Ground.data }, { on := 21, ground := Ground.data }, { on := 11, ground := Ground.guard }], guard := some (11, true) }) (v := undef) rfl (by kernel_rfl) (by kernel_rfl) (by kernel_rfl) (fun _ _ _ h => h) (Or.inr ⟨by rfl, rfl⟩) (by assumption) ?_
                        (try simp only [Act.put, List.setIfInBounds_toArray, List.set_cons_zero, List.set_cons_succ])
                        refine wpAnyH_take (i := 23) (oi := { dst := some 96, op := Op.pick (Operand.tmp 84) (Operand.tmp 95) (Operand.const (Value.bool false)), type := 4, pos := "law.go:289", after := #[{ on := 11, ground := Ground.data }, { on := 22, ground := Ground.data }], guard := none }) (v := .bool false) rfl (by kernel_rfl) (by kernel_rfl) (by kernel_rfl) (fun _ _ _ h => h) (Or.inl ⟨by rfl, ?hq23_13⟩) (by assumption) ?_
                        case hq23_13 => intro w hSw; (try dsimp only at hSw); go_simp; try (simp; try omega)
                        (try simp only [Act.put, List.setIfInBounds_toArray, List.set_cons_zero, List.set_cons_succ])
                        refine wpAnyH_done (by kernel_rfl) ?_ _
                        have HQ2 := Lib.hid (show TRow w.heap.size w5.heap.size wp.drew u13 ((C.take i).map turnC) xs ∧ Below w5.heap.size w5 wp.drew from ⟨HQ.out.2.1.below (Below.refl _ _).drew HQ.out.2.2.2.2.2, HQ.out.2.2.1.drew⟩)
                        clear hSS j1 j2 a1 a2
                        go_wp2
                        go_roundw
                        case rel =>
                          refine ⟨k + 1, hki, nxt _, fun j hj => ?_, HQ2.out.1, HQ2.out.2⟩
                          by_cases e : j = k
                          · subst e
                            rw [← HQ.out.2.2.2.1, ← HQ.out.2.2.2.2.1]
                            exact fun h => e1 h.1
                          · exact HQ.out.1 j (by omega)
                        case measure => exact meas hki
                · as_aux_lemma =>
                    obtain rfl : i = k := by omega
                    have hmk0 := HE.out
                    have HON : Go.RowKit.Hid (OnceC (C.take (i + 1))) := Lib.hid (by
                      obtain ⟨hbi, hsi, -, -, -, -, hnC⟩ := HE.out
                      rw [take_snoc (by omega)]
                      refine once_snoc HI.out.1 fun j hj => ?_
                      rw [List.length_take] at hj
                      rw [List.getElem?_take_of_lt (by omega), ← hbi, ← hsi]
                      exact hno j (by omega))
                    have HP := Lib.hid (And.intro htr (And.intro hbq hbwp))
                    clear hno htr hbq hbwp hbw5 hmk0
                    go_wp2
                    go_loopw [16, 17] (fun ukl uq wz => ∃ q : Nat, q ≤ mk ∧ uq = .int .i64 q ∧ ORow wz wp.heap.size ukl (keepF gl (kl.take q)) ∧ Below wp.heap.size wp wz) (fun _ uq _ => mk - (intOf uq).toNat)
                    case atStart => exact ⟨0, Nat.zero_le _, rfl, by rw [List.take_zero]; exact World.ownsRow_nil _ _ _ _, Below.refl _ _⟩
                    case round =>
                      obtain ⟨q, hq, rfl, hor, hbz⟩ := hrel
                      obtain ⟨wz, rfl⟩ : ∃ wz : World, wz = wr := ⟨_, rfl⟩
                      have hbwz : Below w.heap.size w wz := HP.out.2.2.trans (hbz.mono HP.out.2.2.size)
                      have hb5z : Below w5.heap.size w5 wz := HP.out.2.1.trans (hbz.mono HP.out.2.1.size)
                      obtain ⟨a1, a2, a3, a4⟩ := HAI.out wz hbwz
                      have hkq : (keepF gl (kl.take q)).length ≤ q := by
                        refine Nat.le_trans (keepF_len _ _) ?_
                        rw [List.length_take]
                        exact Nat.min_le_left _ _
                      have HZ := Lib.hid (And.intro hor (And.intro hbz hbwz))
                      have HZ5 := Lib.hid hb5z
                      clear hor hbz hb5z
                      by_cases hlq : q < mk
                      · as_aux_lemma =>
                          obtain ⟨bk, fk, rfl, hcc⟩ := HAK.out wz hbwz (by omega)
                          have c9 := hcc q hlq
                          obtain ⟨x, hx⟩ : ∃ x, x = kl[q]?.getD 0 := ⟨_, rfl⟩
                          rw [← hx] at c9
                          obtain ⟨hs, hhs⟩ : ∃ b, b = decide (x ∈ gl) := ⟨_, rfl⟩
                          have HHS : Go.RowKit.Hid (∀ W, Below w.heap.size w W → Calls Try.prog 25 #[.slice og ng cg, .int .i64 x] W fun e w' => e = .returned (.bool hs) ∧ w' = W) := Lib.hid (fun W h => by rw [hhs]; exact HHS0.out W x h)
                          have hbzd : Below w.heap.size w wz.drew := hbwz.drew
                          have HX := Lib.hid (And.intro hx hhs)
                          clear hx hhs hcc a1 a2 hbwz
                          go_upto_region 25 with fail
                          have hSS := And.intro a3 (And.intro a4 c9)
                          cases hs with
                          | true =>
                            refine wp_region_held_drew (S := (fun w' => w'.cell? ⟨bl, off + i * 4 + 2, none⟩ = some (.slice og ng cg) ∧ w'.cell? ⟨bl, off + i * 4 + 3, none⟩ = some (.slice (some ⟨bk, fk, none⟩) mk ck) ∧ w'.cell? ⟨bk, fk + q, none⟩ = some (.int .i64 x))) (by kernel_rfl) ?_ (fun hHeld => ?_)
                            · exact hSS
                            refine wpAnyH_take (i := 0) (oi := { dst := some 108, op := Op.move (Operand.tmp 3), type := 27, pos := "law.go:295", after := #[], guard := none }) (v := ?vq0_62) rfl (by kernel_rfl) (by kernel_rfl) (by kernel_rfl) (fun _ _ _ h => h) (Or.inl ⟨by rfl, ?hq0_62⟩) (by assumption) ?_
                            case hq0_62 => intro w hSw; (try dsimp only at hSw); go_simp; try (with_reducible rfl)
                            (try simp only [Act.put, List.setIfInBounds_toArray, List.set_cons_zero, List.set_cons_succ])
                            refine wpAnyH_take (i := 1) (oi := { dst := some 109, op := Op.move (Operand.tmp 14), type := 3, pos := "law.go:295", after := #[], guard := none }) (v := ?vq1_63) rfl (by kernel_rfl) (by kernel_rfl) (by kernel_rfl) (fun _ _ _ h => h) (Or.inl ⟨by rfl, ?hq1_63⟩) (by assumption) ?_
                            case hq1_63 => intro w hSw; (try dsimp only at hSw); go_simp; try (with_reducible rfl)
                            (try simp only [Act.put, List.setIfInBounds_toArray, List.set_cons_zero, List.set_cons_succ])
                            refine wpAnyH_take (i := 2) (oi := { dst := some 110, op := Op.indexAddr 27 (Operand.tmp 108) (Operand.tmp 109), type := 0, pos := "law.go:295", after := #[{ on := 0, ground := Ground.data }, { on := 1, ground := Ground.data }], guard := none }) (v := .pointer (some ⟨bl, off + i * 4, none⟩)) rfl (by kernel_rfl) (by kernel_rfl) (by kernel_rfl) (fun _ _ _ h => h) (Or.inl ⟨by rfl, ?hq2_64⟩) (by assumption) ?_
                            case hq2_64 => intro w hSw; (try dsimp only at hSw); go_simp; try (intro h; exfalso; omega)
                            (try simp only [Act.put, List.setIfInBounds_toArray, List.set_cons_zero, List.set_cons_succ])
                            refine wpAnyH_take (i := 3) (oi := { dst := some 111, op := Op.fieldAddr 66 (Operand.tmp 110) 2, type := 0, pos := "law.go:295", after := #[{ on := 2, ground := Ground.data }], guard := none }) (v := .pointer (some ⟨bl, off + i * 4 + 2, none⟩)) rfl (by kernel_rfl) (by kernel_rfl) (by kernel_rfl) (fun _ _ _ h => h) (Or.inl ⟨by rfl, ?hq3_65⟩) (by assumption) ?_
                            case hq3_65 => intro w hSw; (try dsimp only at hSw); go_simp; try (intro h; exfalso; omega)
                            (try simp only [Act.put, List.setIfInBounds_toArray, List.set_cons_zero, List.set_cons_succ])
                            refine wpAnyH_take (i := 4) (oi := { dst := some 112, op := Op.load 42 (Operand.tmp 111), type := 42, pos := "law.go:295", after := #[{ on := 3, ground := Ground.data }], guard := none }) (v := ?vq4_66) rfl (by kernel_rfl) (by kernel_rfl) (by kernel_rfl) (fun _ _ _ h => h) (Or.inl ⟨by rfl, ?hq4_66⟩) (by assumption) ?_
                            case hq4_66 => intro w hSw; (try dsimp only at hSw); go_simp; try (with_reducible rfl)
                            (try simp only [Act.put, List.setIfInBounds_toArray, List.set_cons_zero, List.set_cons_succ])
                            refine wpAnyH_take (i := 5) (oi := { dst := some 113, op := Op.move (Operand.tmp 3), type := 27, pos := "law.go:295", after := #[], guard := none }) (v := ?vq5_67) rfl (by kernel_rfl) (by kernel_rfl) (by kernel_rfl) (fun _ _ _ h => h) (Or.inl ⟨by rfl, ?hq5_67⟩) (by assumption) ?_
                            case hq5_67 => intro w hSw; (try dsimp only at hSw); go_simp; try (with_reducible rfl)
                            (try simp only [Act.put, List.setIfInBounds_toArray, List.set_cons_zero, List.set_cons_succ])
                            refine wpAnyH_take (i := 6) (oi := { dst := some 114, op := Op.move (Operand.tmp 14), type := 3, pos := "law.go:295", after := #[], guard := none }) (v := ?vq6_68) rfl (by kernel_rfl) (by kernel_rfl) (by kernel_rfl) (fun _ _ _ h => h) (Or.inl ⟨by rfl, ?hq6_68⟩) (by assumption) ?_
                            case hq6_68 => intro w hSw; (try dsimp only at hSw); go_simp; try (with_reducible rfl)
                            (try simp only [Act.put, List.setIfInBounds_toArray, List.set_cons_zero, List.set_cons_succ])
                            refine wpAnyH_take (i := 7) (oi := { dst := some 115, op := Op.indexAddr 27 (Operand.tmp 113) (Operand.tmp 114), type := 0, pos := "law.go:295", after := #[{ on := 5, ground := Ground.data }, { on := 6, ground := Ground.data }], guard := none }) (v := .pointer (some ⟨bl, off + i * 4, none⟩)) rfl (by kernel_rfl) (by kernel_rfl) (by kernel_rfl) (fun _ _ _ h => h) (Or.inl ⟨by rfl, ?hq7_69⟩) (by assumption) ?_
                            case hq7_69 => intro w hSw; (try dsimp only at hSw); go_simp; try (intro h; exfalso; omega)
                            (try simp only [Act.put, List.setIfInBounds_toArray, List.set_cons_zero, List.set_cons_succ])
                            refine wpAnyH_take (i := 8) (oi := { dst := some 116, op := Op.fieldAddr 66 (Operand.tmp 115) 3, type := 0, pos := "law.go:295", after := #[{ on := 7, ground := Ground.data }], guard := none }) (v := .pointer (some ⟨bl, off + i * 4 + 3, none⟩)) rfl (by kernel_rfl) (by kernel_rfl) (by kernel_rfl) (fun _ _ _ h => h) (Or.inl ⟨by rfl, ?hq8_70⟩) (by assumption) ?_
                            case hq8_70 => intro w hSw; (try dsimp only at hSw); go_simp; try (intro h; exfalso; omega)
                            (try simp only [Act.put, List.setIfInBounds_toArray, List.set_cons_zero, List.set_cons_succ])
                            refine wpAnyH_take (i := 9) (oi := { dst := some 117, op := Op.load 42 (Operand.tmp 116), type := 42, pos := "law.go:295", after := #[{ on := 8, ground := Ground.data }], guard := none }) (v := ?vq9_71) rfl (by kernel_rfl) (by kernel_rfl) (by kernel_rfl) (fun _ _ _ h => h) (Or.inl ⟨by rfl, ?hq9_71⟩) (by assumption) ?_
                            case hq9_71 => intro w hSw; (try dsimp only at hSw); go_simp; try (with_reducible rfl)
                            (try simp only [Act.put, List.setIfInBounds_toArray, List.set_cons_zero, List.set_cons_succ])
                            refine wpAnyH_take (i := 10) (oi := { dst := some 118, op := Op.move (Operand.tmp 17), type := 3, pos := "law.go:295", after := #[], guard := none }) (v := ?vq10_72) rfl (by kernel_rfl) (by kernel_rfl) (by kernel_rfl) (fun _ _ _ h => h) (Or.inl ⟨by rfl, ?hq10_72⟩) (by assumption) ?_
                            case hq10_72 => intro w hSw; (try dsimp only at hSw); go_simp; try (with_reducible rfl)
                            (try simp only [Act.put, List.setIfInBounds_toArray, List.set_cons_zero, List.set_cons_succ])
                            refine wpAnyH_take (i := 11) (oi := { dst := some 119, op := Op.indexAddr 42 (Operand.tmp 117) (Operand.tmp 118), type := 0, pos := "law.go:295", after := #[{ on := 9, ground := Ground.data }, { on := 10, ground := Ground.data }], guard := none }) (v := .pointer (some ⟨bk, fk + q, none⟩)) rfl (by kernel_rfl) (by kernel_rfl) (by kernel_rfl) (fun _ _ _ h => h) (Or.inl ⟨by rfl, ?hq11_73⟩) (by assumption) ?_
                            case hq11_73 => intro w hSw; (try dsimp only at hSw); go_simp; try (intro h; exfalso; omega)
                            (try simp only [Act.put, List.setIfInBounds_toArray, List.set_cons_zero, List.set_cons_succ])
                            refine wpAnyH_take (i := 12) (oi := { dst := some 120, op := Op.load 3 (Operand.tmp 119), type := 3, pos := "law.go:295", after := #[{ on := 11, ground := Ground.data }], guard := none }) (v := ?vq12_74) rfl (by kernel_rfl) (by kernel_rfl) (by kernel_rfl) (fun _ _ _ h => h) (Or.inl ⟨by rfl, ?hq12_74⟩) (by assumption) ?_
                            case hq12_74 => intro w hSw; (try dsimp only at hSw); go_simp; try (with_reducible rfl)
                            (try simp only [Act.put, List.setIfInBounds_toArray, List.set_cons_zero, List.set_cons_succ])
                            refine wpAnyH_ready (rs := [13]) (by kernel_rfl) (by simp) ?_
                            refine AllReadyH.cons (o := { dst := some 121, op := Op.call { callee := Callee.value (Operand.func 25), args := #[Operand.tmp 112, Operand.tmp 120], argTypes := #[42, 3] }, type := 4, pos := "law.go:295", after := #[{ on := 4, ground := Ground.data }, { on := 12, ground := Ground.data }], guard := none }) rfl (fun K hK => ?_) AllReadyH.nil
                            go_simp
                            refine (HHS.out _ hbzd).mono ?_
                            rintro e w9 ⟨rfl, rfl⟩
                            refine hK.out _ _ hSS (fun hHeld => ?_)
                            clear hK K
                            (try simp only [Act.put, List.setIfInBounds_toArray, List.set_cons_zero, List.set_cons_succ])
                            refine wpAnyH_take (i := 14) (oi := { dst := some 122, op := Op.unOp UnOp.not 4 (Operand.tmp 121), type := 4, pos := "law.go:295", after := #[{ on := 13, ground := Ground.data }], guard := none }) (v := .bool false) rfl (by kernel_rfl) (by kernel_rfl) (by kernel_rfl) (fun _ _ _ h => h) (Or.inl ⟨by rfl, ?hq14_75⟩) (by assumption) ?_
                            case hq14_75 => intro w hSw; (try dsimp only at hSw); go_simp; try (simp; try omega)
                            (try simp only [Act.put, List.setIfInBounds_toArray, List.set_cons_zero, List.set_cons_succ])
                            refine wpAnyH_done (by kernel_rfl) ?_ _
                            clear hSS
                            have HZd := Lib.hid (show ORow wz.drew wp.heap.size u16 (keepF gl (kl.take q)) ∧ Below wp.heap.size wp wz.drew from ⟨HZ.out.1, HZ.out.2.1.drew⟩)
                            clear a3 a4 c9 hbzd
                            go_wp2
                            go_roundw
                            case rel =>
                              have h1 := HX.out.2
                              rw [HX.out.1] at h1
                              have h2 := HE.out.2.2.2.2.2.1
                              refine ⟨q + 1, hlq, nxt _, ?_, HZd.out.2⟩
                              rw [keepF_take (by omega), if_pos (of_decide_eq_true h1.symm), List.append_nil]
                              exact HZd.out.1
                            case measure => exact meas hlq
                          | false =>
                            refine wp_region_held_drew (S := (fun w' => w'.cell? ⟨bl, off + i * 4 + 2, none⟩ = some (.slice og ng cg) ∧ w'.cell? ⟨bl, off + i * 4 + 3, none⟩ = some (.slice (some ⟨bk, fk, none⟩) mk ck) ∧ w'.cell? ⟨bk, fk + q, none⟩ = some (.int .i64 x))) (by kernel_rfl) ?_ (fun hHeld => ?_)
                            · exact hSS
                            refine wpAnyH_take (i := 0) (oi := { dst := some 108, op := Op.move (Operand.tmp 3), type := 27, pos := "law.go:295", after := #[], guard := none }) (v := ?vq0_76) rfl (by kernel_rfl) (by kernel_rfl) (by kernel_rfl) (fun _ _ _ h => h) (Or.inl ⟨by rfl, ?hq0_76⟩) (by assumption) ?_
                            case hq0_76 => intro w hSw; (try dsimp only at hSw); go_simp; try (with_reducible rfl)
                            (try simp only [Act.put, List.setIfInBounds_toArray, List.set_cons_zero, List.set_cons_succ])
                            refine wpAnyH_take (i := 1) (oi := { dst := some 109, op := Op.move (Operand.tmp 14), type := 3, pos := "law.go:295", after := #[], guard := none }) (v := ?vq1_77) rfl (by kernel_rfl) (by kernel_rfl) (by kernel_rfl) (fun _ _ _ h => h) (Or.inl ⟨by rfl, ?hq1_77⟩) (by assumption) ?_
                            case hq1_77 => intro w hSw; (try dsimp only at hSw); go_simp; try (with_reducible rfl)
                            (try simp only [Act.put, List.setIfInBounds_toArray, List.set_cons_zero, List.set_cons_succ])
                            refine wpAnyH_take (i := 2) (oi := { dst := some 110, op := Op.indexAddr 27 (Operand.tmp 108) (Operand.tmp 109), type := 0, pos := "law.go:295", after := #[{ on := 0, ground := Ground.data }, { on := 1, ground := Ground.data }], guard := none }) (v := .pointer (some ⟨bl, off + i * 4, none⟩)) rfl (by kernel_rfl) (by kernel_rfl) (by kernel_rfl) (fun _ _ _ h => h) (Or.inl ⟨by rfl, ?hq2_78⟩) (by assumption) ?_
                            case hq2_78 => intro w hSw; (try dsimp only at hSw); go_simp; try (intro h; exfalso; omega)
                            (try simp only [Act.put, List.setIfInBounds_toArray, List.set_cons_zero, List.set_cons_succ])
                            refine wpAnyH_take (i := 3) (oi := { dst := some 111, op := Op.fieldAddr 66 (Operand.tmp 110) 2, type := 0, pos := "law.go:295", after := #[{ on := 2, ground := Ground.data }], guard := none }) (v := .pointer (some ⟨bl, off + i * 4 + 2, none⟩)) rfl (by kernel_rfl) (by kernel_rfl) (by kernel_rfl) (fun _ _ _ h => h) (Or.inl ⟨by rfl, ?hq3_79⟩) (by assumption) ?_
                            case hq3_79 => intro w hSw; (try dsimp only at hSw); go_simp; try (intro h; exfalso; omega)
                            (try simp only [Act.put, List.setIfInBounds_toArray, List.set_cons_zero, List.set_cons_succ])
                            refine wpAnyH_take (i := 4) (oi := { dst := some 112, op := Op.load 42 (Operand.tmp 111), type := 42, pos := "law.go:295", after := #[{ on := 3, ground := Ground.data }], guard := none }) (v := ?vq4_80) rfl (by kernel_rfl) (by kernel_rfl) (by kernel_rfl) (fun _ _ _ h => h) (Or.inl ⟨by rfl, ?hq4_80⟩) (by assumption) ?_
                            case hq4_80 => intro w hSw; (try dsimp only at hSw); go_simp; try (with_reducible rfl)
                            (try simp only [Act.put, List.setIfInBounds_toArray, List.set_cons_zero, List.set_cons_succ])
                            refine wpAnyH_take (i := 5) (oi := { dst := some 113, op := Op.move (Operand.tmp 3), type := 27, pos := "law.go:295", after := #[], guard := none }) (v := ?vq5_81) rfl (by kernel_rfl) (by kernel_rfl) (by kernel_rfl) (fun _ _ _ h => h) (Or.inl ⟨by rfl, ?hq5_81⟩) (by assumption) ?_
                            case hq5_81 => intro w hSw; (try dsimp only at hSw); go_simp; try (with_reducible rfl)
                            (try simp only [Act.put, List.setIfInBounds_toArray, List.set_cons_zero, List.set_cons_succ])
                            refine wpAnyH_take (i := 6) (oi := { dst := some 114, op := Op.move (Operand.tmp 14), type := 3, pos := "law.go:295", after := #[], guard := none }) (v := ?vq6_82) rfl (by kernel_rfl) (by kernel_rfl) (by kernel_rfl) (fun _ _ _ h => h) (Or.inl ⟨by rfl, ?hq6_82⟩) (by assumption) ?_
                            case hq6_82 => intro w hSw; (try dsimp only at hSw); go_simp; try (with_reducible rfl)
                            (try simp only [Act.put, List.setIfInBounds_toArray, List.set_cons_zero, List.set_cons_succ])
                            refine wpAnyH_take (i := 7) (oi := { dst := some 115, op := Op.indexAddr 27 (Operand.tmp 113) (Operand.tmp 114), type := 0, pos := "law.go:295", after := #[{ on := 5, ground := Ground.data }, { on := 6, ground := Ground.data }], guard := none }) (v := .pointer (some ⟨bl, off + i * 4, none⟩)) rfl (by kernel_rfl) (by kernel_rfl) (by kernel_rfl) (fun _ _ _ h => h) (Or.inl ⟨by rfl, ?hq7_83⟩) (by assumption) ?_
                            case hq7_83 => intro w hSw; (try dsimp only at hSw); go_simp; try (intro h; exfalso; omega)
                            (try simp only [Act.put, List.setIfInBounds_toArray, List.set_cons_zero, List.set_cons_succ])
                            refine wpAnyH_take (i := 8) (oi := { dst := some 116, op := Op.fieldAddr 66 (Operand.tmp 115) 3, type := 0, pos := "law.go:295", after := #[{ on := 7, ground := Ground.data }], guard := none }) (v := .pointer (some ⟨bl, off + i * 4 + 3, none⟩)) rfl (by kernel_rfl) (by kernel_rfl) (by kernel_rfl) (fun _ _ _ h => h) (Or.inl ⟨by rfl, ?hq8_84⟩) (by assumption) ?_
                            case hq8_84 => intro w hSw; (try dsimp only at hSw); go_simp; try (intro h; exfalso; omega)
                            (try simp only [Act.put, List.setIfInBounds_toArray, List.set_cons_zero, List.set_cons_succ])
                            refine wpAnyH_take (i := 9) (oi := { dst := some 117, op := Op.load 42 (Operand.tmp 116), type := 42, pos := "law.go:295", after := #[{ on := 8, ground := Ground.data }], guard := none }) (v := ?vq9_85) rfl (by kernel_rfl) (by kernel_rfl) (by kernel_rfl) (fun _ _ _ h => h) (Or.inl ⟨by rfl, ?hq9_85⟩) (by assumption) ?_
                            case hq9_85 => intro w hSw; (try dsimp only at hSw); go_simp; try (with_reducible rfl)
                            (try simp only [Act.put, List.setIfInBounds_toArray, List.set_cons_zero, List.set_cons_succ])
                            refine wpAnyH_take (i := 10) (oi := { dst := some 118, op := Op.move (Operand.tmp 17), type := 3, pos := "law.go:295", after := #[], guard := none }) (v := ?vq10_86) rfl (by kernel_rfl) (by kernel_rfl) (by kernel_rfl) (fun _ _ _ h => h) (Or.inl ⟨by rfl, ?hq10_86⟩) (by assumption) ?_
                            case hq10_86 => intro w hSw; (try dsimp only at hSw); go_simp; try (with_reducible rfl)
                            (try simp only [Act.put, List.setIfInBounds_toArray, List.set_cons_zero, List.set_cons_succ])
                            refine wpAnyH_take (i := 11) (oi := { dst := some 119, op := Op.indexAddr 42 (Operand.tmp 117) (Operand.tmp 118), type := 0, pos := "law.go:295", after := #[{ on := 9, ground := Ground.data }, { on := 10, ground := Ground.data }], guard := none }) (v := .pointer (some ⟨bk, fk + q, none⟩)) rfl (by kernel_rfl) (by kernel_rfl) (by kernel_rfl) (fun _ _ _ h => h) (Or.inl ⟨by rfl, ?hq11_87⟩) (by assumption) ?_
                            case hq11_87 => intro w hSw; (try dsimp only at hSw); go_simp; try (intro h; exfalso; omega)
                            (try simp only [Act.put, List.setIfInBounds_toArray, List.set_cons_zero, List.set_cons_succ])
                            refine wpAnyH_take (i := 12) (oi := { dst := some 120, op := Op.load 3 (Operand.tmp 119), type := 3, pos := "law.go:295", after := #[{ on := 11, ground := Ground.data }], guard := none }) (v := ?vq12_88) rfl (by kernel_rfl) (by kernel_rfl) (by kernel_rfl) (fun _ _ _ h => h) (Or.inl ⟨by rfl, ?hq12_88⟩) (by assumption) ?_
                            case hq12_88 => intro w hSw; (try dsimp only at hSw); go_simp; try (with_reducible rfl)
                            (try simp only [Act.put, List.setIfInBounds_toArray, List.set_cons_zero, List.set_cons_succ])
                            refine wpAnyH_ready (rs := [13]) (by kernel_rfl) (by simp) ?_
                            refine AllReadyH.cons (o := { dst := some 121, op := Op.call { callee := Callee.value (Operand.func 25), args := #[Operand.tmp 112, Operand.tmp 120], argTypes := #[42, 3] }, type := 4, pos := "law.go:295", after := #[{ on := 4, ground := Ground.data }, { on := 12, ground := Ground.data }], guard := none }) rfl (fun K hK => ?_) AllReadyH.nil
                            go_simp
                            refine (HHS.out _ hbzd).mono ?_
                            rintro e w9 ⟨rfl, rfl⟩
                            refine hK.out _ _ hSS (fun hHeld => ?_)
                            clear hK K
                            (try simp only [Act.put, List.setIfInBounds_toArray, List.set_cons_zero, List.set_cons_succ])
                            refine wpAnyH_take (i := 14) (oi := { dst := some 122, op := Op.unOp UnOp.not 4 (Operand.tmp 121), type := 4, pos := "law.go:295", after := #[{ on := 13, ground := Ground.data }], guard := none }) (v := .bool true) rfl (by kernel_rfl) (by kernel_rfl) (by kernel_rfl) (fun _ _ _ h => h) (Or.inl ⟨by rfl, ?hq14_89⟩) (by assumption) ?_
                            case hq14_89 => intro w hSw; (try dsimp only at hSw); go_simp; try (simp; try omega)
                            (try simp only [Act.put, List.setIfInBounds_toArray, List.set_cons_zero, List.set_cons_succ])
                            refine wpAnyH_done (by kernel_rfl) ?_ _
                            clear hSS
                            obtain ⟨wd, hwd⟩ : ∃ wd, wd = wz.drew := ⟨_, rfl⟩
                            have a4' : wd.cell? ⟨bl, off + i * 4 + 3, none⟩ = some (.slice (some ⟨bk, fk, none⟩) mk ck) := by rw [hwd]; exact a4
                            have c9' : wd.cell? ⟨bk, fk + q, none⟩ = some (.int .i64 x) := by rw [hwd]; exact c9
                            have HZd := Lib.hid (show ORow wd wp.heap.size u16 (keepF gl (kl.take q)) ∧ Below wp.heap.size wp wd from by rw [hwd]; exact ⟨HZ.out.1, HZ.out.2.1.drew⟩)
                            rw [← hwd]
                            clear a3 a4 c9 hbzd hwd
                            go_wp2_with (at_builtin; refine wpList_append_own_at _ rfl (.tmp 123) (.tmp 132) 42 rfl wp.heap.size 3 i3 _ 1 8 Try.underlying42 HI3.out.1 HI3.out.2.1 HI3.out.2.2.1 HI3.out.2.2.2 rfl (by decide) _ _ _ rfl (HZd.out.1.alloc _) ⟨_, 0, none⟩ 1 1 [.int .i64 x] rfl rfl ?c1 ?c2 ?c3 ?c4 ?c5 ?_)
                            case c1 => exact new_cells _ [.int .i64 x] _
                            case c2 => intro u hu; simp at hu; subst hu; rfl
                            case c3 => unfold maxLen; omega
                            case c4 => omega
                            case c5 => have := HZd.out.2.size; simp; omega
                            intro v' w7 hown hg _ _
                            have HW7 := Lib.hid (And.intro hown hg)
                            clear hown hg
                            go_wp2
                            go_roundw
                            case rel =>
                              have h1 := HX.out.2
                              rw [HX.out.1] at h1
                              have h2 := HE.out.2.2.2.2.2.1
                              refine ⟨q + 1, hlq, nxt _, ?_, (HZd.out.2.alloc HZd.out.2.size _).grown HW7.out.2 (by have := HZd.out.2.size; simp; omega) (fun k hk => (own_lt HZd.out.1 hk).2)⟩
                              rw [keepF_take (by omega), if_neg (of_decide_eq_false h1.symm), ORow, List.length_append, iC, List.map_append, ← HX.out.1]
                              exact HW7.out.1
                            case measure => exact meas hlq
                      · as_aux_lemma =>
                          obtain rfl : mk = q := by omega
                          have hor : ORow wz wp.heap.size u16 (keepF gl kl) := by
                            have h := HZ.out.1
                            rw [HE.out.2.2.2.2.2.1, List.take_length] at h
                            exact h
                          obtain ⟨nk, hnk⟩ : ∃ x, x = (keepF gl kl).length := ⟨_, rfl⟩
                          have hor2 := hor
                          unfold ORow at hor2
                          rw [← hnk] at hor2
                          obtain ⟨ou, cu, rfl, -⟩ := own_parts hor2
                          have HTZ : Go.RowKit.Hid (TRow w.heap.size w5.heap.size wz u13 ((C.take i).map turnC) xs ∧ wz.ownsRow w5.heap.size 66 4 u13 i xs) := Lib.hid (by
                            have h := HP.out.1.below (HZ.out.2.1) HP.out.2.2.size
                            have h2 := h.1
                            have h3 := HE.out.2.2.2.2.2.2
                            rw [List.length_map, List.length_take, show min i C.length = i by omega] at h2
                            exact ⟨h, h2⟩)
                          have HOR := Lib.hid (And.intro hor hnk)
                          have h05 := HI.out.2.2.2.2
                          clear hor hnk hor2 hbwz
                          go_upto_region 27 with fail
                          have hSS := And.intro a1 (And.intro a2 a3)
                          clear a1 a2 a3 a4
                          refine wp_region_held_drew (S := (fun w' => w'.cell? ⟨bl, off + i * 4, none⟩ = some (.int .i64 bi) ∧ w'.cell? ⟨bl, off + i * 4 + 1, none⟩ = some (.int .i64 si) ∧ w'.cell? ⟨bl, off + i * 4 + 2, none⟩ = some (.slice og ng cg))) (by kernel_rfl) ?_ (fun hHeld => ?_)
                          · exact hSS
                          obtain ⟨Ud, hUd⟩ : ∃ Ud, Ud = wz.drew := ⟨_, rfl⟩
                          rw [← hUd]
                          have HUD := Lib.hid hUd
                          have hSd : Ud.cell? ⟨bl, off + i * 4, none⟩ = some (.int .i64 bi) ∧ Ud.cell? ⟨bl, off + i * 4 + 1, none⟩ = some (.int .i64 si) ∧ Ud.cell? ⟨bl, off + i * 4 + 2, none⟩ = some (.slice og ng cg) := by rw [hUd]; exact hSS
                          clear hUd
                          refine wpAnyH_take (i := 0) (oi := { dst := some 134, op := Op.move (Operand.tmp 13), type := 27, pos := "law.go:299", after := #[], guard := none }) (v := ?vq0_90) rfl (by kernel_rfl) (by kernel_rfl) (by kernel_rfl) (fun _ _ _ h => h) (Or.inl ⟨by rfl, ?hq0_90⟩) (by assumption) ?_
                          case hq0_90 => intro w hSw; (try dsimp only at hSw); go_simp; try (with_reducible rfl)
                          (try simp only [Act.put, List.setIfInBounds_toArray, List.set_cons_zero, List.set_cons_succ])
                          refine wpAnyH_take (i := 1) (oi := { dst := some 135, op := Op.move (Operand.tmp 3), type := 27, pos := "law.go:299", after := #[], guard := none }) (v := ?vq1_91) rfl (by kernel_rfl) (by kernel_rfl) (by kernel_rfl) (fun _ _ _ h => h) (Or.inl ⟨by rfl, ?hq1_91⟩) (by assumption) ?_
                          case hq1_91 => intro w hSw; (try dsimp only at hSw); go_simp; try (with_reducible rfl)
                          (try simp only [Act.put, List.setIfInBounds_toArray, List.set_cons_zero, List.set_cons_succ])
                          refine wpAnyH_take (i := 2) (oi := { dst := some 136, op := Op.move (Operand.tmp 14), type := 3, pos := "law.go:299", after := #[], guard := none }) (v := ?vq2_92) rfl (by kernel_rfl) (by kernel_rfl) (by kernel_rfl) (fun _ _ _ h => h) (Or.inl ⟨by rfl, ?hq2_92⟩) (by assumption) ?_
                          case hq2_92 => intro w hSw; (try dsimp only at hSw); go_simp; try (with_reducible rfl)
                          (try simp only [Act.put, List.setIfInBounds_toArray, List.set_cons_zero, List.set_cons_succ])
                          refine wpAnyH_take (i := 3) (oi := { dst := some 137, op := Op.indexAddr 27 (Operand.tmp 135) (Operand.tmp 136), type := 0, pos := "law.go:299", after := #[{ on := 1, ground := Ground.data }, { on := 2, ground := Ground.data }], guard := none }) (v := .pointer (some ⟨bl, off + i * 4, none⟩)) rfl (by kernel_rfl) (by kernel_rfl) (by kernel_rfl) (fun _ _ _ h => h) (Or.inl ⟨by rfl, ?hq3_93⟩) (by assumption) ?_
                          case hq3_93 => intro w hSw; (try dsimp only at hSw); go_simp; try (intro h; exfalso; omega)
                          (try simp only [Act.put, List.setIfInBounds_toArray, List.set_cons_zero, List.set_cons_succ])
                          refine wpAnyH_take (i := 4) (oi := { dst := some 138, op := Op.fieldAddr 66 (Operand.tmp 137) 0, type := 0, pos := "law.go:299", after := #[{ on := 3, ground := Ground.data }], guard := none }) (v := .pointer (some ⟨bl, off + i * 4, none⟩)) rfl (by kernel_rfl) (by kernel_rfl) (by kernel_rfl) (fun _ _ _ h => h) (Or.inl ⟨by rfl, ?hq4_94⟩) (by assumption) ?_
                          case hq4_94 => intro w hSw; (try dsimp only at hSw); go_simp; try (intro h; exfalso; omega)
                          (try simp only [Act.put, List.setIfInBounds_toArray, List.set_cons_zero, List.set_cons_succ])
                          refine wpAnyH_take (i := 5) (oi := { dst := some 139, op := Op.load 3 (Operand.tmp 138), type := 3, pos := "law.go:299", after := #[{ on := 4, ground := Ground.data }], guard := none }) (v := ?vq5_95) rfl (by kernel_rfl) (by kernel_rfl) (by kernel_rfl) (fun _ _ _ h => h) (Or.inl ⟨by rfl, ?hq5_95⟩) (by assumption) ?_
                          case hq5_95 => intro w hSw; (try dsimp only at hSw); go_simp; try (with_reducible rfl)
                          (try simp only [Act.put, List.setIfInBounds_toArray, List.set_cons_zero, List.set_cons_succ])
                          refine wpAnyH_take (i := 6) (oi := { dst := some 140, op := Op.move (Operand.tmp 3), type := 27, pos := "law.go:299", after := #[], guard := none }) (v := ?vq6_96) rfl (by kernel_rfl) (by kernel_rfl) (by kernel_rfl) (fun _ _ _ h => h) (Or.inl ⟨by rfl, ?hq6_96⟩) (by assumption) ?_
                          case hq6_96 => intro w hSw; (try dsimp only at hSw); go_simp; try (with_reducible rfl)
                          (try simp only [Act.put, List.setIfInBounds_toArray, List.set_cons_zero, List.set_cons_succ])
                          refine wpAnyH_take (i := 7) (oi := { dst := some 141, op := Op.move (Operand.tmp 14), type := 3, pos := "law.go:299", after := #[], guard := none }) (v := ?vq7_97) rfl (by kernel_rfl) (by kernel_rfl) (by kernel_rfl) (fun _ _ _ h => h) (Or.inl ⟨by rfl, ?hq7_97⟩) (by assumption) ?_
                          case hq7_97 => intro w hSw; (try dsimp only at hSw); go_simp; try (with_reducible rfl)
                          (try simp only [Act.put, List.setIfInBounds_toArray, List.set_cons_zero, List.set_cons_succ])
                          refine wpAnyH_take (i := 8) (oi := { dst := some 142, op := Op.indexAddr 27 (Operand.tmp 140) (Operand.tmp 141), type := 0, pos := "law.go:299", after := #[{ on := 6, ground := Ground.data }, { on := 7, ground := Ground.data }], guard := none }) (v := .pointer (some ⟨bl, off + i * 4, none⟩)) rfl (by kernel_rfl) (by kernel_rfl) (by kernel_rfl) (fun _ _ _ h => h) (Or.inl ⟨by rfl, ?hq8_98⟩) (by assumption) ?_
                          case hq8_98 => intro w hSw; (try dsimp only at hSw); go_simp; try (intro h; exfalso; omega)
                          (try simp only [Act.put, List.setIfInBounds_toArray, List.set_cons_zero, List.set_cons_succ])
                          refine wpAnyH_take (i := 9) (oi := { dst := some 143, op := Op.fieldAddr 66 (Operand.tmp 142) 1, type := 0, pos := "law.go:299", after := #[{ on := 8, ground := Ground.data }], guard := none }) (v := .pointer (some ⟨bl, off + i * 4 + 1, none⟩)) rfl (by kernel_rfl) (by kernel_rfl) (by kernel_rfl) (fun _ _ _ h => h) (Or.inl ⟨by rfl, ?hq9_99⟩) (by assumption) ?_
                          case hq9_99 => intro w hSw; (try dsimp only at hSw); go_simp; try (intro h; exfalso; omega)
                          (try simp only [Act.put, List.setIfInBounds_toArray, List.set_cons_zero, List.set_cons_succ])
                          refine wpAnyH_take (i := 10) (oi := { dst := some 144, op := Op.load 3 (Operand.tmp 143), type := 3, pos := "law.go:299", after := #[{ on := 9, ground := Ground.data }], guard := none }) (v := ?vq10_100) rfl (by kernel_rfl) (by kernel_rfl) (by kernel_rfl) (fun _ _ _ h => h) (Or.inl ⟨by rfl, ?hq10_100⟩) (by assumption) ?_
                          case hq10_100 => intro w hSw; (try dsimp only at hSw); go_simp; try (with_reducible rfl)
                          (try simp only [Act.put, List.setIfInBounds_toArray, List.set_cons_zero, List.set_cons_succ])
                          refine wpAnyH_take (i := 11) (oi := { dst := some 145, op := Op.move (Operand.tmp 16), type := 42, pos := "law.go:299", after := #[], guard := none }) (v := ?vq11_101) rfl (by kernel_rfl) (by kernel_rfl) (by kernel_rfl) (fun _ _ _ h => h) (Or.inl ⟨by rfl, ?hq11_101⟩) (by assumption) ?_
                          case hq11_101 => intro w hSw; (try dsimp only at hSw); go_simp; try (with_reducible rfl)
                          (try simp only [Act.put, List.setIfInBounds_toArray, List.set_cons_zero, List.set_cons_succ])
                          refine wpAnyH_take (i := 12) (oi := { dst := some 146, op := Op.move (Operand.tmp 3), type := 27, pos := "law.go:299", after := #[], guard := none }) (v := ?vq12_102) rfl (by kernel_rfl) (by kernel_rfl) (by kernel_rfl) (fun _ _ _ h => h) (Or.inl ⟨by rfl, ?hq12_102⟩) (by assumption) ?_
                          case hq12_102 => intro w hSw; (try dsimp only at hSw); go_simp; try (with_reducible rfl)
                          (try simp only [Act.put, List.setIfInBounds_toArray, List.set_cons_zero, List.set_cons_succ])
                          refine wpAnyH_take (i := 13) (oi := { dst := some 147, op := Op.move (Operand.tmp 14), type := 3, pos := "law.go:299", after := #[], guard := none }) (v := ?vq13_103) rfl (by kernel_rfl) (by kernel_rfl) (by kernel_rfl) (fun _ _ _ h => h) (Or.inl ⟨by rfl, ?hq13_103⟩) (by assumption) ?_
                          case hq13_103 => intro w hSw; (try dsimp only at hSw); go_simp; try (with_reducible rfl)
                          (try simp only [Act.put, List.setIfInBounds_toArray, List.set_cons_zero, List.set_cons_succ])
                          refine wpAnyH_take (i := 14) (oi := { dst := some 148, op := Op.indexAddr 27 (Operand.tmp 146) (Operand.tmp 147), type := 0, pos := "law.go:299", after := #[{ on := 12, ground := Ground.data }, { on := 13, ground := Ground.data }], guard := none }) (v := .pointer (some ⟨bl, off + i * 4, none⟩)) rfl (by kernel_rfl) (by kernel_rfl) (by kernel_rfl) (fun _ _ _ h => h) (Or.inl ⟨by rfl, ?hq14_104⟩) (by assumption) ?_
                          case hq14_104 => intro w hSw; (try dsimp only at hSw); go_simp; try (intro h; exfalso; omega)
                          (try simp only [Act.put, List.setIfInBounds_toArray, List.set_cons_zero, List.set_cons_succ])
                          refine wpAnyH_take (i := 15) (oi := { dst := some 149, op := Op.fieldAddr 66 (Operand.tmp 148) 2, type := 0, pos := "law.go:299", after := #[{ on := 14, ground := Ground.data }], guard := none }) (v := .pointer (some ⟨bl, off + i * 4 + 2, none⟩)) rfl (by kernel_rfl) (by kernel_rfl) (by kernel_rfl) (fun _ _ _ h => h) (Or.inl ⟨by rfl, ?hq15_105⟩) (by assumption) ?_
                          case hq15_105 => intro w hSw; (try dsimp only at hSw); go_simp; try (intro h; exfalso; omega)
                          (try simp only [Act.put, List.setIfInBounds_toArray, List.set_cons_zero, List.set_cons_succ])
                          refine wpAnyH_take (i := 16) (oi := { dst := some 150, op := Op.load 42 (Operand.tmp 149), type := 42, pos := "law.go:299", after := #[{ on := 15, ground := Ground.data }], guard := none }) (v := ?vq16_106) rfl (by kernel_rfl) (by kernel_rfl) (by kernel_rfl) (fun _ _ _ h => h) (Or.inl ⟨by rfl, ?hq16_106⟩) (by assumption) ?_
                          case hq16_106 => intro w hSw; (try dsimp only at hSw); go_simp; try (with_reducible rfl)
                          (try simp only [Act.put, List.setIfInBounds_toArray, List.set_cons_zero, List.set_cons_succ])
                          refine wpAnyH_take (i := 17) (oi := { dst := some 151, op := Op.build 66 #[(0, Operand.tmp 139), (1, Operand.tmp 144), (2, Operand.tmp 145), (3, Operand.tmp 150)], type := 66, pos := "law.go:299", after := #[{ on := 5, ground := Ground.data }, { on := 10, ground := Ground.data }, { on := 11, ground := Ground.data }, { on := 16, ground := Ground.data }], guard := none }) (v := ?vq17_107) rfl (by kernel_rfl) (by kernel_rfl) (by kernel_rfl) (fun _ _ _ h => h) (Or.inl ⟨by rfl, ?hq17_107⟩) (by assumption) ?_
                          case hq17_107 => intro w hSw; (try dsimp only at hSw); go_simp; try (with_reducible rfl)
                          (try simp only [Act.put, List.setIfInBounds_toArray, List.set_cons_zero, List.set_cons_succ])
                          refine wpAnyH_ready (rs := [18]) (by kernel_rfl) (by simp) ?_
                          refine AllReadyH.cons (o := { dst := some 152, op := Op.buildSlice 27 1 #[(0, Operand.tmp 151)], type := 27, pos := "law.go:299", after := #[{ on := 17, ground := Ground.data }], guard := none }) rfl (fun K hK => ?_) AllReadyH.nil
                          go_simp
                          obtain ⟨Wa, hWa⟩ : ∃ Wa, Wa = Ud.alloc (.cells #[.int .i64 bi, .int .i64 si, .slice ou nk cu, .slice og ng cg] 66) := ⟨_, rfl⟩
                          rw [← hWa]
                          obtain ⟨ua, hua⟩ : ∃ ua, ua = Ud.heap.size := ⟨_, rfl⟩
                          rw [← hua]
                          have HWA := Lib.hid (And.intro hWa hua)
                          have HBa : Go.RowKit.Hid (Below w.heap.size w Wa ∧ Below w5.heap.size w5 Wa ∧ wz.heap.size ≤ Wa.heap.size ∧ w5.heap.size ≤ Wa.heap.size) := Lib.hid (by
                            rw [hWa, HUD.out]
                            have h1 := HZ.out.2.2
                            have h2 := HZ5.out
                            exact ⟨h1.drew.alloc h1.size _, h2.drew.alloc h2.size _, by simp, by have := h2.size; simp; omega⟩)
                          clear hWa hua
                          have hSa := HAI.out Wa HBa.out.1
                          refine hK.out _ _ ⟨hSa.1, hSa.2.1, hSa.2.2.1⟩ (fun hHeld => ?_)
                          clear hK K hSa
                          (try simp only [Act.put, List.setIfInBounds_toArray, List.set_cons_zero, List.set_cons_succ])
                          refine wpAnyH_ready (rs := [19]) (by kernel_rfl) (by simp) ?_
                          refine AllReadyH.cons (o := { dst := some 153, op := Op.call { callee := Callee.builtin Builtin.append, args := #[Operand.tmp 134, Operand.tmp 152], argTypes := #[27, 27] }, type := 27, pos := "law.go:299", after := #[{ on := 0, ground := Ground.data }, { on := 18, ground := Ground.data }], guard := none }) rfl (fun K hK => ?_) AllReadyH.nil
                          refine op_append_own_at (.tmp 134) (.tmp 152) 27 rfl w5.heap.size 66 i4 _ 4 64 Try.underlying27 HI4.out.1 HI4.out.2.1 HI4.out.2.2.1 HI4.out.2.2.2 rfl (by decide) u13 i xs rfl (by rw [HWA.out.1, HUD.out]; exact (show World.ownsRow _ _ _ _ _ _ _ from HTZ.out.2).alloc _) ⟨ua, 0, none⟩ 1 1 [.int .i64 bi, .int .i64 si, .slice ou nk cu, .slice og ng cg] rfl rfl (by rw [HWA.out.1, HWA.out.2]; exact new_cells _ [.int .i64 bi, .int .i64 si, .slice ou nk cu, .slice og ng cg] _) (fun u hu => by simp at hu; rcases hu with rfl | rfl | rfl | rfl <;> rfl) (by unfold maxLen; omega) (by omega) HBa.out.2.2.2 ?_
                          intro v' w6 hown hg hnil hat
                          have H6 : Go.RowKit.Hid (w6.ownsRow w5.heap.size 66 4 v' (i + 1) (xs ++ [.int .i64 bi, .int .i64 si, .slice ou nk cu, .slice og ng cg]) ∧ Kep (fun b => u13.ownBlock = some b) wz w6 ∧ Below w.heap.size w w6 ∧ Below w5.heap.size w5 w6) := Lib.hid (by
                            have hlow : ∀ k, u13.ownBlock = some k → w5.heap.size ≤ k := fun k hk => (own_lt HTZ.out.2 hk).2
                            have hk : Kep (fun b => u13.ownBlock = some b) wz Wa := by
                              rw [HWA.out.1, HUD.out]
                              exact (Kep.refl _ _).drew.alloc _
                            have h5 := HF.out.2.2.2.2.size
                            exact ⟨hown, hk.grown hg (fun q hq => .inr hq), HBa.out.1.grown hg HBa.out.1.size (fun q hq => by have := hlow q hq; omega), HBa.out.2.1.grown hg HBa.out.2.1.size (fun q hq => hlow q hq)⟩)
                          clear hown hg hnil hat
                          have hS6 := HAI.out w6 H6.out.2.2.1
                          refine hK.out _ _ ⟨hS6.1, hS6.2.1, hS6.2.2.1⟩ (fun hHeld => ?_)
                          clear hK K hS6
                          (try simp only [Act.put, List.setIfInBounds_toArray, List.set_cons_zero, List.set_cons_succ])
                          refine wpAnyH_take (i := 20) (oi := { dst := some 13, op := Op.assign (Operand.tmp 153), type := 27, pos := "law.go:299", after := #[{ on := 19, ground := Ground.data }, { on := 19, ground := Ground.chain }, { on := 0, ground := Ground.phase }, { on := 1, ground := Ground.phase }, { on := 2, ground := Ground.phase }, { on := 3, ground := Ground.phase }, { on := 4, ground := Ground.phase }, { on := 5, ground := Ground.phase }, { on := 6, ground := Ground.phase }, { on := 7, ground := Ground.phase }, { on := 8, ground := Ground.phase }, { on := 9, ground := Ground.phase }, { on := 10, ground := Ground.phase }, { on := 11, ground := Ground.phase }, { on := 12, ground := Ground.phase }, { on := 13, ground := Ground.phase }, { on := 14, ground := Ground.phase }, { on := 15, ground := Ground.phase }, { on := 16, ground := Ground.phase }, { on := 17, ground := Ground.phase }, { on := 18, ground := Ground.phase }, { on := 19, ground := Ground.phase }], guard := none }) (v := ?vq20_108) rfl (by kernel_rfl) (by kernel_rfl) (by kernel_rfl) (fun _ _ _ h => h) (Or.inl ⟨by rfl, ?hq20_108⟩) (by assumption) ?_
                          case hq20_108 => intro w hSw; (try dsimp only at hSw); go_simp; try (with_reducible rfl)
                          (try simp only [Act.put, List.setIfInBounds_toArray, List.set_cons_zero, List.set_cons_succ])
                          refine wpAnyH_done (by kernel_rfl) ?_ _
                          clear hSS
                          go_wp2
                          go_roundw
                          case rel =>
                            obtain ⟨hown, hkp, hb6, hb56⟩ := H6.out
                            obtain ⟨hbi, hsi, hgl, hkl, hng, hmk, hnC⟩ := HE.out
                            refine ⟨i + 1, xs ++ [.int .i64 bi, .int .i64 si, .slice ou nk cu, .slice og ng cg], hlt, nxt _, HON.out, ?_, hb56⟩
                            have hl : ((C.take i).map turnC).length = i := by
                              rw [List.length_map, List.length_take]
                              omega
                            rw [take_snoc (by omega), List.map_append, List.map_singleton]
                            have e : turnC (C[i]?.getD default) = ⟨bi, si, keepF gl kl, gl⟩ := by rw [hbi, hsi, hgl, hkl]; rfl
                            rw [e]
                            exact HTZ.out.1.snoc (c := ⟨bi, si, keepF gl kl, gl⟩) h05 (Nat.le_trans h05 (HZ5.out.size)) hkp (by rw [hl]; exact hown) (own_mono HOR.out.1 HP.out.2.1.size) (HGI.out.below HZ.out.2.2 (Nat.le_refl _))
                          case measure => exact meas hlt
          · as_aux_lemma =>
              obtain rfl : kC = i := (last hi hlt).symm
              obtain ⟨hon, htr, hb5, hbo, h05⟩ := HI.out
              have hnC := HA.out.2.2.2.1
              rw [hnC, List.take_length] at hon htr
              obtain ⟨oM, cM, hv13, hcr⟩ := htr.crow (by have := hbo.size; omega)
              rw [List.length_map, ← hnC] at hv13
              subst hv13
              have hx6 := (H2.out.1.below HF.out.2.2.2.1 H2.out.1.lt).below hb5 (H2.out.1.below HF.out.2.2.2.1 H2.out.1.lt).lt
              have e0 := hx6.cell 0
              have e1 := hx6.cell 1
              have e2 := hx6.cell 2
              have e3 := hx6.cell 3
              simp at e0 e1 e2 e3
              have HFL : Go.RowKit.Hid (Calls Try.prog 13 #[.agg #[nm, pa, lo, .slice oa L cap], .int .i64 n, .slice oS nS capS, .slice oc kC capC, .bool true] wo fun e w' => FlowZ g n C st true wo e w') := Lib.hid (by
                obtain ⟨hB, hC, hL, hnC, hS, hnS⟩ := HA.out
                have h := flowZ_any w.heap.size ⟨nm, pa, lo, oa, cap, g⟩ n oS capS st oc capC C true wo (hB.below hbo (Nat.le_refl _)) HS.out.1.1 (hS.below hbo (Nat.le_refl _)) (hC.below hbo (Nat.le_refl _)) HS.out.1.2.1 HS.out.1.2.2 (by omega) hbo.size
                unfold Bv.v Bv.cs at h
                simp only [← hL, ← hnC, ← hnS, Int.toNat_natCast] at h
                exact h)
              have H6 := Lib.hid (And.intro hon (And.intro hcr (And.intro hbo (And.intro hx6 hb5))))
              clear hon htr hb5 hbo h05 hnC hcr hx6
              go_upto_region 28 with fail
              go_upto_region 29 with (go_at_call 13; refine HFL.out.mono ?_; clear HFL e0 e1 e2 e3; rintro e w7 ⟨v1, X, rfl, k1, k2, k3⟩)
              have hXl : X.length = L := by rw [k3.len, HA.out.2.2.1]
              obtain ⟨oX, capX, hv1⟩ := k2.form
              rw [hXl] at hv1
              subst hv1
              have hb7 : Below w.heap.size w w7 := H6.out.2.2.1.trans (k1.mono H6.out.2.2.1.size)
              have hx7 := H6.out.2.2.2.1.below k1 H6.out.2.2.2.1.lt
              have e0 := hx7.cell 0
              have e1 := hx7.cell 1
              have e2 := hx7.cell 2
              have e3 := hx7.cell 3
              simp at e0 e1 e2 e3
              have hbn : Bx w7 nb 4 (bC fi) := by
                have h1 := HF.out.2.2.1
                have h2 := h1.below H6.out.2.2.2.2 h1.lt
                exact h2.below k1 h2.lt
              have hcr7 : CRow w7.heap.size w7 oM (C.map turnC) := (H6.out.2.1.below k1 (Nat.le_refl _)).mono k1.size
              have HFM : Go.RowKit.Hid (Calls Try.prog 13 #[.agg #[nm, pa, lo, .slice oa L cap], .int .i64 n, .slice (some ⟨nb, 0, none⟩) n n, .slice oM kC cM, .bool false] w7 fun e w' => FlowZ g n (C.map turnC) fi false w7 e w') := Lib.hid (by
                obtain ⟨hB, hC, hL, hnC, hS, hnS⟩ := HA.out
                have hfl := HF.out.1
                have hsrc : BSrc w7.heap.size w7 (some ⟨nb, 0, none⟩) fi := fun hl => ⟨nb, 0, rfl, hbn.lt, fun j hj => by rw [Nat.zero_add, hbn.cell]; exact bC_get hj⟩
                have h := flowZ_any w7.heap.size ⟨nm, pa, lo, oa, cap, g⟩ n (some ⟨nb, 0, none⟩) n fi oM cM (C.map turnC) false w7 ((hB.below hb7 (Nat.le_refl _)).mono hb7.size) HS.out.1.1 hsrc hcr7 (turn_small HS.out.1.2.1) HS.out.1.2.2 (by omega) (Nat.le_refl _)
                unfold Bv.v Bv.cs at h
                simp only [← hL, List.length_map, ← hnC, hfl, Int.toNat_natCast] at h
                exact h)
              have HX := Lib.hid (And.intro k2 (And.intro k3 (And.intro hXl (And.intro hx7 hb7))))
              clear k1 k2 k3 hXl hb7 hx7 hbn hcr7
              go_upto_region 30 with (go_at_call 13; refine HFM.out.mono ?_; clear HFM e0 e1 e2 e3; rintro e w8 ⟨v2, Y, rfl, k1, k2, k3⟩)
              have hYl : Y.length = L := by rw [k3.len, HA.out.2.2.1]
              obtain ⟨oY, capY, hv2⟩ := k2.form
              rw [hYl] at hv2
              subst hv2
              have HZ : Go.RowKit.Hid (Rd3 w8 (.slice oX L capX) X ∧ Rd3 w8 (.slice oY L capY) Y ∧ FlS g n C st true X ∧ FlS g n (C.map turnC) fi false Y ∧ X.length = L ∧ Y.length = L ∧ Below w.heap.size w w8 ∧ (∀ i k, Rch g i → k < insR g i + 2 → stateZ Y i k = (stateZ X i k).map (!·)) ∧ L = g.length) := Lib.hid (by
                obtain ⟨x1, x2, x3, x4, x5⟩ := HX.out
                exact ⟨x1.below k1, k2, x2, k3, x3, hYl, x5.trans (k1.mono x5.size), turned_plain H6.out.1 HF.out.2.1 x2 k3, HA.out.2.2.1⟩)
              clear k1 k2 k3 hYl HX H6
              go_wp2
              go_loopw [20] (fun u wr => ∃ i : Nat, i ≤ L ∧ u = .int .i64 i ∧ Below w8.heap.size w8 wr) (fun u _ => L - (intOf u).toNat)
              case atStart => exact ⟨0, Nat.zero_le _, rfl, Below.refl _ _⟩
              case round =>
                clear HI
                obtain ⟨i, hi, rfl, hbr⟩ := hrel
                obtain ⟨wo, rfl⟩ : ∃ wo : World, wo = wr := ⟨_, rfl⟩
                by_cases hlt : i < L
                · as_aux_lemma =>
                    obtain ⟨hX, hY, fX, fY, hXl, hYl, hb8, hturn, hL⟩ := HZ.out
                    obtain ⟨bX, pX, ou, cu, rfl, c1, r1⟩ := hX.row (i := i) (by omega)
                    obtain ⟨bY, pY, ov, cv, rfl, c2, r2⟩ := hY.row (i := i) (by omega)
                    obtain ⟨hlen, hrows, hle⟩ := fX.lens fY i (by omega)
                    rw [← hlen] at c2 r2
                    obtain ⟨m, hm⟩ : ∃ m, m = (rowZ X i).length := ⟨_, rfl⟩
                    rw [← hm] at c1 r1 c2 r2
                    have hm1 : m ≤ 1002 := by
                      have := (HS.out.1.1.2 i).1
                      simp only at this
                      omega
                    have d1 := below_cell hbr c1
                    have d2 := below_cell hbr c2
                    have HI := Lib.hid (And.intro c1 (And.intro r1 (And.intro c2 (And.intro r2 (And.intro hm (And.intro hrows hbr))))))
                    clear hX hY fX fY hXl hYl hb8 hturn hL c1 r1 c2 r2 hlen hrows hle hm hbr
                    go_upto_region 35 with fail
                    refine wp_region_held_drew (S := (fun w' => w'.cell? ⟨bX, pX + i, none⟩ = some (.slice ou m cu) ∧ w'.cell? ⟨bY, pY + i, none⟩ = some (.slice ov m cv))) (by kernel_rfl) ?_ (fun hHeld => ?_)
                    · exact And.intro d1 d2
                    refine wpAnyH_take (i := 0) (oi := { dst := some 175, op := Op.move (Operand.tmp 18), type := 31, pos := "law.go:307", after := #[], guard := none }) (v := ?vq0_501) rfl (by kernel_rfl) (by kernel_rfl) (by kernel_rfl) (fun _ _ _ h => h) (Or.inl ⟨by rfl, ?hq0_501⟩) (by assumption) ?_
                    case hq0_501 => intro w hSw; (try dsimp only at hSw); go_simp; try (with_reducible rfl)
                    (try simp only [Act.put, List.setIfInBounds_toArray, List.set_cons_zero, List.set_cons_succ])
                    refine wpAnyH_take (i := 1) (oi := { dst := some 176, op := Op.move (Operand.tmp 20), type := 3, pos := "law.go:307", after := #[], guard := none }) (v := ?vq1_502) rfl (by kernel_rfl) (by kernel_rfl) (by kernel_rfl) (fun _ _ _ h => h) (Or.inl ⟨by rfl, ?hq1_502⟩) (by assumption) ?_
                    case hq1_502 => intro w hSw; (try dsimp only at hSw); go_simp; try (with_reducible rfl)
                    (try simp only [Act.put, List.setIfInBounds_toArray, List.set_cons_zero, List.set_cons_succ])
                    refine wpAnyH_take (i := 2) (oi := { dst := some 177, op := Op.indexAddr 31 (Operand.tmp 175) (Operand.tmp 176), type := 0, pos := "law.go:307", after := #[{ on := 0, ground := Ground.data }, { on := 1, ground := Ground.data }], guard := none }) (v := .pointer (some ⟨bX, pX + i, none⟩)) rfl (by kernel_rfl) (by kernel_rfl) (by kernel_rfl) (fun _ _ _ h => h) (Or.inl ⟨by rfl, ?hq2_503⟩) (by assumption) ?_
                    case hq2_503 => intro w hSw; (try dsimp only at hSw); go_simp; try (intro h; exfalso; omega)
                    (try simp only [Act.put, List.setIfInBounds_toArray, List.set_cons_zero, List.set_cons_succ])
                    refine wpAnyH_take (i := 3) (oi := { dst := some 178, op := Op.load 44 (Operand.tmp 177), type := 44, pos := "law.go:307", after := #[{ on := 2, ground := Ground.data }], guard := none }) (v := ?vq3_504) rfl (by kernel_rfl) (by kernel_rfl) (by kernel_rfl) (fun _ _ _ h => h) (Or.inl ⟨by rfl, ?hq3_504⟩) (by assumption) ?_
                    case hq3_504 => intro w hSw; (try dsimp only at hSw); go_simp; try (with_reducible rfl)
                    (try simp only [Act.put, List.setIfInBounds_toArray, List.set_cons_zero, List.set_cons_succ])
                    refine wpAnyH_take (i := 4) (oi := { dst := some 179, op := Op.call { callee := Callee.builtin Builtin.len, args := #[Operand.tmp 178], argTypes := #[44] }, type := 3, pos := "law.go:307", after := #[{ on := 3, ground := Ground.data }], guard := none }) (v := ?vq4_505) rfl (by kernel_rfl) (by kernel_rfl) (by kernel_rfl) (fun _ _ _ h => h) (Or.inl ⟨by rfl, ?hq4_505⟩) (by assumption) ?_
                    case hq4_505 => intro w hSw; (try dsimp only at hSw); go_simp; try (with_reducible rfl)
                    (try simp only [Act.put, List.setIfInBounds_toArray, List.set_cons_zero, List.set_cons_succ])
                    refine wpAnyH_take (i := 5) (oi := { dst := some 180, op := Op.move (Operand.tmp 19), type := 31, pos := "law.go:307", after := #[], guard := none }) (v := ?vq5_506) rfl (by kernel_rfl) (by kernel_rfl) (by kernel_rfl) (fun _ _ _ h => h) (Or.inl ⟨by rfl, ?hq5_506⟩) (by assumption) ?_
                    case hq5_506 => intro w hSw; (try dsimp only at hSw); go_simp; try (with_reducible rfl)
                    (try simp only [Act.put, List.setIfInBounds_toArray, List.set_cons_zero, List.set_cons_succ])
                    refine wpAnyH_take (i := 6) (oi := { dst := some 181, op := Op.move (Operand.tmp 20), type := 3, pos := "law.go:307", after := #[], guard := none }) (v := ?vq6_507) rfl (by kernel_rfl) (by kernel_rfl) (by kernel_rfl) (fun _ _ _ h => h) (Or.inl ⟨by rfl, ?hq6_507⟩) (by assumption) ?_
                    case hq6_507 => intro w hSw; (try dsimp only at hSw); go_simp; try (with_reducible rfl)
                    (try simp only [Act.put, List.setIfInBounds_toArray, List.set_cons_zero, List.set_cons_succ])
                    refine wpAnyH_take (i := 7) (oi := { dst := some 182, op := Op.indexAddr 31 (Operand.tmp 180) (Operand.tmp 181), type := 0, pos := "law.go:307", after := #[{ on := 5, ground := Ground.data }, { on := 6, ground := Ground.data }], guard := none }) (v := .pointer (some ⟨bY, pY + i, none⟩)) rfl (by kernel_rfl) (by kernel_rfl) (by kernel_rfl) (fun _ _ _ h => h) (Or.inl ⟨by rfl, ?hq7_508⟩) (by assumption) ?_
                    case hq7_508 => intro w hSw; (try dsimp only at hSw); go_simp; try (intro h; exfalso; omega)
                    (try simp only [Act.put, List.setIfInBounds_toArray, List.set_cons_zero, List.set_cons_succ])
                    refine wpAnyH_take (i := 8) (oi := { dst := some 183, op := Op.load 44 (Operand.tmp 182), type := 44, pos := "law.go:307", after := #[{ on := 7, ground := Ground.data }], guard := none }) (v := ?vq8_509) rfl (by kernel_rfl) (by kernel_rfl) (by kernel_rfl) (fun _ _ _ h => h) (Or.inl ⟨by rfl, ?hq8_509⟩) (by assumption) ?_
                    case hq8_509 => intro w hSw; (try dsimp only at hSw); go_simp; try (with_reducible rfl)
                    (try simp only [Act.put, List.setIfInBounds_toArray, List.set_cons_zero, List.set_cons_succ])
                    refine wpAnyH_take (i := 9) (oi := { dst := some 184, op := Op.call { callee := Callee.builtin Builtin.len, args := #[Operand.tmp 183], argTypes := #[44] }, type := 3, pos := "law.go:307", after := #[{ on := 8, ground := Ground.data }], guard := none }) (v := ?vq9_510) rfl (by kernel_rfl) (by kernel_rfl) (by kernel_rfl) (fun _ _ _ h => h) (Or.inl ⟨by rfl, ?hq9_510⟩) (by assumption) ?_
                    case hq9_510 => intro w hSw; (try dsimp only at hSw); go_simp; try (with_reducible rfl)
                    (try simp only [Act.put, List.setIfInBounds_toArray, List.set_cons_zero, List.set_cons_succ])
                    refine wpAnyH_take (i := 10) (oi := { dst := some 185, op := Op.binOp BinOp.neq 3 (Operand.tmp 179) (Operand.tmp 184) 3, type := 4, pos := "law.go:307", after := #[{ on := 4, ground := Ground.data }, { on := 9, ground := Ground.data }], guard := none }) (v := .bool false) rfl (by kernel_rfl) (by kernel_rfl) (by kernel_rfl) (fun _ _ _ h => h) (Or.inl ⟨by rfl, ?hq10_511⟩) (by assumption) ?_
                    case hq10_511 => intro w hSw; (try dsimp only at hSw); go_simp; try (simp; try omega)
                    (try simp only [Act.put, List.setIfInBounds_toArray, List.set_cons_zero, List.set_cons_succ])
                    refine wpAnyH_done (by kernel_rfl) ?_ _
                    have HB := Lib.hid (show Below w8.heap.size w8 wo.drew from HI.out.2.2.2.2.2.2.drew)
                    clear d1 d2
                    go_wp2
                    go_loopw [21] (fun u wr => ∃ q : Nat, q ≤ m ∧ u = .int .i64 q ∧ Below w8.heap.size w8 wr) (fun u _ => m - (intOf u).toNat)
                    case atStart => exact ⟨0, Nat.zero_le _, rfl, HB.out⟩
                    case round =>
                      obtain ⟨q, hq, rfl, hbq⟩ := hrel
                      obtain ⟨wp, rfl⟩ : ∃ wp : World, wp = wr := ⟨_, rfl⟩
                      by_cases hlq : q < m
                      · as_aux_lemma =>
                          obtain ⟨c1, r1, c2, r2, hm, hrows, hbr⟩ := HI.out
                          obtain ⟨hr, hq2, hl1, hl2⟩ := hrows q (by omega)
                          obtain ⟨bU, pU, ox, cx, rfl, c3, r3⟩ := r1.row (i := q) (by omega)
                          obtain ⟨bV, pV, oy, cy, rfl, c4, r4⟩ := r2.row (i := q) (by have := HZ.out.2.2.1.lens HZ.out.2.2.2.1 i (by have := HZ.out.2.2.2.2.2.2.2.2; omega); omega)
                          rw [show ((rowZ X i)[q]?.getD []).length = n from hl1] at c3 r3
                          rw [show ((rowZ Y i)[q]?.getD []).length = n from hl2] at c4 r4
                          have d1 := below_cell hbq c1
                          have d2 := below_cell hbq c2
                          have d3 := below_cell hbq c3
                          have d4 := below_cell hbq c4
                          have hst := HZ.out.2.2.2.2.2.2.2.1 i q hr hq2
                          have HQ := Lib.hid (And.intro c1 (And.intro c2 (And.intro c3 (And.intro c4 (And.intro r3 (And.intro r4 (And.intro hst (And.intro hl1 (And.intro hl2 hbq)))))))))
                          clear c1 r1 c2 r2 hm hrows hbr hr hq2 hl1 hl2 c3 r3 c4 r4 hst hbq
                          go_upto_region 42 with fail
                          go_wp2
                          go_loopw [22] (fun u wr => ∃ j : Nat, j ≤ n ∧ u = .int .i64 j ∧ Below w8.heap.size w8 wr) (fun u _ => n - (intOf u).toNat)
                          case atStart => exact ⟨0, Nat.zero_le _, rfl, HQ.out.2.2.2.2.2.2.2.2.2⟩
                          case round =>
                            obtain ⟨j, hj, rfl, hbj⟩ := hrel
                            obtain ⟨wq, rfl⟩ : ∃ wq : World, wq = wr := ⟨_, rfl⟩
                            by_cases hlj : j < n
                            · as_aux_lemma =>
                                obtain ⟨c1, c2, c3, c4, r3, r4, hst, hl1, hl2, hbq⟩ := HQ.out
                                obtain ⟨bA, pA, rfl, c5⟩ := r3.at (i := j) (by have h : ((rowZ X i)[q]?.getD []).length = n := hl1; omega)
                                obtain ⟨bB, pB, rfl, c6⟩ := r4.at (i := j) (by have h : ((rowZ Y i)[q]?.getD []).length = n := hl2; omega)
                                have d1 := below_cell hbj c1
                                have d2 := below_cell hbj c2
                                have d3 := below_cell hbj c3
                                have d4 := below_cell hbj c4
                                have d5 := below_cell hbj c5
                                have d6 := below_cell hbj c6
                                have hxy : ((rowZ Y i)[q]?.getD [])[j]?.getD false = !(((rowZ X i)[q]?.getD [])[j]?.getD false) := by
                                  have h : (stateZ Y i q)[j]?.getD false = ((stateZ X i q).map (!·))[j]?.getD false := by rw [hst]
                                  rw [not_get _ _ (by rw [hl1]; exact hlj)] at h
                                  exact h
                                rw [hxy] at d6
                                obtain ⟨x, hx⟩ : ∃ x, x = ((rowZ X i)[q]?.getD [])[j]?.getD false := ⟨_, rfl⟩
                                rw [← hx] at d5 d6
                                have HJ := Lib.hid (show Below w8.heap.size w8 wq.drew from hbj.drew)
                                clear c1 c2 c3 c4 r3 r4 hst hl1 hl2 hbq c5 c6 hxy hx hbj
                                go_upto_region 45 with fail
                                cases x with
                                | true =>
                                  try simp only [Bool.not_true] at d6
                                  refine wp_region_held_drew (S := (fun w' => w'.cell? ⟨bX, pX + i, none⟩ = some (.slice (some ⟨bU, pU, none⟩) m cu) ∧ w'.cell? ⟨bY, pY + i, none⟩ = some (.slice (some ⟨bV, pV, none⟩) m cv) ∧ w'.cell? ⟨bU, pU + q, none⟩ = some (.slice (some ⟨bA, pA, none⟩) n cx) ∧ w'.cell? ⟨bV, pV + q, none⟩ = some (.slice (some ⟨bB, pB, none⟩) n cy) ∧ w'.cell? ⟨bA, pA + j, none⟩ = some (.bool true) ∧ w'.cell? ⟨bB, pB + j, none⟩ = some (.bool false))) (by kernel_rfl) ?_ (fun hHeld => ?_)
                                  · exact And.intro d1 (And.intro d2 (And.intro d3 (And.intro d4 (And.intro d5 d6))))
                                  refine wpAnyH_take (i := 0) (oi := { dst := some 222, op := Op.move (Operand.tmp 18), type := 31, pos := "law.go:315", after := #[], guard := none }) (v := ?vq0_512) rfl (by kernel_rfl) (by kernel_rfl) (by kernel_rfl) (fun _ _ _ h => h) (Or.inl ⟨by rfl, ?hq0_512⟩) (by assumption) ?_
                                  case hq0_512 => intro w hSw; (try dsimp only at hSw); go_simp; try (with_reducible rfl)
                                  (try simp only [Act.put, List.setIfInBounds_toArray, List.set_cons_zero, List.set_cons_succ])
                                  refine wpAnyH_take (i := 1) (oi := { dst := some 223, op := Op.move (Operand.tmp 20), type := 3, pos := "law.go:315", after := #[], guard := none }) (v := ?vq1_513) rfl (by kernel_rfl) (by kernel_rfl) (by kernel_rfl) (fun _ _ _ h => h) (Or.inl ⟨by rfl, ?hq1_513⟩) (by assumption) ?_
                                  case hq1_513 => intro w hSw; (try dsimp only at hSw); go_simp; try (with_reducible rfl)
                                  (try simp only [Act.put, List.setIfInBounds_toArray, List.set_cons_zero, List.set_cons_succ])
                                  refine wpAnyH_take (i := 2) (oi := { dst := some 224, op := Op.indexAddr 31 (Operand.tmp 222) (Operand.tmp 223), type := 0, pos := "law.go:315", after := #[{ on := 0, ground := Ground.data }, { on := 1, ground := Ground.data }], guard := none }) (v := .pointer (some ⟨bX, pX + i, none⟩)) rfl (by kernel_rfl) (by kernel_rfl) (by kernel_rfl) (fun _ _ _ h => h) (Or.inl ⟨by rfl, ?hq2_514⟩) (by assumption) ?_
                                  case hq2_514 => intro w hSw; (try dsimp only at hSw); go_simp; try (intro h; exfalso; omega)
                                  (try simp only [Act.put, List.setIfInBounds_toArray, List.set_cons_zero, List.set_cons_succ])
                                  refine wpAnyH_take (i := 3) (oi := { dst := some 225, op := Op.load 44 (Operand.tmp 224), type := 44, pos := "law.go:315", after := #[{ on := 2, ground := Ground.data }], guard := none }) (v := ?vq3_515) rfl (by kernel_rfl) (by kernel_rfl) (by kernel_rfl) (fun _ _ _ h => h) (Or.inl ⟨by rfl, ?hq3_515⟩) (by assumption) ?_
                                  case hq3_515 => intro w hSw; (try dsimp only at hSw); go_simp; try (with_reducible rfl)
                                  (try simp only [Act.put, List.setIfInBounds_toArray, List.set_cons_zero, List.set_cons_succ])
                                  refine wpAnyH_take (i := 4) (oi := { dst := some 226, op := Op.move (Operand.tmp 21), type := 3, pos := "law.go:315", after := #[], guard := none }) (v := ?vq4_516) rfl (by kernel_rfl) (by kernel_rfl) (by kernel_rfl) (fun _ _ _ h => h) (Or.inl ⟨by rfl, ?hq4_516⟩) (by assumption) ?_
                                  case hq4_516 => intro w hSw; (try dsimp only at hSw); go_simp; try (with_reducible rfl)
                                  (try simp only [Act.put, List.setIfInBounds_toArray, List.set_cons_zero, List.set_cons_succ])
                                  refine wpAnyH_take (i := 5) (oi := { dst := some 227, op := Op.indexAddr 44 (Operand.tmp 225) (Operand.tmp 226), type := 0, pos := "law.go:315", after := #[{ on := 3, ground := Ground.data }, { on := 4, ground := Ground.data }], guard := none }) (v := .pointer (some ⟨bU, pU + q, none⟩)) rfl (by kernel_rfl) (by kernel_rfl) (by kernel_rfl) (fun _ _ _ h => h) (Or.inl ⟨by rfl, ?hq5_517⟩) (by assumption) ?_
                                  case hq5_517 => intro w hSw; (try dsimp only at hSw); go_simp; try (intro h; exfalso; omega)
                                  (try simp only [Act.put, List.setIfInBounds_toArray, List.set_cons_zero, List.set_cons_succ])
                                  refine wpAnyH_take (i := 6) (oi := { dst := some 228, op := Op.load 26 (Operand.tmp 227), type := 26, pos := "law.go:315", after := #[{ on := 5, ground := Ground.data }], guard := none }) (v := ?vq6_518) rfl (by kernel_rfl) (by kernel_rfl) (by kernel_rfl) (fun _ _ _ h => h) (Or.inl ⟨by rfl, ?hq6_518⟩) (by assumption) ?_
                                  case hq6_518 => intro w hSw; (try dsimp only at hSw); go_simp; try (with_reducible rfl)
                                  (try simp only [Act.put, List.setIfInBounds_toArray, List.set_cons_zero, List.set_cons_succ])
                                  refine wpAnyH_take (i := 7) (oi := { dst := some 229, op := Op.move (Operand.tmp 22), type := 3, pos := "law.go:315", after := #[], guard := none }) (v := ?vq7_519) rfl (by kernel_rfl) (by kernel_rfl) (by kernel_rfl) (fun _ _ _ h => h) (Or.inl ⟨by rfl, ?hq7_519⟩) (by assumption) ?_
                                  case hq7_519 => intro w hSw; (try dsimp only at hSw); go_simp; try (with_reducible rfl)
                                  (try simp only [Act.put, List.setIfInBounds_toArray, List.set_cons_zero, List.set_cons_succ])
                                  refine wpAnyH_take (i := 8) (oi := { dst := some 230, op := Op.indexAddr 26 (Operand.tmp 228) (Operand.tmp 229), type := 0, pos := "law.go:315", after := #[{ on := 6, ground := Ground.data }, { on := 7, ground := Ground.data }], guard := none }) (v := .pointer (some ⟨bA, pA + j, none⟩)) rfl (by kernel_rfl) (by kernel_rfl) (by kernel_rfl) (fun _ _ _ h => h) (Or.inl ⟨by rfl, ?hq8_520⟩) (by assumption) ?_
                                  case hq8_520 => intro w hSw; (try dsimp only at hSw); go_simp; try (intro h; exfalso; omega)
                                  (try simp only [Act.put, List.setIfInBounds_toArray, List.set_cons_zero, List.set_cons_succ])
                                  refine wpAnyH_take (i := 9) (oi := { dst := some 231, op := Op.load 4 (Operand.tmp 230), type := 4, pos := "law.go:315", after := #[{ on := 8, ground := Ground.data }], guard := none }) (v := ?vq9_521) rfl (by kernel_rfl) (by kernel_rfl) (by kernel_rfl) (fun _ _ _ h => h) (Or.inl ⟨by rfl, ?hq9_521⟩) (by assumption) ?_
                                  case hq9_521 => intro w hSw; (try dsimp only at hSw); go_simp; try (with_reducible rfl)
                                  (try simp only [Act.put, List.setIfInBounds_toArray, List.set_cons_zero, List.set_cons_succ])
                                  refine wpAnyH_take (i := 10) (oi := { dst := some 232, op := Op.move (Operand.tmp 19), type := 31, pos := "law.go:315", after := #[], guard := none }) (v := ?vq10_522) rfl (by kernel_rfl) (by kernel_rfl) (by kernel_rfl) (fun _ _ _ h => h) (Or.inl ⟨by rfl, ?hq10_522⟩) (by assumption) ?_
                                  case hq10_522 => intro w hSw; (try dsimp only at hSw); go_simp; try (with_reducible rfl)
                                  (try simp only [Act.put, List.setIfInBounds_toArray, List.set_cons_zero, List.set_cons_succ])
                                  refine wpAnyH_take (i := 11) (oi := { dst := some 233, op := Op.move (Operand.tmp 20), type := 3, pos := "law.go:315", after := #[], guard := none }) (v := ?vq11_523) rfl (by kernel_rfl) (by kernel_rfl) (by kernel_rfl) (fun _ _ _ h => h) (Or.inl ⟨by rfl, ?hq11_523⟩) (by assumption) ?_
                                  case hq11_523 => intro w hSw; (try dsimp only at hSw); go_simp; try (with_reducible rfl)
                                  (try simp only [Act.put, List.setIfInBounds_toArray, List.set_cons_zero, List.set_cons_succ])
                                  refine wpAnyH_take (i := 12) (oi := { dst := some 234, op := Op.indexAddr 31 (Operand.tmp 232) (Operand.tmp 233), type := 0, pos := "law.go:315", after := #[{ on := 10, ground := Ground.data }, { on := 11, ground := Ground.data }], guard := none }) (v := .pointer (some ⟨bY, pY + i, none⟩)) rfl (by kernel_rfl) (by kernel_rfl) (by kernel_rfl) (fun _ _ _ h => h) (Or.inl ⟨by rfl, ?hq12_524⟩) (by assumption) ?_
                                  case hq12_524 => intro w hSw; (try dsimp only at hSw); go_simp; try (intro h; exfalso; omega)
                                  (try simp only [Act.put, List.setIfInBounds_toArray, List.set_cons_zero, List.set_cons_succ])
                                  refine wpAnyH_take (i := 13) (oi := { dst := some 235, op := Op.load 44 (Operand.tmp 234), type := 44, pos := "law.go:315", after := #[{ on := 12, ground := Ground.data }], guard := none }) (v := ?vq13_525) rfl (by kernel_rfl) (by kernel_rfl) (by kernel_rfl) (fun _ _ _ h => h) (Or.inl ⟨by rfl, ?hq13_525⟩) (by assumption) ?_
                                  case hq13_525 => intro w hSw; (try dsimp only at hSw); go_simp; try (with_reducible rfl)
                                  (try simp only [Act.put, List.setIfInBounds_toArray, List.set_cons_zero, List.set_cons_succ])
                                  refine wpAnyH_take (i := 14) (oi := { dst := some 236, op := Op.move (Operand.tmp 21), type := 3, pos := "law.go:315", after := #[], guard := none }) (v := ?vq14_526) rfl (by kernel_rfl) (by kernel_rfl) (by kernel_rfl) (fun _ _ _ h => h) (Or.inl ⟨by rfl, ?hq14_526⟩) (by assumption) ?_
                                  case hq14_526 => intro w hSw; (try dsimp only at hSw); go_simp; try (with_reducible rfl)
                                  (try simp only [Act.put, List.setIfInBounds_toArray, List.set_cons_zero, List.set_cons_succ])
                                  refine wpAnyH_take (i := 15) (oi := { dst := some 237, op := Op.indexAddr 44 (Operand.tmp 235) (Operand.tmp 236), type := 0, pos := "law.go:315", after := #[{ on := 13, ground := Ground.data }, { on := 14, ground := Ground.data }], guard := none }) (v := .pointer (some ⟨bV, pV + q, none⟩)) rfl (by kernel_rfl) (by kernel_rfl) (by kernel_rfl) (fun _ _ _ h => h) (Or.inl ⟨by rfl, ?hq15_527⟩) (by assumption) ?_
                                  case hq15_527 => intro w hSw; (try dsimp only at hSw); go_simp; try (intro h; exfalso; omega)
                                  (try simp only [Act.put, List.setIfInBounds_toArray, List.set_cons_zero, List.set_cons_succ])
                                  refine wpAnyH_take (i := 16) (oi := { dst := some 238, op := Op.load 26 (Operand.tmp 237), type := 26, pos := "law.go:315", after := #[{ on := 15, ground := Ground.data }], guard := none }) (v := ?vq16_528) rfl (by kernel_rfl) (by kernel_rfl) (by kernel_rfl) (fun _ _ _ h => h) (Or.inl ⟨by rfl, ?hq16_528⟩) (by assumption) ?_
                                  case hq16_528 => intro w hSw; (try dsimp only at hSw); go_simp; try (with_reducible rfl)
                                  (try simp only [Act.put, List.setIfInBounds_toArray, List.set_cons_zero, List.set_cons_succ])
                                  refine wpAnyH_take (i := 17) (oi := { dst := some 239, op := Op.move (Operand.tmp 22), type := 3, pos := "law.go:315", after := #[], guard := none }) (v := ?vq17_529) rfl (by kernel_rfl) (by kernel_rfl) (by kernel_rfl) (fun _ _ _ h => h) (Or.inl ⟨by rfl, ?hq17_529⟩) (by assumption) ?_
                                  case hq17_529 => intro w hSw; (try dsimp only at hSw); go_simp; try (with_reducible rfl)
                                  (try simp only [Act.put, List.setIfInBounds_toArray, List.set_cons_zero, List.set_cons_succ])
                                  refine wpAnyH_take (i := 18) (oi := { dst := some 240, op := Op.indexAddr 26 (Operand.tmp 238) (Operand.tmp 239), type := 0, pos := "law.go:315", after := #[{ on := 16, ground := Ground.data }, { on := 17, ground := Ground.data }], guard := none }) (v := .pointer (some ⟨bB, pB + j, none⟩)) rfl (by kernel_rfl) (by kernel_rfl) (by kernel_rfl) (fun _ _ _ h => h) (Or.inl ⟨by rfl, ?hq18_530⟩) (by assumption) ?_
                                  case hq18_530 => intro w hSw; (try dsimp only at hSw); go_simp; try (intro h; exfalso; omega)
                                  (try simp only [Act.put, List.setIfInBounds_toArray, List.set_cons_zero, List.set_cons_succ])
                                  refine wpAnyH_take (i := 19) (oi := { dst := some 241, op := Op.load 4 (Operand.tmp 240), type := 4, pos := "law.go:315", after := #[{ on := 18, ground := Ground.data }], guard := none }) (v := ?vq19_531) rfl (by kernel_rfl) (by kernel_rfl) (by kernel_rfl) (fun _ _ _ h => h) (Or.inl ⟨by rfl, ?hq19_531⟩) (by assumption) ?_
                                  case hq19_531 => intro w hSw; (try dsimp only at hSw); go_simp; try (with_reducible rfl)
                                  (try simp only [Act.put, List.setIfInBounds_toArray, List.set_cons_zero, List.set_cons_succ])
                                  refine wpAnyH_take (i := 20) (oi := { dst := some 242, op := Op.binOp BinOp.eql 4 (Operand.tmp 231) (Operand.tmp 241) 4, type := 4, pos := "law.go:315", after := #[{ on := 9, ground := Ground.data }, { on := 19, ground := Ground.data }], guard := none }) (v := .bool false) rfl (by kernel_rfl) (by kernel_rfl) (by kernel_rfl) (fun _ _ _ h => h) (Or.inl ⟨by rfl, ?hq20_532⟩) (by assumption) ?_
                                  case hq20_532 => intro w hSw; (try dsimp only at hSw); go_simp; try (simp; try omega)
                                  (try simp only [Act.put, List.setIfInBounds_toArray, List.set_cons_zero, List.set_cons_succ])
                                  refine wpAnyH_done (by kernel_rfl) ?_ _
                                  clear d1 d2 d3 d4 d5 d6
                                  go_wp2
                                  go_roundw
                                  case rel => exact ⟨j + 1, hlj, nxt _, HJ.out⟩
                                  case measure => exact meas hlj
                                | false =>
                                  try simp only [Bool.not_false] at d6
                                  refine wp_region_held_drew (S := (fun w' => w'.cell? ⟨bX, pX + i, none⟩ = some (.slice (some ⟨bU, pU, none⟩) m cu) ∧ w'.cell? ⟨bY, pY + i, none⟩ = some (.slice (some ⟨bV, pV, none⟩) m cv) ∧ w'.cell? ⟨bU, pU + q, none⟩ = some (.slice (some ⟨bA, pA, none⟩) n cx) ∧ w'.cell? ⟨bV, pV + q, none⟩ = some (.slice (some ⟨bB, pB, none⟩) n cy) ∧ w'.cell? ⟨bA, pA + j, none⟩ = some (.bool false) ∧ w'.cell? ⟨bB, pB + j, none⟩ = some (.bool true))) (by kernel_rfl) ?_ (fun hHeld => ?_)
                                  · exact And.intro d1 (And.intro d2 (And.intro d3 (And.intro d4 (And.intro d5 d6))))
                                  refine wpAnyH_take (i := 0) (oi := { dst := some 222, op := Op.move (Operand.tmp 18), type := 31, pos := "law.go:315", after := #[], guard := none }) (v := ?vq0_533) rfl (by kernel_rfl) (by kernel_rfl) (by kernel_rfl) (fun _ _ _ h => h) (Or.inl ⟨by rfl, ?hq0_533⟩) (by assumption) ?_
                                  case hq0_533 => intro w hSw; (try dsimp only at hSw); go_simp; try (with_reducible rfl)
                                  (try simp only [Act.put, List.setIfInBounds_toArray, List.set_cons_zero, List.set_cons_succ])
                                  refine wpAnyH_take (i := 1) (oi := { dst := some 223, op := Op.move (Operand.tmp 20), type := 3, pos := "law.go:315", after := #[], guard := none }) (v := ?vq1_534) rfl (by kernel_rfl) (by kernel_rfl) (by kernel_rfl) (fun _ _ _ h => h) (Or.inl ⟨by rfl, ?hq1_534⟩) (by assumption) ?_
                                  case hq1_534 => intro w hSw; (try dsimp only at hSw); go_simp; try (with_reducible rfl)
                                  (try simp only [Act.put, List.setIfInBounds_toArray, List.set_cons_zero, List.set_cons_succ])
                                  refine wpAnyH_take (i := 2) (oi := { dst := some 224, op := Op.indexAddr 31 (Operand.tmp 222) (Operand.tmp 223), type := 0, pos := "law.go:315", after := #[{ on := 0, ground := Ground.data }, { on := 1, ground := Ground.data }], guard := none }) (v := .pointer (some ⟨bX, pX + i, none⟩)) rfl (by kernel_rfl) (by kernel_rfl) (by kernel_rfl) (fun _ _ _ h => h) (Or.inl ⟨by rfl, ?hq2_535⟩) (by assumption) ?_
                                  case hq2_535 => intro w hSw; (try dsimp only at hSw); go_simp; try (intro h; exfalso; omega)
                                  (try simp only [Act.put, List.setIfInBounds_toArray, List.set_cons_zero, List.set_cons_succ])
                                  refine wpAnyH_take (i := 3) (oi := { dst := some 225, op := Op.load 44 (Operand.tmp 224), type := 44, pos := "law.go:315", after := #[{ on := 2, ground := Ground.data }], guard := none }) (v := ?vq3_536) rfl (by kernel_rfl) (by kernel_rfl) (by kernel_rfl) (fun _ _ _ h => h) (Or.inl ⟨by rfl, ?hq3_536⟩) (by assumption) ?_
                                  case hq3_536 => intro w hSw; (try dsimp only at hSw); go_simp; try (with_reducible rfl)
                                  (try simp only [Act.put, List.setIfInBounds_toArray, List.set_cons_zero, List.set_cons_succ])
                                  refine wpAnyH_take (i := 4) (oi := { dst := some 226, op := Op.move (Operand.tmp 21), type := 3, pos := "law.go:315", after := #[], guard := none }) (v := ?vq4_537) rfl (by kernel_rfl) (by kernel_rfl) (by kernel_rfl) (fun _ _ _ h => h) (Or.inl ⟨by rfl, ?hq4_537⟩) (by assumption) ?_
                                  case hq4_537 => intro w hSw; (try dsimp only at hSw); go_simp; try (with_reducible rfl)
                                  (try simp only [Act.put, List.setIfInBounds_toArray, List.set_cons_zero, List.set_cons_succ])
                                  refine wpAnyH_take (i := 5) (oi := { dst := some 227, op := Op.indexAddr 44 (Operand.tmp 225) (Operand.tmp 226), type := 0, pos := "law.go:315", after := #[{ on := 3, ground := Ground.data }, { on := 4, ground := Ground.data }], guard := none }) (v := .pointer (some ⟨bU, pU + q, none⟩)) rfl (by kernel_rfl) (by kernel_rfl) (by kernel_rfl) (fun _ _ _ h => h) (Or.inl ⟨by rfl, ?hq5_538⟩) (by assumption) ?_
                                  case hq5_538 => intro w hSw; (try dsimp only at hSw); go_simp; try (intro h; exfalso; omega)
                                  (try simp only [Act.put, List.setIfInBounds_toArray, List.set_cons_zero, List.set_cons_succ])
                                  refine wpAnyH_take (i := 6) (oi := { dst := some 228, op := Op.load 26 (Operand.tmp 227), type := 26, pos := "law.go:315", after := #[{ on := 5, ground := Ground.data }], guard := none }) (v := ?vq6_539) rfl (by kernel_rfl) (by kernel_rfl) (by kernel_rfl) (fun _ _ _ h => h) (Or.inl ⟨by rfl, ?hq6_539⟩) (by assumption) ?_
                                  case hq6_539 => intro w hSw; (try dsimp only at hSw); go_simp; try (with_reducible rfl)
                                  (try simp only [Act.put, List.setIfInBounds_toArray, List.set_cons_zero, List.set_cons_succ])
                                  refine wpAnyH_take (i := 7) (oi := { dst := some 229, op := Op.move (Operand.tmp 22), type := 3, pos := "law.go:315", after := #[], guard := none }) (v := ?vq7_540) rfl (by kernel_rfl) (by kernel_rfl) (by kernel_rfl) (fun _ _ _ h => h) (Or.inl ⟨by rfl, ?hq7_540⟩) (by assumption) ?_
                                  case hq7_540 => intro w hSw; (try dsimp only at hSw); go_simp; try (with_reducible rfl)
                                  (try simp only [Act.put, List.setIfInBounds_toArray, List.set_cons_zero, List.set_cons_succ])
                                  refine wpAnyH_take (i := 8) (oi := { dst := some 230, op := Op.indexAddr 26 (Operand.tmp 228) (Operand.tmp 229), type := 0, pos := "law.go:315", after := #[{ on := 6, ground := Ground.data }, { on := 7, ground := Ground.data }], guard := none }) (v := .pointer (some ⟨bA, pA + j, none⟩)) rfl (by kernel_rfl) (by kernel_rfl) (by kernel_rfl) (fun _ _ _ h => h) (Or.inl ⟨by rfl, ?hq8_541⟩) (by assumption) ?_
                                  case hq8_541 => intro w hSw; (try dsimp only at hSw); go_simp; try (intro h; exfalso; omega)
                                  (try simp only [Act.put, List.setIfInBounds_toArray, List.set_cons_zero, List.set_cons_succ])
                                  refine wpAnyH_take (i := 9) (oi := { dst := some 231, op := Op.load 4 (Operand.tmp 230), type := 4, pos := "law.go:315", after := #[{ on := 8, ground := Ground.data }], guard := none }) (v := ?vq9_542) rfl (by kernel_rfl) (by kernel_rfl) (by kernel_rfl) (fun _ _ _ h => h) (Or.inl ⟨by rfl, ?hq9_542⟩) (by assumption) ?_
                                  case hq9_542 => intro w hSw; (try dsimp only at hSw); go_simp; try (with_reducible rfl)
                                  (try simp only [Act.put, List.setIfInBounds_toArray, List.set_cons_zero, List.set_cons_succ])
                                  refine wpAnyH_take (i := 10) (oi := { dst := some 232, op := Op.move (Operand.tmp 19), type := 31, pos := "law.go:315", after := #[], guard := none }) (v := ?vq10_543) rfl (by kernel_rfl) (by kernel_rfl) (by kernel_rfl) (fun _ _ _ h => h) (Or.inl ⟨by rfl, ?hq10_543⟩) (by assumption) ?_
                                  case hq10_543 => intro w hSw; (try dsimp only at hSw); go_simp; try (with_reducible rfl)
                                  (try simp only [Act.put, List.setIfInBounds_toArray, List.set_cons_zero, List.set_cons_succ])
                                  refine wpAnyH_take (i := 11) (oi := { dst := some 233, op := Op.move (Operand.tmp 20), type := 3, pos := "law.go:315", after := #[], guard := none }) (v := ?vq11_544) rfl (by kernel_rfl) (by kernel_rfl) (by kernel_rfl) (fun _ _ _ h => h) (Or.inl ⟨by rfl, ?hq11_544⟩) (by assumption) ?_
                                  case hq11_544 => intro w hSw; (try dsimp only at hSw); go_simp; try (with_reducible rfl)
                                  (try simp only [Act.put, List.setIfInBounds_toArray, List.set_cons_zero, List.set_cons_succ])
                                  refine wpAnyH_take (i := 12) (oi := { dst := some 234, op := Op.indexAddr 31 (Operand.tmp 232) (Operand.tmp 233), type := 0, pos := "law.go:315", after := #[{ on := 10, ground := Ground.data }, { on := 11, ground := Ground.data }], guard := none }) (v := .pointer (some ⟨bY, pY + i, none⟩)) rfl (by kernel_rfl) (by kernel_rfl) (by kernel_rfl) (fun _ _ _ h => h) (Or.inl ⟨by rfl, ?hq12_545⟩) (by assumption) ?_
                                  case hq12_545 => intro w hSw; (try dsimp only at hSw); go_simp; try (intro h; exfalso; omega)
                                  (try simp only [Act.put, List.setIfInBounds_toArray, List.set_cons_zero, List.set_cons_succ])
                                  refine wpAnyH_take (i := 13) (oi := { dst := some 235, op := Op.load 44 (Operand.tmp 234), type := 44, pos := "law.go:315", after := #[{ on := 12, ground := Ground.data }], guard := none }) (v := ?vq13_546) rfl (by kernel_rfl) (by kernel_rfl) (by kernel_rfl) (fun _ _ _ h => h) (Or.inl ⟨by rfl, ?hq13_546⟩) (by assumption) ?_
                                  case hq13_546 => intro w hSw; (try dsimp only at hSw); go_simp; try (with_reducible rfl)
                                  (try simp only [Act.put, List.setIfInBounds_toArray, List.set_cons_zero, List.set_cons_succ])
                                  refine wpAnyH_take (i := 14) (oi := { dst := some 236, op := Op.move (Operand.tmp 21), type := 3, pos := "law.go:315", after := #[], guard := none }) (v := ?vq14_547) rfl (by kernel_rfl) (by kernel_rfl) (by kernel_rfl) (fun _ _ _ h => h) (Or.inl ⟨by rfl, ?hq14_547⟩) (by assumption) ?_
                                  case hq14_547 => intro w hSw; (try dsimp only at hSw); go_simp; try (with_reducible rfl)
                                  (try simp only [Act.put, List.setIfInBounds_toArray, List.set_cons_zero, List.set_cons_succ])
                                  refine wpAnyH_take (i := 15) (oi := { dst := some 237, op := Op.indexAddr 44 (Operand.tmp 235) (Operand.tmp 236), type := 0, pos := "law.go:315", after := #[{ on := 13, ground := Ground.data }, { on := 14, ground := Ground.data }], guard := none }) (v := .pointer (some ⟨bV, pV + q, none⟩)) rfl (by kernel_rfl) (by kernel_rfl) (by kernel_rfl) (fun _ _ _ h => h) (Or.inl ⟨by rfl, ?hq15_548⟩) (by assumption) ?_
                                  case hq15_548 => intro w hSw; (try dsimp only at hSw); go_simp; try (intro h; exfalso; omega)
                                  (try simp only [Act.put, List.setIfInBounds_toArray, List.set_cons_zero, List.set_cons_succ])
                                  refine wpAnyH_take (i := 16) (oi := { dst := some 238, op := Op.load 26 (Operand.tmp 237), type := 26, pos := "law.go:315", after := #[{ on := 15, ground := Ground.data }], guard := none }) (v := ?vq16_549) rfl (by kernel_rfl) (by kernel_rfl) (by kernel_rfl) (fun _ _ _ h => h) (Or.inl ⟨by rfl, ?hq16_549⟩) (by assumption) ?_
                                  case hq16_549 => intro w hSw; (try dsimp only at hSw); go_simp; try (with_reducible rfl)
                                  (try simp only [Act.put, List.setIfInBounds_toArray, List.set_cons_zero, List.set_cons_succ])
                                  refine wpAnyH_take (i := 17) (oi := { dst := some 239, op := Op.move (Operand.tmp 22), type := 3, pos := "law.go:315", after := #[], guard := none }) (v := ?vq17_550) rfl (by kernel_rfl) (by kernel_rfl) (by kernel_rfl) (fun _ _ _ h => h) (Or.inl ⟨by rfl, ?hq17_550⟩) (by assumption) ?_
                                  case hq17_550 => intro w hSw; (try dsimp only at hSw); go_simp; try (with_reducible rfl)
                                  (try simp only [Act.put, List.setIfInBounds_toArray, List.set_cons_zero, List.set_cons_succ])
                                  refine wpAnyH_take (i := 18) (oi := { dst := some 240, op := Op.indexAddr 26 (Operand.tmp 238) (Operand.tmp 239), type := 0, pos := "law.go:315", after := #[{ on := 16, ground := Ground.data }, { on := 17, ground := Ground.data }], guard := none }) (v := .pointer (some ⟨bB, pB + j, none⟩)) rfl (by kernel_rfl) (by kernel_rfl) (by kernel_rfl) (fun _ _ _ h => h) (Or.inl ⟨by rfl, ?hq18_551⟩) (by assumption) ?_
                                  case hq18_551 => intro w hSw; (try dsimp only at hSw); go_simp; try (intro h; exfalso; omega)
                                  (try simp only [Act.put, List.setIfInBounds_toArray, List.set_cons_zero, List.set_cons_succ])
                                  refine wpAnyH_take (i := 19) (oi := { dst := some 241, op := Op.load 4 (Operand.tmp 240), type := 4, pos := "law.go:315", after := #[{ on := 18, ground := Ground.data }], guard := none }) (v := ?vq19_552) rfl (by kernel_rfl) (by kernel_rfl) (by kernel_rfl) (fun _ _ _ h => h) (Or.inl ⟨by rfl, ?hq19_552⟩) (by assumption) ?_
                                  case hq19_552 => intro w hSw; (try dsimp only at hSw); go_simp; try (with_reducible rfl)
                                  (try simp only [Act.put, List.setIfInBounds_toArray, List.set_cons_zero, List.set_cons_succ])
                                  refine wpAnyH_take (i := 20) (oi := { dst := some 242, op := Op.binOp BinOp.eql 4 (Operand.tmp 231) (Operand.tmp 241) 4, type := 4, pos := "law.go:315", after := #[{ on := 9, ground := Ground.data }, { on := 19, ground := Ground.data }], guard := none }) (v := .bool false) rfl (by kernel_rfl) (by kernel_rfl) (by kernel_rfl) (fun _ _ _ h => h) (Or.inl ⟨by rfl, ?hq20_553⟩) (by assumption) ?_
                                  case hq20_553 => intro w hSw; (try dsimp only at hSw); go_simp; try (simp; try omega)
                                  (try simp only [Act.put, List.setIfInBounds_toArray, List.set_cons_zero, List.set_cons_succ])
                                  refine wpAnyH_done (by kernel_rfl) ?_ _
                                  clear d1 d2 d3 d4 d5 d6
                                  go_wp2
                                  go_roundw
                                  case rel => exact ⟨j + 1, hlj, nxt _, HJ.out⟩
                                  case measure => exact meas hlj
                            · as_aux_lemma =>
                                obtain rfl : n = j := (last hj hlj).symm
                                go_wp2
                                go_roundw
                                case rel => exact ⟨q + 1, hlq, nxt _, hbj⟩
                                case measure => exact meas hlq
                      · as_aux_lemma =>
                          obtain rfl : m = q := (last hq hlq).symm
                          have d1 := below_cell hbq HI.out.1
                          have d2 := below_cell hbq HI.out.2.2.1
                          have HJ := Lib.hid hbq
                          clear hbq
                          go_wp2
                          go_roundw
                          case rel => exact ⟨i + 1, hlt, nxt _, HJ.out⟩
                          case measure => exact meas hlt
                · as_aux_lemma =>
                    obtain rfl : L = i := (last hi hlt).symm
                    have HFI := Lib.hid (show Below w.heap.size w wo from HZ.out.2.2.2.2.2.2.1.trans (hbr.mono HZ.out.2.2.2.2.2.2.1.size))
                    clear hbr
                    go_wp2
                    go_ret
                    exact ⟨rfl, HFI.out⟩
end Go.Proofs.Ytfpdecjlfnambaa
