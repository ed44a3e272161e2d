/-
  Graph's laws: marked. Conditions: the changes lie in the heap.
-/
import Derived.Test.YtfpdecjlfnambaaGLawW
namespace Go.Proofs.Ytfpdecjlfnambaa
open Go Go.RowKit

/-- Does a change hold a flag at a step? -/
def hitC (c : Chg) (b s j : Int) (gen : Bool) : Prop := c.b = b ∧ c.s = s ∧ j ∈ (if gen then c.gen else c.kill)
/-- Does one? -/
def mkF (C : List Chg) (b s j : Int) (gen : Bool) : Bool := C.any fun c => decide (c.b = b) && decide (c.s = s) && decide (j ∈ (if gen then c.gen else c.kill))
theorem mkF_iff {C : List Chg} {b s j : Int} {gen : Bool} : mkF C b s j gen = true ↔ ∃ c ∈ C, c.b = b ∧ c.s = s ∧ j ∈ (if gen then c.gen else c.kill) := by
  simp [mkF, and_assoc]

set_option maxRecDepth 100000 in
set_option maxHeartbeats 4000000 in
theorem markedG_any (n0 : Nat) (oc : Option Addr) (capC : Nat) (C : List Chg) (bk at_ j : Int) (w : World) (hC : CRow n0 w oc C) (hcl : ∀ c ∈ C, c.gen.length ≤ 1000 ∧ c.kill.length ≤ 1000) (hC1 : C.length ≤ 1000) :
    Calls Try.prog 24 #[.slice oc C.length capC, .int .i64 bk, .int .i64 at_, .int .i64 j, .bool true] w fun e w' => e = .returned (.bool (mkF C bk at_ j true)) ∧ w' = w := by
  obtain ⟨nC, hnC⟩ : ∃ k, k = C.length := ⟨_, rfl⟩
  rw [← hnC] at hC1 ⊢
  have HA := Lib.hid (And.intro hC (And.intro hnC hcl))
  clear hC hnC hcl
  go_enter Try.func24, Try.ntmps24
  go_wp2
  go_loopw [11] (fun u wr => ∃ i : Nat, i ≤ nC ∧ u = .int .i64 i ∧ wr = w ∧ ∀ i', i' < i → ¬ hitC (C[i']?.getD default) bk at_ j true) (fun u _ => nC - (intOf u).toNat)
  case atStart => exact ⟨0, Nat.zero_le _, rfl, rfl, fun i' h => absurd h (Nat.not_lt_zero _)⟩
  case round =>
    obtain ⟨i, hi, rfl, rfl, hno⟩ := hrel
    by_cases hli : i < nC
    · obtain ⟨hC, hnC, hcl⟩ := HA.out
      obtain ⟨bl, off, rfl, hbl, hrow⟩ := hC (by omega)
      obtain ⟨a1, a2, ⟨v3, a3, hg⟩, v4, a4, hk⟩ := hrow i (by omega)
      obtain ⟨cb, hcb⟩ : ∃ x, x = (C[i]?.getD default).b := ⟨_, rfl⟩
      obtain ⟨cs, hcs⟩ : ∃ x, x = (C[i]?.getD default).s := ⟨_, rfl⟩
      obtain ⟨l, hl⟩ : ∃ x, x = (C[i]?.getD default).gen := ⟨_, rfl⟩
      rw [← hcb] at a1
      rw [← hcs] at a2
      obtain ⟨og, cg, hv3, hgc⟩ := hg
      obtain ⟨ok, ck, hv4, hkc⟩ := hk
      subst hv3 hv4
      obtain ⟨m, hm⟩ : ∃ m, m = l.length := ⟨_, rfl⟩
      have hm1 : m ≤ 1000 := by
        have hin : (C[i]?.getD default) ∈ C := by
          rw [List.getElem?_eq_getElem (show i < C.length by omega)]
          exact List.getElem_mem _
        have := hcl _ hin
        rw [hm, hl]
        exact this.1
      rw [← hl, ← hm] at a3
      have hlc : 0 < m → ∃ bg fg, og = some ⟨bg, fg, none⟩ ∧ ∀ q, q < m → wr.cell? ⟨bg, fg + q, none⟩ = some (.int .i64 (l[q]?.getD 0)) := fun h0 => by
        obtain ⟨bg, fg, e1, -, e2⟩ := hgc (by rw [← hl, ← hm]; exact h0)
        exact ⟨bg, fg, e1, fun q hq => by rw [hl]; exact e2 q (by rw [← hl, ← hm]; exact hq)⟩
      have HI := Lib.hid (And.intro hno (And.intro hcb (And.intro hcs (And.intro hl (And.intro hm hlc)))))
      clear hC hnC hcl hrow hbl hno hcb hcs hl hgc hkc hm hlc
      by_cases e1 : cb = bk
      · by_cases e2 : cs = at_
        · subst e1 e2
          go_wp2
          go_loopw [13] (fun u wq => ∃ q : Nat, q ≤ m ∧ u = .int .i64 q ∧ wq = wr ∧ ∀ q', q' < q → l[q']? ≠ some j) (fun u _ => m - (intOf u).toNat)
          case atStart => exact ⟨0, Nat.zero_le _, rfl, rfl, fun i' h => absurd h (Nat.not_lt_zero _)⟩
          case round =>
            obtain ⟨q, hq, rfl, rfl, hnq⟩ := hrel
            by_cases hlq : q < m
            · obtain ⟨hno, hcb, hcs, hl, hm, hlc⟩ := HI.out
              obtain ⟨bg, fg, rfl, hcc⟩ := hlc (by omega)
              have c9 := hcc q hlq
              obtain ⟨x, hx⟩ : ∃ x, x = l[q]?.getD 0 := ⟨_, rfl⟩
              rw [← hx] at c9
              have hlx : l[q]? = some x := by rw [hx, List.getElem?_eq_getElem (by omega)]; rfl
              have HQ := Lib.hid (And.intro hnq hlx)
              clear hno hcb hcs hl hm hlc hcc hx hlx hnq
              by_cases hxj : x = j
              · subst hxj
                go_wp2
                go_ret
                refine ⟨?_, rfl⟩
                obtain ⟨hno, hcb, hcs, hl, hm, hlc⟩ := HI.out
                obtain ⟨hC, hnC, hcl⟩ := HA.out
                have : mkF C cb cs x true = true := mkF_iff.2 ⟨C[i]?.getD default, by rw [List.getElem?_eq_getElem (show i < C.length by omega)]; exact List.getElem_mem _, hcb.symm, hcs.symm, by
                  show x ∈ (C[i]?.getD default).gen
                  rw [← hl]
                  exact List.mem_of_getElem? HQ.out.2⟩
                rw [this]
                rfl
              · have hxj' : (x == j) = false := by simpa using hxj
                have HX := Lib.hid hxj
                clear hxj
                go_wp2
                go_roundw
                case rel =>
                  refine ⟨q + 1, hlq, nxt _, by trivial, fun q' hq' => ?_⟩
                  by_cases e : q' = q
                  · subst e
                    rw [HQ.out.2]
                    exact fun h => HX.out (Option.some.inj h)
                  · exact HQ.out.1 q' (by omega)
                case measure => exact meas hlq
            · obtain rfl : q = m := last hq hlq
              have HQ := Lib.hid hnq
              clear hnq
              go_wp2
              go_roundw
              case rel =>
                obtain ⟨hno, hcb, hcs, hl, hm, hlc⟩ := HI.out
                refine ⟨i + 1, hli, nxt _, by trivial, fun i' hi' h => ?_⟩
                by_cases e : i' = i
                · subst e
                  have h3 : j ∈ (C[i']?.getD default).gen := h.2.2
                  rw [← hl] at h3
                  obtain ⟨q', hq'⟩ := List.getElem?_of_mem h3
                  exact HQ.out q' (by have := (List.getElem?_eq_some_iff.1 hq').1; omega) hq'
                · exact hno i' (by omega) h
              case measure => exact meas hli
        · have e2' : (cs == at_) = false := by simpa using e2
          have HX := Lib.hid e2
          clear e2
          subst e1
          go_wp2
          go_loopw [13] (fun u wq => u = .int .i64 0 ∧ wq = wr) (fun _ _ => 0)
          case atStart => exact ⟨rfl, rfl⟩
          case round =>
            obtain ⟨rfl, rfl⟩ := hrel
            by_cases h0 : 0 < m
            · go_wp2
              go_roundw
              case rel =>
                obtain ⟨hno, hcb, hcs, hl, hm, hlc⟩ := HI.out
                refine ⟨i + 1, hli, nxt _, by trivial, fun i' hi' h => ?_⟩
                by_cases e : i' = i
                · subst e
                  exact HX.out (hcs.trans h.2.1)
                · exact hno i' (by omega) h
              case measure => exact meas hli
            · obtain rfl : m = 0 := by omega
              go_wp2
              go_roundw
              case rel =>
                obtain ⟨hno, hcb, hcs, hl, hm, hlc⟩ := HI.out
                refine ⟨i + 1, hli, nxt _, by trivial, fun i' hi' h => ?_⟩
                by_cases e : i' = i
                · subst e
                  exact HX.out (hcs.trans h.2.1)
                · exact hno i' (by omega) h
              case measure => exact meas hli
      · have e1' : (cb == bk) = false := by simpa using e1
        have HX := Lib.hid e1
        clear e1
        go_wp2
        go_loopw [13] (fun u wq => u = .int .i64 0 ∧ wq = wr) (fun _ _ => 0)
        case atStart => exact ⟨rfl, rfl⟩
        case round =>
          obtain ⟨rfl, rfl⟩ := hrel
          by_cases h0 : 0 < m
          · go_wp2
            go_roundw
            case rel =>
              obtain ⟨hno, hcb, hcs, hl, hm, hlc⟩ := HI.out
              refine ⟨i + 1, hli, nxt _, by trivial, fun i' hi' h => ?_⟩
              by_cases e : i' = i
              · subst e
                exact HX.out (hcb.trans h.1)
              · exact hno i' (by omega) h
            case measure => exact meas hli
          · obtain rfl : m = 0 := by omega
            go_wp2
            go_roundw
            case rel =>
              obtain ⟨hno, hcb, hcs, hl, hm, hlc⟩ := HI.out
              refine ⟨i + 1, hli, nxt _, by trivial, fun i' hi' h => ?_⟩
              by_cases e : i' = i
              · subst e
                exact HX.out (hcb.trans h.1)
              · exact hno i' (by omega) h
            case measure => exact meas hli
    · obtain rfl : i = nC := last hi hli
      have HN := Lib.hid hno
      clear hno
      go_wp2
      go_ret
      refine ⟨?_, rfl⟩
      obtain ⟨hC, hnC, hcl⟩ := HA.out
      have : mkF C bk at_ j true = false := by
        cases h : mkF C bk at_ j true
        · rfl
        · obtain ⟨c, hc, h1, h2, h3⟩ := mkF_iff.1 h
          obtain ⟨i', hi'⟩ := List.getElem?_of_mem hc
          exact (HN.out i' (by have := (List.getElem?_eq_some_iff.1 hi').1; omega) (by rw [hi']; exact ⟨h1, h2, h3⟩)).elim
      rw [this]
      rfl
set_option maxRecDepth 100000 in
set_option maxHeartbeats 4000000 in
theorem markedK_any (n0 : Nat) (oc : Option Addr) (capC : Nat) (C : List Chg) (bk at_ j : Int) (w : World) (hC : CRow n0 w oc C) (hcl : ∀ c ∈ C, c.gen.length ≤ 1000 ∧ c.kill.length ≤ 1000) (hC1 : C.length ≤ 1000) :
    Calls Try.prog 24 #[.slice oc C.length capC, .int .i64 bk, .int .i64 at_, .int .i64 j, .bool false] w fun e w' => e = .returned (.bool (mkF C bk at_ j false)) ∧ w' = w := by
  obtain ⟨nC, hnC⟩ : ∃ k, k = C.length := ⟨_, rfl⟩
  rw [← hnC] at hC1 ⊢
  have HA := Lib.hid (And.intro hC (And.intro hnC hcl))
  clear hC hnC hcl
  go_enter Try.func24, Try.ntmps24
  go_wp2
  go_loopw [11] (fun u wr => ∃ i : Nat, i ≤ nC ∧ u = .int .i64 i ∧ wr = w ∧ ∀ i', i' < i → ¬ hitC (C[i']?.getD default) bk at_ j false) (fun u _ => nC - (intOf u).toNat)
  case atStart => exact ⟨0, Nat.zero_le _, rfl, rfl, fun i' h => absurd h (Nat.not_lt_zero _)⟩
  case round =>
    obtain ⟨i, hi, rfl, rfl, hno⟩ := hrel
    by_cases hli : i < nC
    · obtain ⟨hC, hnC, hcl⟩ := HA.out
      obtain ⟨bl, off, rfl, hbl, hrow⟩ := hC (by omega)
      obtain ⟨a1, a2, ⟨v3, a3, hg⟩, v4, a4, hk⟩ := hrow i (by omega)
      obtain ⟨cb, hcb⟩ : ∃ x, x = (C[i]?.getD default).b := ⟨_, rfl⟩
      obtain ⟨cs, hcs⟩ : ∃ x, x = (C[i]?.getD default).s := ⟨_, rfl⟩
      obtain ⟨l, hl⟩ : ∃ x, x = (C[i]?.getD default).kill := ⟨_, rfl⟩
      rw [← hcb] at a1
      rw [← hcs] at a2
      obtain ⟨og, cg, hv3, hgc⟩ := hg
      obtain ⟨ok, ck, hv4, hkc⟩ := hk
      subst hv3 hv4
      obtain ⟨m, hm⟩ : ∃ m, m = l.length := ⟨_, rfl⟩
      have hm1 : m ≤ 1000 := by
        have hin : (C[i]?.getD default) ∈ C := by
          rw [List.getElem?_eq_getElem (show i < C.length by omega)]
          exact List.getElem_mem _
        have := hcl _ hin
        rw [hm, hl]
        exact this.2
      rw [← hl, ← hm] at a4
      have hlc : 0 < m → ∃ bg fg, ok = some ⟨bg, fg, none⟩ ∧ ∀ q, q < m → wr.cell? ⟨bg, fg + q, none⟩ = some (.int .i64 (l[q]?.getD 0)) := fun h0 => by
        obtain ⟨bg, fg, e1, -, e2⟩ := hkc (by rw [← hl, ← hm]; exact h0)
        exact ⟨bg, fg, e1, fun q hq => by rw [hl]; exact e2 q (by rw [← hl, ← hm]; exact hq)⟩
      have HI := Lib.hid (And.intro hno (And.intro hcb (And.intro hcs (And.intro hl (And.intro hm hlc)))))
      clear hC hnC hcl hrow hbl hno hcb hcs hl hgc hkc hm hlc
      by_cases e1 : cb = bk
      · by_cases e2 : cs = at_
        · subst e1 e2
          go_wp2
          go_loopw [13] (fun u wq => ∃ q : Nat, q ≤ m ∧ u = .int .i64 q ∧ wq = wr ∧ ∀ q', q' < q → l[q']? ≠ some j) (fun u _ => m - (intOf u).toNat)
          case atStart => exact ⟨0, Nat.zero_le _, rfl, rfl, fun i' h => absurd h (Nat.not_lt_zero _)⟩
          case round =>
            obtain ⟨q, hq, rfl, rfl, hnq⟩ := hrel
            by_cases hlq : q < m
            · obtain ⟨hno, hcb, hcs, hl, hm, hlc⟩ := HI.out
              obtain ⟨bg, fg, rfl, hcc⟩ := hlc (by omega)
              have c9 := hcc q hlq
              obtain ⟨x, hx⟩ : ∃ x, x = l[q]?.getD 0 := ⟨_, rfl⟩
              rw [← hx] at c9
              have hlx : l[q]? = some x := by rw [hx, List.getElem?_eq_getElem (by omega)]; rfl
              have HQ := Lib.hid (And.intro hnq hlx)
              clear hno hcb hcs hl hm hlc hcc hx hlx hnq
              by_cases hxj : x = j
              · subst hxj
                go_wp2
                go_ret
                refine ⟨?_, rfl⟩
                obtain ⟨hno, hcb, hcs, hl, hm, hlc⟩ := HI.out
                obtain ⟨hC, hnC, hcl⟩ := HA.out
                have : mkF C cb cs x false = true := mkF_iff.2 ⟨C[i]?.getD default, by rw [List.getElem?_eq_getElem (show i < C.length by omega)]; exact List.getElem_mem _, hcb.symm, hcs.symm, by
                  show x ∈ (C[i]?.getD default).kill
                  rw [← hl]
                  exact List.mem_of_getElem? HQ.out.2⟩
                rw [this]
                rfl
              · have hxj' : (x == j) = false := by simpa using hxj
                have HX := Lib.hid hxj
                clear hxj
                go_wp2
                go_roundw
                case rel =>
                  refine ⟨q + 1, hlq, nxt _, by trivial, fun q' hq' => ?_⟩
                  by_cases e : q' = q
                  · subst e
                    rw [HQ.out.2]
                    exact fun h => HX.out (Option.some.inj h)
                  · exact HQ.out.1 q' (by omega)
                case measure => exact meas hlq
            · obtain rfl : q = m := last hq hlq
              have HQ := Lib.hid hnq
              clear hnq
              go_wp2
              go_roundw
              case rel =>
                obtain ⟨hno, hcb, hcs, hl, hm, hlc⟩ := HI.out
                refine ⟨i + 1, hli, nxt _, by trivial, fun i' hi' h => ?_⟩
                by_cases e : i' = i
                · subst e
                  have h3 : j ∈ (C[i']?.getD default).kill := h.2.2
                  rw [← hl] at h3
                  obtain ⟨q', hq'⟩ := List.getElem?_of_mem h3
                  exact HQ.out q' (by have := (List.getElem?_eq_some_iff.1 hq').1; omega) hq'
                · exact hno i' (by omega) h
              case measure => exact meas hli
        · have e2' : (cs == at_) = false := by simpa using e2
          have HX := Lib.hid e2
          clear e2
          subst e1
          go_wp2
          go_loopw [13] (fun u wq => u = .int .i64 0 ∧ wq = wr) (fun _ _ => 0)
          case atStart => exact ⟨rfl, rfl⟩
          case round =>
            obtain ⟨rfl, rfl⟩ := hrel
            by_cases h0 : 0 < m
            · go_wp2
              go_roundw
              case rel =>
                obtain ⟨hno, hcb, hcs, hl, hm, hlc⟩ := HI.out
                refine ⟨i + 1, hli, nxt _, by trivial, fun i' hi' h => ?_⟩
                by_cases e : i' = i
                · subst e
                  exact HX.out (hcs.trans h.2.1)
                · exact hno i' (by omega) h
              case measure => exact meas hli
            · obtain rfl : m = 0 := by omega
              go_wp2
              go_roundw
              case rel =>
                obtain ⟨hno, hcb, hcs, hl, hm, hlc⟩ := HI.out
                refine ⟨i + 1, hli, nxt _, by trivial, fun i' hi' h => ?_⟩
                by_cases e : i' = i
                · subst e
                  exact HX.out (hcs.trans h.2.1)
                · exact hno i' (by omega) h
              case measure => exact meas hli
      · have e1' : (cb == bk) = false := by simpa using e1
        have HX := Lib.hid e1
        clear e1
        go_wp2
        go_loopw [13] (fun u wq => u = .int .i64 0 ∧ wq = wr) (fun _ _ => 0)
        case atStart => exact ⟨rfl, rfl⟩
        case round =>
          obtain ⟨rfl, rfl⟩ := hrel
          by_cases h0 : 0 < m
          · go_wp2
            go_roundw
            case rel =>
              obtain ⟨hno, hcb, hcs, hl, hm, hlc⟩ := HI.out
              refine ⟨i + 1, hli, nxt _, by trivial, fun i' hi' h => ?_⟩
              by_cases e : i' = i
              · subst e
                exact HX.out (hcb.trans h.1)
              · exact hno i' (by omega) h
            case measure => exact meas hli
          · obtain rfl : m = 0 := by omega
            go_wp2
            go_roundw
            case rel =>
              obtain ⟨hno, hcb, hcs, hl, hm, hlc⟩ := HI.out
              refine ⟨i + 1, hli, nxt _, by trivial, fun i' hi' h => ?_⟩
              by_cases e : i' = i
              · subst e
                exact HX.out (hcb.trans h.1)
              · exact hno i' (by omega) h
            case measure => exact meas hli
    · obtain rfl : i = nC := last hi hli
      have HN := Lib.hid hno
      clear hno
      go_wp2
      go_ret
      refine ⟨?_, rfl⟩
      obtain ⟨hC, hnC, hcl⟩ := HA.out
      have : mkF C bk at_ j false = false := by
        cases h : mkF C bk at_ j false
        · rfl
        · obtain ⟨c, hc, h1, h2, h3⟩ := mkF_iff.1 h
          obtain ⟨i', hi'⟩ := List.getElem?_of_mem hc
          exact (HN.out i' (by have := (List.getElem?_eq_some_iff.1 hi').1; omega) (by rw [hi']; exact ⟨h1, h2, h3⟩)).elim
      rw [this]
      rfl
end Go.Proofs.Ytfpdecjlfnambaa
