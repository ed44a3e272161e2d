/-
  TreeDeep's walk: it answers true. Conditions: the statements lie in the heap; the package variables lie as the program's text lays them.
-/
import Derived.Test.YtgogdcpgfmndnaaGreatDoorTDeepW
import Derived.Test.YtgogdcpgfmndnaaGreatDoorTLargeB
import Derived.Test.YtgogdcpgfmndnaaGreatDoorTWorks
namespace Go.Proofs.YtgogdcpgfmndnaaGreatDoor
open Go.RowKit

def fnF (hd : Hd) (l : List St5) : Fn5 := ⟨⟨#[102]⟩, z0, [], hd, l, 0⟩
def soF (hd : Hd) (l : List St5) (b : Nat) : So5 := ⟨z0, [], z0, [], ⟨some ⟨b, 0, none⟩, 1⟩, [fnF hd l]⟩
theorem soF_ok (hd : Hd) (l : List St5) (b : Nat) : soOk (soF hd l b) = rowOk 1 l := by
  have e : smallN ⟨#[102]⟩ = true := by decide +kernel
  simp [soOk, soF, fnF, fnOk, e]
theorem soF_H {n : Nat} {hd : Hd} {l : List St5} {b : Nat} {w : World} (hL : Row w hd 21 l stC (StH n w)) (h : w.heap[b]? = some (.cells #[.string ⟨#[102]⟩, .slice none 0 0, .slice hd.oa l.length hd.cap, .int .i64 0] 35)) : SoH n w (soF hd l b) := by
  refine ⟨nilRow _ _ _ _, nilRow _ _ _ _, (row_block (w := w) (b := b) (l := [fnF hd l]) (C := fnC) (sz := 4) (t := 35) (P := FnH n w) (fun x hx => by simp at hx; subst hx; rfl) (by simp) (by rw [List.flatMap_singleton]; exact h) ?_ : Row w ⟨some ⟨b, 0, none⟩, 1⟩ 4 [fnF hd l] fnC (FnH n w))⟩
  intro x hx
  simp at hx
  subst hx
  exact ⟨nilRow _ _ _ _, hL⟩
theorem while_row {N : Nat} {hd : Hd} {m : List St5} {wr : World} (hL : Row wr hd 21 m stC (StH (N + 1) wr)) : Row (wr.alloc (.cells (stC (whileW hd m)).toArray 52)) ⟨some ⟨wr.heap.size, 0, none⟩, 1⟩ 21 [whileW hd m] stC (StH (N + 1 + 1) (wr.alloc (.cells (stC (whileW hd m)).toArray 52))) := by
  have hb := alloc_below wr (.cells (stC (whileW hd m)).toArray 52)
  refine (row_block (w := wr.alloc (.cells (stC (whileW hd m)).toArray 52)) (b := wr.heap.size) (l := [whileW hd m]) (C := stC) (sz := 21) (t := 52) (P := StH (N + 1 + 1) (wr.alloc (.cells (stC (whileW hd m)).toArray 52))) (fun x _ => stC_len x) (by simp) (by simpa using heap_alloc_new wr (.cells (stC (whileW hd m)).toArray 52)) ?_ : Row _ ⟨some ⟨wr.heap.size, 0, none⟩, 1⟩ 21 [whileW hd m] stC _)
  intro x hx
  simp at hx
  subst hx
  exact ⟨⟨by decide, by decide⟩, tyZ_H N _, plZ_H _, rvZ_H _, ⟨⟨by decide, by decide⟩, plZ_H _⟩, Row.below hL hb fun _ _ hx => StH.below hx hb, nilRow _ _ _ _, nilRow _ _ _ _⟩

set_option maxRecDepth 100000 in
set_option maxHeartbeats 16000000 in
theorem treeDeep_walk (N : Nat) (hd : Hd) (l : List St5) (n : Int) (w : World) (hL : Row w hd 21 l stC (StH (N + 1) w)) (hV : Vz w) :
    Calls Tryz.prog 7 #[.slice hd.oa l.length hd.cap, .int .i64 n] w fun e w' => e = .returned (.bool true) ∧ Below w.heap.size w w' := by
  have HV := Lib.hid hV
  have HL := Lib.hid hL
  clear hV hL
  go_enter Tryz.func7, Tryz.ntmps7
  go_wp2_with fail
  refine (works_any w HV.out).mono ?_
  rintro e w1 ⟨rfl, hb1⟩
  have hL1 := Row.below HL.out hb1 (fun _ _ hx => StH.below hx hb1)
  obtain ⟨W, hW⟩ : ∃ W, W = (w1.alloc (.cells #[.string ⟨#[102]⟩, .slice none 0 0, .slice hd.oa l.length hd.cap, .int .i64 0] 35)).alloc (.cells #[.slice none 0 0, .slice none 0 0, .slice (some ⟨w1.heap.size, 0, none⟩) 1 1] 26) := ⟨_, rfl⟩
  have hbW : Below w1.heap.size w1 W := by rw [hW]; exact ((Below.refl _ _).alloc (Nat.le_refl _) _).alloc (by simp) _
  have hx0 : W.heap[w1.heap.size]? = some (.cells #[.string ⟨#[102]⟩, .slice none 0 0, .slice hd.oa l.length hd.cap, .int .i64 0] 35) := by rw [hW, heap_alloc_old _ _ (by simp), heap_alloc_new]
  have hx1 : W.heap[w1.heap.size + 1]? = some (.cells #[.slice none 0 0, .slice none 0 0, .slice (some ⟨w1.heap.size, 0, none⟩) 1 1] 26) := by
    have := heap_alloc_new (w1.alloc (.cells #[.string ⟨#[102]⟩, .slice none 0 0, .slice hd.oa l.length hd.cap, .int .i64 0] 35)) (.cells #[.slice none 0 0, .slice none 0 0, .slice (some ⟨w1.heap.size, 0, none⟩) 1 1] 26)
    rw [hW]
    simpa using this
  have hLW := Row.below hL1 hbW (fun _ _ hx => StH.below hx hbW)
  have HB := Lib.hid (hb1.trans (hbW.mono hb1.size))
  have hSO := Lib.hid (fun w' (h : Below W.heap.size W w') => soF_H (Row.below hLW h fun _ _ hx => StH.below hx h) (keepB hx0 h))
  have hcf := Lib.hid (show ∀ w', Below W.heap.size W w' → w'.cell? ⟨w1.heap.size + 1, 0, none⟩ = some (.slice none 0 0) ∧ w'.cell? ⟨w1.heap.size + 1, 1, none⟩ = some (.slice none 0 0) ∧ w'.cell? ⟨w1.heap.size + 1, 2, none⟩ = some (.slice (some ⟨w1.heap.size, 0, none⟩) 1 1) from fun w' h => by
    have := keepB hx1 h
    simp [World.cell?, this])
  have hlg := Lib.hid (show Calls Tryz.prog 9 #[.agg #[.slice none 0 0, .slice none 0 0, .slice (some ⟨w1.heap.size, 0, none⟩) 1 1], .int .i64 400] W fun e w' => SomeB e ∧ Below W.heap.size W w' from large_any (N + 1) (soF hd l w1.heap.size) 400 W (hSO.out W (Below.refl _ _)))
  have HLW := Lib.hid hLW
  clear hb1 hL1 hbW hx0 hx1 hLW
  go_wp2_with fail
  rw [← hW]
  clear hW
  refine hlg.out.mono ?_
  rintro e w2 ⟨⟨b, rfl⟩, hb2⟩
  have HB2 := Lib.hid (HB.out.trans (hb2.mono HB.out.size))
  have K2 := Lib.hid hb2
  obtain ⟨y0, y1, y2⟩ := hcf.out w2 hb2
  clear hb2 hlg
  by_cases hmuch : b = true ∨ n < 0 ∨ n > 70
  · cases b with
    | true =>
      go_wp2
      go_ret
      exact ⟨rfl, HB2.out⟩
    | false =>
      rcases hmuch with h | h | h
      · cases h
      · go_wp2
        go_ret
        exact ⟨rfl, HB2.out⟩
      · have h2 : ¬ n < 0 := by omega
        go_wp2
        go_ret
        exact ⟨rfl, HB2.out⟩
  · obtain ⟨k, rfl⟩ : ∃ k : Nat, n = k := ⟨n.toNat, by omega⟩
    obtain rfl : b = false := by cases b <;> simp_all
    have hk : k ≤ 70 := by omega
    have tk0 : ¬ (k : Int) < 0 := by omega
    have tk1 : ¬ (k : Int) > 70 := by omega
    have hva := valid_any (N + 1) (soF hd l w1.heap.size) w2 (hSO.out w2 K2.out) (HV.out.b HB2.out)
    rw [soF_ok] at hva
    obtain ⟨va, hvaE⟩ : ∃ v, v = rowOk 1 l := ⟨_, rfl⟩
    rw [← hvaE] at hva
    have HVA := Lib.hid hvaE
    replace hva := Lib.hid (show Calls Tryz.prog 13 #[.agg #[.slice none 0 0, .slice none 0 0, .slice (some ⟨w1.heap.size, 0, none⟩) 1 1]] w2 fun e w' => e = .returned (.bool va) ∧ Below w2.heap.size w2 w' from hva)
    clear hmuch hvaE
    go_wp2_with fail
    refine hva.out.mono ?_
    rintro e w3 ⟨rfl, hb3⟩
    have HB3 := Lib.hid (HB2.out.trans (hb3.mono HB2.out.size))
    have K3 := Lib.hid (K2.out.trans (hb3.mono K2.out.size))
    clear hb3 y0 y1 y2 hva
    have HL3 := Lib.hid (Row.below HL.out HB3.out fun _ _ hx => StH.below hx HB3.out)
    go_wp2_with fail
    go_loopw [9, 10] (fun v u wr => ∃ (j : Nat) (h : Hd) (m : List St5), j ≤ k ∧ u = .int .i64 j ∧ v = .slice h.oa m.length h.cap ∧ Row wr h 21 m stC (StH (N + j + 1) wr) ∧ (∀ d, rowOk d m = rowOk (d + j) l) ∧ Below w.heap.size w wr) (fun _ u _ => k - (intOf u).toNat)
    case atStart => exact ⟨0, hd, l, by omega, rfl, rfl, HL3.out, fun d => rfl, HB3.out⟩
    case round =>
      clear HL3 HB3 K3
      obtain ⟨j, h, m, hj, rfl, rfl, hrow, hok, hbw⟩ := hrel
      by_cases hjk : j < k
      · have t1 : decide ((j : Int) < k) = true := by simp; omega
        have HW := Lib.hid (while_row hrow)
        have HB4 := Lib.hid (hbw.trans ((alloc_below wr (.cells (stC (whileW h m)).toArray 52)).mono hbw.size))
        have HOK := Lib.hid hok
        clear hrow hbw hok
        go_wp2
        go_roundw
        case rel =>
          refine ⟨j + 1, ⟨some ⟨wr.heap.size, 0, none⟩, 1⟩, [whileW h m], by omega, by go_num, rfl, ?_, ?_, HB4.out⟩
          · have := HW.out
            rw [show N + (j + 1) + 1 = N + j + 1 + 1 by omega]
            exact this
          · intro d
            rw [rowOk_while, HOK.out, show d + 1 + j = d + (j + 1) by omega]
        case measure => simp [intOf]; omega
      · have t1 : decide ((j : Int) < k) = false := by simp; omega
        obtain rfl : j = k := by omega
        have hb5 := alloc_below wr (.cells #[.string ⟨#[102]⟩, .slice none 0 0, .slice h.oa m.length h.cap, .int .i64 0] 35)
        have hg := valid_any (N + j + 1) (soF h m wr.heap.size) (wr.alloc (.cells #[.string ⟨#[102]⟩, .slice none 0 0, .slice h.oa m.length h.cap, .int .i64 0] 35)) (soF_H (Row.below hrow hb5 fun _ _ hx => StH.below hx hb5) (heap_alloc_new _ _)) (HV.out.b (hbw.trans (hb5.mono hbw.size)))
        rw [soF_ok, hok] at hg
        obtain ⟨go, hgo⟩ : ∃ g, g = rowOk (1 + j) l := ⟨_, rfl⟩
        rw [← hgo] at hg
        replace hg := Lib.hid (show Calls Tryz.prog 13 #[.agg #[.slice none 0 0, .slice none 0 0, .slice (some ⟨wr.heap.size, 0, none⟩) 1 1]] (wr.alloc (.cells #[.string ⟨#[102]⟩, .slice none 0 0, .slice h.oa m.length h.cap, .int .i64 0] 35)) fun e w' => e = .returned (.bool go) ∧ Below (wr.alloc (.cells #[.string ⟨#[102]⟩, .slice none 0 0, .slice h.oa m.length h.cap, .int .i64 0] 35)).heap.size (wr.alloc (.cells #[.string ⟨#[102]⟩, .slice none 0 0, .slice h.oa m.length h.cap, .int .i64 0] 35)) w' from hg)
        have HB5 := Lib.hid (hbw.trans (hb5.mono hbw.size))
        have HGO := Lib.hid hgo
        clear hrow hok hbw hb5 hgo
        go_wp2_with fail
        refine hg.out.mono ?_
        rintro e w6 ⟨rfl, hb6⟩
        have HB6 := Lib.hid (HB5.out.trans (hb6.mono HB5.out.size))
        have HL6 := Lib.hid (Row.below HL.out HB6.out fun _ _ hx => StH.below hx HB6.out)
        clear hb6 hg HB5
        by_cases h60 : 60 ≤ j
        · have t2 : decide ((j : Int) ≥ 60) = true := by simp; omega
          obtain rfl : go = false := by
            rw [HGO.out, rowOk, decide_eq_false (by omega), Bool.false_and]
          go_wp2
          go_ret
          exact ⟨rfl, HB6.out⟩
        · have t2 : decide ((j : Int) ≥ 60) = false := by rw [decide_eq_false_iff_not]; omega
          have t3 : ¬ (60 : Int) ≤ j := by omega
          cases va with
          | false =>
            obtain rfl : go = false := by
              cases go with
              | false => rfl
              | true =>
                have h1 := rowOk_up (e := 1) HGO.out.symm (by omega)
                rw [← HVA.out] at h1
                exact h1.symm
            go_wp2
            go_ret
            exact ⟨rfl, HB6.out⟩
          | true =>
            cases go with
            | true =>
              go_wp2
              go_ret
              exact ⟨rfl, HB6.out⟩
            | false =>
              have hdl := rowOk_deep HVA.out.symm
              have hgt : 60 < j + deepL l := by
                rcases Nat.lt_or_ge 60 (j + deepL l) with h | h
                · exact h
                · have h2 := rowOk_at (e := 1 + j) HVA.out.symm (by omega)
                  rw [← HGO.out] at h2
                  cases h2
              have hde := Lib.hid (deep_any (N + 1) hd l w6 HL6.out (by omega))
              obtain ⟨D, hD⟩ : ∃ D, D = deepL l := ⟨_, rfl⟩
              rw [← hD] at hdl hgt hde
              clear hD
              have t4 : decide ((j : Int) + D > 60) = true := by simp; omega
              have t5 : (60 : Int) < j + D := by omega
              go_wp2_with (go_at_call 17; refine hde.out.mono ?_; rintro e w7 ⟨rfl, hb7⟩; have HB7 := Lib.hid (HB6.out.trans (hb7.mono HB6.out.size)); clear hb7)
              go_ret
              exact ⟨by first | rfl | simp, HB7.out⟩
end Go.Proofs.YtgogdcpgfmndnaaGreatDoor
