/-
  step, settle, through of package machine. Conditions: the session lies in the heap; the instruction is one that may be run.
-/
import Derived.Test.YtgpkhdccchpljaaDoorKJMac
import Derived.Test.YtgpkhdccchpljaaDoorKJWait
import Derived.Test.YtgpkhdccchpljaaDoorKJChange
import Derived.Test.YtgpkhdccchpljaaDoorKEnd
import Derived.Test.YtgpkhdccchpljaaDoorKSettle
import Derived.Test.YtgpkhdccchpljaaDoorKStepA
import Derived.Test.YtgpkhdccchpljaaDoorKStepB
import Derived.Test.YtgpkhdccchpljaaDoorKStepC
import Derived.Test.YtgpkhdccchpljaaDoorKStepD
import Derived.Test.YtgpkhdccchpljaaDoorKStepE
import Derived.Test.YtgpkhdccchpljaaDoorKStepF
import Derived.Test.YtgpkhdccchpljaaDoorKStepG
import Derived.Test.YtgpkhdccchpljaaDoorKStepH
import Derived.Test.YtgpkhdccchpljaaDoorKThrough
import Derived.Test.YtgpkhdccchpljaaDoorKJClone
import Derived.Test.YtgpkhdccchpljaaDoorKJTable
namespace Go.Proofs.YtgpkhdccchpljaaDoor
open Go.RowKit
open M (Wd MS RepAt Owned Kept Turned loadR storeR copyR clearR freeR allocR)
open C (In fitsB labB shp)

theorem in_ins {c : Cx} {f : List In} {x : In} (hi : InsOk c f x) {k : Int} (hk : x.op = k) (h : (shp k).f0 = 1 ∨ (shp k).f0 = 2) : 0 ≤ x.a ∧ x.a < 16 := by
  have := hi.a
  rw [hk] at this
  exact InsOk.reg this h
theorem in_b {c : Cx} {f : List In} {x : In} (hi : InsOk c f x) {k : Int} (hk : x.op = k) (h : (shp k).f1 = 1 ∨ (shp k).f1 = 2) : 0 ≤ x.b ∧ x.b < 16 := by
  have := hi.b
  rw [hk] at this
  exact InsOk.reg this h
theorem in_c {c : Cx} {f : List In} {x : In} (hi : InsOk c f x) {k : Int} (hk : x.op = k) (h : (shp k).f2 = 1 ∨ (shp k).f2 = 2) : 0 ≤ x.c ∧ x.c < 16 := by
  have := hi.c
  rw [hk] at this
  exact InsOk.reg this h
theorem in_cnt {c : Cx} {f : List In} {x : In} (hi : InsOk c f x) {k : Int} (hk : x.op = k) (h : (shp k).f2 = 5) : x.c ≤ 1048576 := by
  have h1 := hi.c
  rw [hk, h] at h1
  exact (InsOk.cnt h1).2
theorem in_lab {c : Cx} {f : List In} {x : In} (hi : InsOk c f x) {k : Int} (hk : x.op = k) (h : (shp k).lb = 1) : x.l.length = 1 := by
  have h1 := hi.lb
  rw [hk, h] at h1
  exact lab1 h1
theorem co_ok {c : Cx} (hc : CxOk c) : CoOk c.p := fun _cr h => co_fun hc h

theorem exec_set (c : Cx) (s : Se) (r : Ru) (rs : List Ru) (x : In) (h : x.op = 0 ∨ x.op = 1 ∨ x.op = 2 ∨ x.op = 3 ∨ x.op = 16 ∨ x.op = 22) : execR c s r rs x = (stopO (wordR c.p s.S r x).1.2, { s with S := (wordR c.p s.S r x).2, rs := r.put x.a (wordR c.p s.S r x).1.1 :: rs }) := by
  rw [execR, if_pos h]
theorem exec_change (c : Cx) (s : Se) (r : Ru) (rs : List Ru) (x : In) (h : x.op = 4 ∨ x.op = 5 ∨ x.op = 6 ∨ x.op = 7 ∨ x.op = 17) : execR c s r rs x = (stopO (changeR s.S r x).1, { s with S := (changeR s.S r x).2 }) := by
  rw [execR, if_neg (by omega), if_pos h]
theorem exec_reckon (c : Cx) (s : Se) (r : Ru) (rs : List Ru) (x : In) (hrs : s.rs = r :: rs) (h : x.op = 8 ∨ x.op = 9 ∨ x.op = 10 ∨ x.op = 11 ∨ x.op = 12) : execR c s r rs x = ((reckO r x).1, { s with rs := (reckO r x).2 :: rs }) := by
  have hs : s = { s with rs := r :: rs } := by rw [← hrs]
  rw [execR, if_neg (by omega), if_neg (by omega), if_pos h, reckO]
  split
  · simp only; rw [← hs]
  · split <;> rfl
theorem exec_turn (c : Cx) (s : Se) (r : Ru) (rs : List Ru) (x : In) (hrs : s.rs = r :: rs) (h : x.op = 13 ∨ x.op = 14 ∨ x.op = 15) : execR c s r rs x = (stopO (turnR r x).1, { s with rs := (turnR r x).2 :: rs }) := by
  have hs : s = { s with rs := r :: rs } := by rw [← hrs]
  rw [execR, if_neg (by omega), if_neg (by omega), if_neg (by omega), turnR]
  by_cases h13 : x.op = 13
  · rw [if_pos h13, if_pos h13]; rfl
  · rw [if_neg h13, if_neg h13]
    by_cases h14 : x.op = 14
    · rw [if_pos h14, if_pos h14]
      by_cases hE : numE (r.get x.a) ≠ 0
      · rw [if_pos hE, if_pos hE]; simp only; rw [← hs]
      · rw [if_neg hE, if_neg hE]
        by_cases hn : (r.get x.a).n ≠ 0
        · rw [if_pos hn, if_pos hn]; rfl
        · rw [if_neg hn, if_neg hn]; simp only; rw [← hs]; rfl
    · rw [if_neg h14, if_pos (show x.op = 15 by omega), if_neg h14]
      by_cases hE : numE (r.get x.a) ≠ 0
      · rw [if_pos hE, if_pos hE]; simp only; rw [← hs]
      · rw [if_neg hE, if_neg hE]
        by_cases hn : (r.get x.a).n < 0 ∨ (x.l.length : Int) ≤ (r.get x.a).n
        · rw [if_pos hn, if_pos hn]; simp only; rw [← hs]
        · rw [if_neg hn, if_neg hn]; rfl
theorem exec_tell (c : Cx) (s : Se) (r : Ru) (rs : List Ru) (x : In) (h : x.op = 18 ∨ x.op = 19 ∨ x.op = 20) : execR c s r rs x = tellR c s r rs x := by
  rw [execR, if_neg (by omega), if_neg (by omega), if_neg (by omega), if_neg (by omega), if_neg (by omega), if_neg (by omega), if_pos h, tellR]
theorem exec_wait (c : Cx) (s : Se) (r : Ru) (rs : List Ru) (x : In) (h : x.op = 21) : execR c s r rs x = waitR c s r rs x := by
  rw [execR, if_neg (by omega), if_neg (by omega), if_neg (by omega), if_neg (by omega), if_neg (by omega), if_neg (by omega), if_neg (by omega), if_pos h, waitR]
  by_cases hE : numE (r.get x.b) ≠ 0
  · rw [if_pos hE, if_pos hE]
  · rw [if_neg hE, if_neg hE]
    cases brought c.evs (r.get x.b).n <;> rfl
theorem exec_enter (c : Cx) (s : Se) (r : Ru) (rs : List Ru) (x : In) (h : x.op = 23 ∨ x.op = 24 ∨ x.op = 25 ∨ x.op = 26) : execR c s r rs x = enterR c s r x := by
  rw [execR, if_neg (by omega), if_neg (by omega), if_neg (by omega), if_neg (by omega), if_neg (by omega), if_neg (by omega), if_neg (by omega), if_neg (by omega), enterR]
  by_cases h23 : x.op = 23
  · rw [if_pos h23, if_pos h23]
  · rw [if_neg h23, if_neg h23]
    by_cases h24 : x.op = 24
    · rw [if_pos h24, if_pos h24]
    · rw [if_neg h24, if_neg h24]
      by_cases h25 : x.op = 25
      · rw [if_pos h25, if_pos h25]
      · rw [if_neg h25, if_neg h25, if_pos (by omega)]
theorem exec_end (c : Cx) (s : Se) (r : Ru) (rs : List Ru) (x : In) (h : x.op = 27 ∨ x.op = 28 ∨ x.op = 29) : execR c s r rs x = endR s r rs x := by
  rw [execR, if_neg (by omega), if_neg (by omega), if_neg (by omega), if_neg (by omega), if_neg (by omega), if_neg (by omega), if_neg (by omega), if_neg (by omega), if_neg (by omega), if_neg (by omega), if_neg (by omega), if_neg (by omega), endR]

theorem turn_any {w0 w : World} {L : Ly} {c : Cx} {s : Se} {r : Ru} {rs : List Ru} {b : Nat} {bs : List Nat} (H : SesAt w0 w L c s) (hrs : s.rs = r :: rs) (hrb : L.rb = b :: bs) (x : In) (lv : Value) (hlv : C.IntsV w0 lv x.l) (hop : x.op = 13 ∨ x.op = 14 ∨ x.op = 15) (hA : x.op ≠ 13 → 0 ≤ x.a ∧ x.a < 16) (hA13 : x.op = 13 → x.a = 0) (hl : x.op ≠ 15 → 0 < x.l.length) (hl0 : ∀ z ∈ x.l, 0 ≤ z) :
    Calls Tryd.prog 59 #[.pointer (some ⟨b, 0, none⟩), .agg #[.int .i64 x.op, .int .i64 x.a, .int .i64 x.b, .int .i64 x.c, lv]] w fun e w' => e = .returned (.int .i64 (turnR r x).1) ∧ Turns w0 w w' L c s { s with rs := (turnR r x).2 :: rs } := by
  rcases hop with h | h | h
  · have := jump_any H hrs hrb x lv hlv h (by rw [hA13 h]; omega) (hl (by omega)) hl0
    rw [turnR, if_pos h]
    exact this
  · exact if_any H hrs hrb x lv hlv h (hA (by omega)) (hl (by omega)) hl0
  · exact table_any H hrs hrb x lv hlv h (hA (by omega)) hl0

theorem step_any {c : Cx} {K : Nat} (hc : CxOk c) {w0 w : World} {L : Ly} {n : Int} {s : Se} (hI : Inv c K (⟨-1, n⟩, s)) (H : SesAt w0 w L c s) :
    Calls Tryd.prog 40 #[.pointer (some ⟨L.sk, 0, none⟩)] w fun e w' => e = .returned (outV (stepR c s).1) ∧ Turns w0 w w' L c s (stepR c s).2 := by
  obtain ⟨r, rs, hrs, hex, hw⟩ := hI.go rfl
  simp only at hrs
  by_cases hf : s.fuel ≤ 0
  · have := step_dry H hf
    rw [stepR, if_pos hf]
    exact this
  have hf0 : 0 < s.fuel := by omega
  have hf1 : s.fuel ≤ 1000000 := hI.fuel
  have hlen : (afterFetch s r rs).told.length < 100000000 := by have := hI.told; simp only at this; show s.told.length < _; omega
  have hmade : (afterFetch s r rs).S.blocks.length + 1 < 1000000 := by have := hI.made; have := hI.kb; simp only at *; show s.S.blocks.length + 1 < _; omega
  obtain ⟨x, hx⟩ : ∃ x, r.fn[r.nx]? = some x := ⟨_, List.getElem?_eq_getElem hex.2⟩
  have hxx : r.fn.getD r.nx noIn = x := by simp [List.getD_eq_getElem?_getD, hx]
  obtain ⟨hi, -, hkl⟩ := hc.ins hex.1 hx
  have hst : stepR c s = execR c (afterFetch s r rs) { r with nx := r.nx + 1 } rs x := by
    rw [stepR, if_neg hf]
    simp only [hrs, hxx]
    rfl
  have hrg : RgOk { r with nx := r.nx + 1 } := ⟨hex.1.2.len, hex.1.2.rg, hex.1.2.fr⟩
  have hl0 : ∀ z ∈ x.l, 0 ≤ z := fun z hz => (hi.l z hz).1
  rw [hst]
  have hkn := hi.kn
  by_cases c1 : x.op = 0 ∨ x.op = 1 ∨ x.op = 2 ∨ x.op = 3 ∨ x.op = 16 ∨ x.op = 22
  · rw [exec_set _ _ _ _ _ c1]
    refine step_set H hrs hf0 hf1 hkl x hx c1 _ _ fun w' L' lv H' hlv => set_any H' rfl x lv hlv ?_ c1 hmade ?_ ?_
    · rcases c1 with h | h | h | h | h | h <;> exact in_ins hi h (by decide)
    · rintro (h | h) <;> exact in_b hi h (by decide)
    · intro h
      have := hi.b
      rw [h] at this
      exact InsOk.co this
  by_cases c2 : x.op = 4 ∨ x.op = 5 ∨ x.op = 6 ∨ x.op = 7 ∨ x.op = 17
  · rw [exec_change _ _ _ _ _ c2]
    refine step_change H hrs hf0 hf1 hkl x hx c2 _ _ fun w' L' lv H' hlv => change_any H' rfl x lv hlv ?_ c2 ?_ ?_ (hrg.get _).2 (hrg.get _).2 _ _ rfl
    · rcases c2 with h | h | h | h | h <;> exact in_ins hi h (by decide)
    · rintro (h | h | h) <;> exact in_b hi h (by decide)
    · rintro (h | h) <;> exact in_cnt hi h (by decide)
  by_cases c3 : x.op = 8 ∨ x.op = 9 ∨ x.op = 10 ∨ x.op = 11 ∨ x.op = 12
  · rw [exec_reckon _ _ _ _ _ rfl c3]
    refine step_reckon H hrs hf0 hf1 hkl x hx c3 _ _ fun w' L' b' bs' lv H' hrb hlv => reckon_any H' rfl hrb x lv hlv ?_ ?_ ?_ ?_ hl0
    · rcases c3 with h | h | h | h | h <;> exact in_ins hi h (by decide)
    · rcases c3 with h | h | h | h | h <;> exact in_b hi h (by decide)
    · rcases c3 with h | h | h | h | h <;> exact in_c hi h (by decide)
    · intro u v hfa
      have h8 : x.op = 8 ∨ x.op = 9 ∨ x.op = 10 := by
        rcases c3 with h | h | h | h | h
        · exact .inl h
        · exact .inr (.inl h)
        · exact .inr (.inr h)
        · rw [reckR, h, if_neg (by decide), if_neg (by decide), if_neg (by decide), if_pos rfl] at hfa; cases hfa
        · rw [reckR, h, if_neg (by decide), if_neg (by decide), if_neg (by decide), if_neg (by decide)] at hfa; cases hfa
      have : x.l.length = 1 := by rcases h8 with h | h | h <;> exact in_lab hi h (by decide)
      omega
  by_cases c4 : x.op = 13 ∨ x.op = 14 ∨ x.op = 15
  · rw [exec_turn _ _ _ _ _ rfl c4]
    refine step_turn H hrs hf0 hf1 hkl x hx c4 _ _ fun w' L' b' bs' lv H' hrb hlv => turn_any H' rfl hrb x lv hlv c4 ?_ ?_ ?_ hl0
    · intro hne
      rcases c4 with h | h | h
      · exact absurd h hne
      · exact in_ins hi h (by decide)
      · exact in_ins hi h (by decide)
    · intro h
      have := hi.a
      rw [h] at this
      simpa [fitsB, shp, C.tab] using this
    · intro hne
      have : x.l.length = 1 := by
        rcases c4 with h | h | h
        · exact in_lab hi h (by decide)
        · exact in_lab hi h (by decide)
        · exact absurd h hne
      omega
  by_cases c5 : x.op = 18 ∨ x.op = 19 ∨ x.op = 20
  · rw [exec_tell _ _ _ _ _ c5]
    refine step_tell H hrs hf0 hf1 hkl x hx c5 _ _ fun w' L' lv H' hlv => tell_any H' rfl hlen x lv hlv ?_ c5
    rcases c5 with h | h | h <;> exact in_ins hi h (by decide)
  by_cases c6 : x.op = 21
  · rw [exec_wait _ _ _ _ _ c6]
    exact step_wait H hrs hf0 hf1 hkl x hx c6 _ _ fun w' L' lv H' hlv => wait_any H' rfl x lv hlv (in_ins hi c6 (by decide)) (in_b hi c6 (by decide)) (WalkArith.wf_i64 (hrg.get _))
  by_cases c7 : x.op = 23 ∨ x.op = 24 ∨ x.op = 25 ∨ x.op = 26
  · rw [exec_enter _ _ _ _ _ c7]
    refine step_enter H hrs hf0 hf1 hkl x hx c7 _ _ fun w' L' lv H' hlv => ?_
    rcases c7 with h | h | h | h
    · exact enter_poll H' rfl (co_ok hc) x lv hlv (in_ins hi h (by decide)) h
    · exact enter_step H' rfl (co_ok hc) x lv hlv (in_ins hi h (by decide)) (in_b hi h (by decide)) h
    · exact enter_cancel H' rfl (co_ok hc) x lv hlv (in_ins hi h (by decide)) h
    · refine enter_call H' rfl x lv hlv (in_ins hi h (by decide)) ?_ h
      have := hi.b
      rw [h] at this
      exact InsOk.fn this
  have c8 : x.op = 27 ∨ x.op = 28 ∨ x.op = 29 := by omega
  rw [exec_end _ _ _ _ _ c8]
  exact step_end H hrs hf0 hf1 hkl x hx c8 _ _ fun w' L' lv H' hlv => end_any H' rfl x lv hlv hrg.fr.2 c8

theorem settle_any {c : Cx} {K : Nat} (hc : CxOk c) {w0 w : World} {L : Ly} {o : Out} {s : Se} (hI : Inv c K (o, s)) (k1 : o.k ≠ -1) (k4 : o.k ≠ 4) (k5 : o.k ≠ 5) (k6 : o.k ≠ 6) (hne : s.rs ≠ []) (H : SesAt w0 w L c s) :
    Calls Tryd.prog 41 #[.pointer (some ⟨L.sk, 0, none⟩), .agg #[.int .i64 o.k, .int .i64 o.n]] w fun e w' => e = .returned (outV (settleR c o s).1) ∧ Turns w0 w w' L c s (settleR c o s).2 := by
  cases hrs : s.rs with
  | nil => exact absurd hrs hne
  | cons r rs =>
    obtain ⟨hB, hnx, k, x, hk, hx, h23, h26⟩ := hI.wait k1 k4 k5 k6 r (by simp only [hrs]; simp)
    obtain ⟨hi, -, hkl⟩ := hc.ins hB hx
    have hlen : s.told.length < 100000000 := by have := hI.told; simp only at this; omega
    have hl0 : ∀ z ∈ x.l, 0 ≤ z := fun z hz => (hi.l z hz).1
    by_cases c26 : x.op = 26
    · exact settle_call H hrs k hk hkl x hx o c26
    by_cases c25 : x.op = 25
    · exact settle_cancel H hrs k hk hkl x hx o c25 (in_ins hi c25 (by decide))
    by_cases c3 : o.k = 3
    · refine settle_aborted H hrs k hk hkl x hx o c26 c25 c3 ?_ hl0
      have : x.op = 23 ∨ x.op = 24 := by omega
      have : x.l.length = 1 := by rcases this with h | h <;> exact in_lab hi h (by decide)
      omega
    by_cases c24 : x.op = 24
    · exact settle_stepped H hrs k hk hkl x hx o c24 c3 (in_ins hi c24 (by decide)) hlen
    by_cases c2 : o.k = 2
    · exact settle_done H hrs k hk hkl x hx o c26 c25 c24 c2
    · exact settle_leave H hrs k hk hkl x hx o c26 c25 c24 c3 c2

theorem run_any {c : Cx} {K : Nat} (hc : CxOk c) {w0 w : World} {L : Ly} {o : Out} {s : Se} (hI : Inv c K (o, s)) (H : SesAt w0 w L c s) :
    Calls Tryd.prog 25 #[.pointer (some ⟨L.sk, 0, none⟩), .agg #[.int .i64 o.k, .int .i64 o.n]] w fun e w' => ∃ z, Thr c (o, s) z ∧ Inv c K z ∧ e = .returned (outV z.1) ∧ Turns w0 w w' L c s z.2 :=
  through_any H o (Inv c K) mu hI (fun _ _ _ _ hI' H' => step_any hc hI' H') (fun _ _ _ _ hI' k1 k4 k5 k6 hne H' => settle_any hc hI' k1 k4 k5 k6 hne H') (fun q q' => thr_inv hc q q')
end Go.Proofs.YtgpkhdccchpljaaDoor
