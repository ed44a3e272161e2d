/-
  The walks of (*mem.Memory).span and stored. Conditions: the memory lies in the heap.
-/
import Derived.Test.YtbcockaleegicaaFind
namespace Go.Proofs.Ytbcockaleegicaa
open Go.RowKit

theorem RepAt.alloc {w : World} {mb : Nat} {lm : Option Nat} {loc : Nat → Nat} {S : MS} (R : RepAt w mb lm loc S) (o : Obj) : RepAt (w.alloc o) mb lm loc S :=
  R.keep fun b hb => Below.heap_alloc w o b (R.lt b hb)
theorem RepAt.below {w w' : World} {mb : Nat} {lm : Option Nat} {loc : Nat → Nat} {S : MS} (R : RepAt w mb lm loc S) (h : Below w.heap.size w w') : RepAt w' mb lm loc S :=
  R.keep fun b hb => h.block b (R.lt b hb)
theorem alloc_cell (w : World) (c : Array Value) (t : TypeId) (j : Nat) (v : Value) (hv : c[j]? = some v) : (w.alloc (.cells c t)).cell? ⟨w.heap.size, j, none⟩ = some v := by
  simp only [World.cell?]
  rw [heap_alloc_new]
  simpa using hv
theorem box_cell {w w1 : World} {c : Array Value} {t : TypeId} (hb : Below (w.alloc (.cells c t)).heap.size (w.alloc (.cells c t)) w1) (j : Nat) (v : Value) (hv : c[j]? = some v) : w1.cell? ⟨w.heap.size, j, none⟩ = some v :=
  (hb.cell (p := ⟨w.heap.size, j, none⟩) (by simp)).trans (alloc_cell w c t j v hv)
theorem box_below {w w1 : World} {o : Obj} (hb : Below (w.alloc o).heap.size (w.alloc o) w1) : Below w.heap.size w w1 :=
  ((Below.refl _ _).alloc (Nat.le_refl _) _).trans (hb.mono (by simp))

set_option maxHeartbeats 400000 in
theorem span_err {w : World} {mb : Nat} {lm : Option Nat} {loc : Nat → Nat} {S : MS} (R : RepAt w mb lm loc S) (b : Bool) (a n c er : Int) (he : findE S b a = er) (hne : er ≠ 0) :
    Calls Try.prog 37 #[.pointer (some ⟨mb, 0, none⟩), .agg #[.bool b, .int .i64 a, .int .i64 n], .int .i64 c] w fun e w' =>
      e = .returned (.tuple #[.slice none 0 0, .int .i64 er]) ∧ Below w.heap.size w w' := by
  have hd : (er == 0) = false := by simpa using hne
  have hd' : (er != 0) = true := by simpa using hne
  go_enter Try.func37, Try.ntmps37
  go_wp2_with fail
  refine (find_err (R.alloc _) b a n er he hne).mono ?_
  rintro e w1 ⟨rfl, hb⟩
  go_wp2
  go_returns
  exact ⟨rfl, box_below hb⟩

/-- what span hands back -/
def SpanIs (loc : Nat → Nat) (k n c len : Nat) (e : Ending) : Prop := ∃ ad, e = .returned (.tuple #[.slice (some ad) c (len - n), .int .i64 0]) ∧ (0 < c → ad = ⟨loc k, n * 4, none⟩)

set_option maxHeartbeats 400000 in
theorem span_ok {w : World} {mb : Nat} {lm : Option Nat} {loc : Nat → Nat} {S : MS} (R : RepAt w mb lm loc S) (k : Nat) (l : List Cl) (hl : S.at k = some l) (n c : Nat) (hnc : n + c ≤ l.length) (hll : l.length ≤ 1048576) :
    Calls Try.prog 37 #[.pointer (some ⟨mb, 0, none⟩), .agg #[.bool true, .int .i64 ((k : Int) + 1), .int .i64 (n : Int)], .int .i64 (c : Int)] w fun e w' =>
      SpanIs loc k n c l.length e ∧ Below w.heap.size w w' := by
  have hd : decide ((n : Int) < 0) = false := by simp
  have hd' : decide ((l.length : Int) - n < c) = false := by simp; omega
  go_enter Try.func37, Try.ntmps37
  go_wp2_with fail
  refine (find_ok (R.alloc _) k l hl n).mono ?_
  rintro e w1 ⟨rfl, hb⟩
  have q2 := box_cell hb 2 _ rfl
  go_wp2
  · go_returns
    exact ⟨⟨⟨loc k, 0, none⟩, by simp, fun h => by omega⟩, box_below hb⟩
  · go_returns
    exact ⟨⟨⟨loc k, n * 4, none⟩, by simp, fun _ => rfl⟩, box_below hb⟩

set_option maxHeartbeats 400000 in
theorem span_range {w : World} {mb : Nat} {lm : Option Nat} {loc : Nat → Nat} {S : MS} (R : RepAt w mb lm loc S) (k : Nat) (l : List Cl) (hl : S.at k = some l) (n c : Int) (hnc : n < 0 ∨ (l.length : Int) < n + c) (hll : l.length ≤ 1048576)
    (_hn : n ≤ 9223372036854775807) :
    Calls Try.prog 37 #[.pointer (some ⟨mb, 0, none⟩), .agg #[.bool true, .int .i64 ((k : Int) + 1), .int .i64 n], .int .i64 c] w fun e w' =>
      e = .returned (.tuple #[.slice none 0 0, .int .i64 13]) ∧ Below w.heap.size w w' := by
  by_cases h0 : n < 0
  · have hd : decide (n < 0) = true := by simpa using h0
    go_enter Try.func37, Try.ntmps37
    go_wp2_with fail
    refine (find_ok (R.alloc _) k l hl n).mono ?_
    rintro e w1 ⟨rfl, hb⟩
    have q2 := box_cell hb 2 _ rfl
    go_wp2
    go_returns
    exact ⟨rfl, box_below hb⟩
  · have hd : decide (n < 0) = false := by simpa using h0
    have hd' : decide ((l.length : Int) - n < c) = true := by simp; omega
    go_enter Try.func37, Try.ntmps37
    go_wp2_with fail
    refine (find_ok (R.alloc _) k l hl n).mono ?_
    rintro e w1 ⟨rfl, hb⟩
    have q2 := box_cell hb 2 _ rfl
    go_wp2
    go_returns
    exact ⟨rfl, box_below hb⟩

def scanE : List Cl → Nat → Int
  | _, 0 => 0
  | [], _ + 1 => 13
  | none :: _, _ + 1 => 14
  | some _ :: l, c + 1 => scanE l c

theorem scanE_drop (l : List Cl) (n c i : Nat) (hi : i < c) : scanE (l.drop (n + i)) (c - i) = match l[n + i]? with | none => 13 | some none => 14 | some (some _) => scanE (l.drop (n + (i + 1))) (c - (i + 1)) := by
  obtain ⟨m, hm⟩ : ∃ m, c - i = m + 1 := ⟨c - i - 1, by omega⟩
  rw [hm, show c - (i + 1) = m from by omega]
  by_cases hl : n + i < l.length
  · rw [List.drop_eq_getElem_cons hl, List.getElem?_eq_getElem hl]
    cases l[n + i] <;> rfl
  · rw [List.drop_eq_nil_of_le (by omega), List.getElem?_eq_none (by omega)]
    rfl

theorem row_cell {w : World} {b : Nat} {l : List Cl} (h : w.heap[b]? = some (.cells (rowv l).toArray 69)) (i j : Nat) (c : Cl) (hc : l[i]? = some c) (hj : j < 4) (v : Value) (hv : (cv c)[j]? = some v) (o : Nat) (ho : o = 4 * i + j) : w.cell? ⟨b, o, none⟩ = some v := by
  subst ho
  simp only [World.cell?, h]
  simp [rowv_get l i j c hc hj, hv]

set_option maxHeartbeats 400000 in
theorem stored_zero (mb : Nat) (b : Bool) (a n : Int) (w : World) :
    Calls Try.prog 35 #[.pointer (some ⟨mb, 0, none⟩), .agg #[.bool b, .int .i64 a, .int .i64 n], .int .i64 0] w fun e w' =>
      e = .returned (.tuple #[.slice none 0 0, .int .i64 0]) ∧ Below w.heap.size w w' := by
  go_enter Try.func35, Try.ntmps35
  go_wp2
  go_returns
  exact ⟨rfl, by go_grown⟩

set_option maxHeartbeats 400000 in
theorem stored_err {w : World} {mb : Nat} {lm : Option Nat} {loc : Nat → Nat} {S : MS} (R : RepAt w mb lm loc S) (b : Bool) (a n c er : Int) (he : findE S b a = er) (hne : er ≠ 0) (hc : c ≠ 0) :
    Calls Try.prog 35 #[.pointer (some ⟨mb, 0, none⟩), .agg #[.bool b, .int .i64 a, .int .i64 n], .int .i64 c] w fun e w' =>
      e = .returned (.tuple #[.slice none 0 0, .int .i64 er]) ∧ Below w.heap.size w w' := by
  have hd : (er == 0) = false := by simpa using hne
  have hd' : (er != 0) = true := by simpa using hne
  have hd2 : (c == 0) = false := by simpa using hc
  go_enter Try.func35, Try.ntmps35
  go_wp2_with fail
  refine (find_err (R.alloc _) b a n er he hne).mono ?_
  rintro e w1 ⟨rfl, hb⟩
  go_wp2
  go_returns
  exact ⟨rfl, box_below hb⟩

set_option maxHeartbeats 400000 in
theorem stored_range {w : World} {mb : Nat} {lm : Option Nat} {loc : Nat → Nat} {S : MS} (R : RepAt w mb lm loc S) (k : Nat) (l : List Cl) (hl : S.at k = some l) (n c : Int) (hn : n < 0 ∨ (l.length : Int) ≤ n) (hc : c ≠ 0) :
    Calls Try.prog 35 #[.pointer (some ⟨mb, 0, none⟩), .agg #[.bool true, .int .i64 ((k : Int) + 1), .int .i64 n], .int .i64 c] w fun e w' =>
      e = .returned (.tuple #[.slice none 0 0, .int .i64 13]) ∧ Below w.heap.size w w' := by
  have hd2 : (c == 0) = false := by simpa using hc
  by_cases h0 : n < 0
  · have hd : decide (n < 0) = true := by simpa using h0
    go_enter Try.func35, Try.ntmps35
    go_wp2_with fail
    refine (find_ok (R.alloc _) k l hl n).mono ?_
    rintro e w1 ⟨rfl, hb⟩
    have q2 := box_cell hb 2 _ rfl
    go_wp2
    go_returns
    exact ⟨rfl, box_below hb⟩
  · have hd : decide (n < 0) = false := by simpa using h0
    have hd' : decide ((l.length : Int) ≤ n) = true := by simp; omega
    go_enter Try.func35, Try.ntmps35
    go_wp2_with fail
    refine (find_ok (R.alloc _) k l hl n).mono ?_
    rintro e w1 ⟨rfl, hb⟩
    have q2 := box_cell hb 2 _ rfl
    go_wp2
    go_returns
    exact ⟨rfl, box_below hb⟩

/-- what stored hands back -/
def StoredIs (loc : Nat → Nat) (k n c len : Nat) (er : Int) (e : Ending) : Prop :=
  e = .returned (if er = 0 then .tuple #[.slice (some ⟨loc k, n * 4, none⟩) c (len - n), .int .i64 0] else .tuple #[.slice none 0 0, .int .i64 er])

theorem StoredIs.ok {loc : Nat → Nat} {k n c len : Nat} {er : Int} (h : er = 0) : StoredIs loc k n c len er (.returned (.tuple #[.slice (some ⟨loc k, n * 4, none⟩) c (len - n), .int .i64 0])) := by
  subst h; rfl
theorem StoredIs.err {loc : Nat → Nat} {k n c len : Nat} {er e0 : Int} (h : er = e0) (hne : e0 ≠ 0) : StoredIs loc k n c len er (.returned (.tuple #[.slice none 0 0, .int .i64 e0])) := by
  subst h; unfold StoredIs; rw [if_neg hne]

set_option maxHeartbeats 400000 in
theorem stored_scan {w : World} {mb : Nat} {lm : Option Nat} {loc : Nat → Nat} {S : MS} (R : RepAt w mb lm loc S) (k : Nat) (l : List Cl) (hl : S.at k = some l) (n c : Nat) (hn : n < l.length) (hc : 0 < c) (hc' : c < 9223372036854775807) (_hll : l.length ≤ 1048576) :
    Calls Try.prog 35 #[.pointer (some ⟨mb, 0, none⟩), .agg #[.bool true, .int .i64 ((k : Int) + 1), .int .i64 (n : Int)], .int .i64 (c : Int)] w fun e w' =>
      StoredIs loc k n c l.length (scanE (l.drop n) c) e ∧ Below w.heap.size w w' := by
  have hd2 : ((c : Int) == 0) = false := by simp; omega
  have hd : decide ((n : Int) < 0) = false := by simp
  have hd' : decide ((l.length : Int) ≤ n) = false := by simp; omega
  have hcap : ¬ l.length = n := by omega
  go_enter Try.func35, Try.ntmps35
  go_wp2_with fail
  refine (find_ok (R.alloc _) k l hl n).mono ?_
  rintro e w1 ⟨rfl, hb⟩
  have hrow := ((R.alloc _).below hb).blk k l hl
  have q2 := box_cell hb 2 _ rfl
  have HR := Lib.hid hrow
  clear hrow
  go_wp2
  go_loop [10, 37] (fun _ i => ∃ j : Nat, j ≤ c ∧ n + j ≤ l.length ∧ i = .int .i64 j ∧ scanE (l.drop n) c = scanE (l.drop (n + j)) (c - j)) (fun _ i => c - (intOf i).toNat)
  case atStart => exact ⟨0, by omega, by omega, rfl, rfl⟩
  case round =>
    obtain ⟨j, hj, hjn, rfl, hs⟩ := hrel
    have HS := Lib.hid hs
    clear hs
    by_cases hjc : j < c
    · have t1 : decide ((j : Int) < c) = true := by simpa using hjc
      have HD := Lib.hid (scanE_drop l n c j hjc)
      by_cases hjm : n + j < l.length
      · have t2 : ((j : Int) == ((l.length - n : Nat) : Int)) = false := by simp; omega
        have t3 : (j : Int) < ((l.length - n : Nat) : Int) := by omega
        have t3' : j < l.length - n := by omega
        obtain ⟨x, hx⟩ : ∃ x, l[n + j]? = some x := ⟨_, List.getElem?_eq_getElem hjm⟩
        have HX := Lib.hid hx
        clear hx
        cases x with
        | none =>
          have q3 := row_cell HR.out (n + j) 3 _ HX.out (by omega) (.bool false) rfl (n * 4 + j * 4 + 3) (by omega)
          go_wp2
          go_returns
          refine ⟨StoredIs.err ?_ (by decide), box_below hb⟩
          rw [HS.out, HD.out, HX.out]
        | some x =>
          have q3 := row_cell HR.out (n + j) 3 _ HX.out (by omega) (.bool true) rfl (n * 4 + j * 4 + 3) (by omega)
          go_wp2
          go_round
          case rel => exact ⟨j + 1, by omega, by omega, by go_num, by rw [HS.out, HD.out, HX.out]⟩
          case measure => simp [intOf]; omega
      · have t2 : ((j : Int) == ((l.length - n : Nat) : Int)) = true := by simp; omega
        go_wp2
        go_returns
        refine ⟨StoredIs.err ?_ (by decide), box_below hb⟩
        rw [HS.out, HD.out, List.getElem?_eq_none (by omega)]
    · have t1 : decide ((j : Int) < c) = false := by simpa using hjc
      go_wp2
      go_returns
      refine ⟨StoredIs.ok ?_, box_below hb⟩
      rw [HS.out, show c - j = 0 by omega]
      cases List.drop (n + j) l <;> rfl
end Go.Proofs.Ytbcockaleegicaa
