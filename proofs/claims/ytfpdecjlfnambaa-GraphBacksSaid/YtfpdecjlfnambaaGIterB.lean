/-
  Graph: what hands over one by one: each, along, slices.Values of ints; and what makes them. Conditions: what they read lies in boxes, and stays there.
-/
import Derived.Test.YtfpdecjlfnambaaGIter
namespace Go.Proofs.Ytfpdecjlfnambaa
open Go Go.RowKit Go.Shelf

attribute [local go_sem] Oper.semAt_some

/-- The places of a row that are so. -/
def ones (c : List Bool) : List Nat := (List.range c.length).filter fun i => c[i]?.getD false
theorem ones_lt {c : List Bool} {i : Nat} (h : i ∈ ones c) : i < c.length ∧ c[i]?.getD false = true := by
  simp only [ones, List.mem_filter, List.mem_range] at h
  exact h
def onesTo (c : List Bool) (k : Nat) : List Nat := (List.range k).filter fun i => c[i]?.getD false
theorem onesTo_succ (c : List Bool) (k : Nat) : onesTo c (k + 1) = onesTo c k ++ (if c[k]?.getD false then [k] else []) := by
  simp only [onesTo, List.range_succ, List.filter_append]
  congr 1
  by_cases h : c[k]?.getD false = true
  · simp [h]
  · simp [h]
theorem onesTo_at (c : List Bool) (k : Nat) (h : k < c.length) (hp : c[k]?.getD false = true) : ∃ hk : (onesTo c k).length < (ones c).length, (ones c)[(onesTo c k).length] = k := by
  obtain ⟨d, hd⟩ : ∃ d, c.length = k + 1 + d := ⟨c.length - (k + 1), by omega⟩
  have key : ∀ d, ∃ r, onesTo c (k + 1 + d) = onesTo c k ++ (k :: r) := by
    intro d
    induction d with
    | zero => exact ⟨[], by rw [Nat.add_zero, onesTo_succ, if_pos hp]⟩
    | succ d ih =>
      obtain ⟨r, hr⟩ := ih
      exact ⟨r ++ (if c[k + 1 + d]?.getD false then [k + 1 + d] else []), by rw [← Nat.add_assoc, onesTo_succ, hr]; simp⟩
  obtain ⟨r, hr⟩ := key d
  have e : ones c = onesTo c k ++ (k :: r) := by rw [← hr, ← hd]; rfl
  have hk : (onesTo c k).length < (ones c).length := by rw [e]; simp
  refine ⟨hk, ?_⟩
  have e2 : (ones c)[(onesTo c k).length]? = some k := by rw [e]; simp
  rw [List.getElem?_eq_getElem hk] at e2
  exact Option.some.inj e2

/-- A row of bools in a block of its own. -/
abbrev bC (c : List Bool) : List Value := c.map Value.bool
/-- What each reads. -/
def EachD (bP f : Nat) (bc cap : Nat) (c : List Bool) (ex : List Value) (w : World) : Prop :=
  Bx w bP 73 [.pointer (some ⟨f, 0, none⟩)] ∧ (∃ fl, Bx w f 79 fl ∧ fl[6]? = some (.slice (some ⟨bc, 0, none⟩) c.length cap)) ∧ Bx w bc 4 (bC c ++ ex)

theorem bC_at {c : List Bool} {ex : List Value} {k : Nat} (h : k < c.length) : (bC c ++ ex)[k]? = some (.bool (c[k]?.getD false)) := by
  rw [List.getElem?_append_left (by simpa using h)]
  simp [List.getElem?_eq_getElem h]

set_option maxRecDepth 100000 in
set_option maxHeartbeats 4000000 in
theorem each_giv (bP f bc cap : Nat) (c : List Bool) (ex : List Value) (hs : c.length ≤ 1000) : Giv Try.prog 59 #[.pointer (some ⟨bP, 0, none⟩)] (fun (x : Nat) => #[Value.int .i64 (x : Int)]) (EachD bP f bc cap c ex) (ones c) := by
  intro l J W hJD hY h0
  obtain ⟨hb1, ⟨fl, hb2, hb3⟩, hb4⟩ := hJD 0 W h0
  obtain ⟨m, hm⟩ : ∃ m, m = c.length := ⟨_, rfl⟩
  have hs2 : m ≤ 1000 := by omega
  have c1 := hb1.cell 0
  have c2 := hb2.cell 6
  rw [hb3] at c2
  simp at c1
  have hJ0 : J (onesTo c 0).length W := by simpa [onesTo] using h0
  rw [← hm] at c2
  have HY := Lib.hid hY
  have HJ := Lib.hid hJD
  have HM := Lib.hid hm
  clear hb1 hb2 hb3 hb4 hs h0 hm hY hJD
  refine callsIn_of_wp Try.func59 rfl trivial ?_
  simp only [Try.ntmps59, List.size_toArray, List.length_cons, List.length_nil, Nat.reduceAdd, Nat.reduceSub, Array.replicate_succ, Array.replicate_zero, List.push_toArray, List.append_toArray, List.nil_append, List.cons_append]
  gi_wp2
  have hfn : ∀ f, Fence.wide.fn f = True := fun _ => rfl
  have hdp : Fence.wide.depth = none := rfl
  gi_loopw [10] (fun i wr => ∃ k : Nat, k ≤ m ∧ i = .int .i64 k ∧ J (onesTo c k).length wr)
    (fun i _ => m - (intOf i).toNat)
  case atStart => exact ⟨0, Nat.zero_le _, rfl, hJ0⟩
  case round =>
    clear hJ0 c1 c2
    obtain ⟨k, hk, rfl, hJk⟩ := hrel
    obtain ⟨d1, d2, d3⟩ := HJ.out _ _ hJk
    by_cases hlt : k < m
    · have e3 := d3.cell k
      rw [bC_at (by rw [← HM.out]; exact hlt)] at e3
      obtain ⟨x, hx⟩ : ∃ x, x = c[k]?.getD false := ⟨_, rfl⟩
      rw [← hx] at e3
      have HX := Lib.hid hx
      clear d1 d2 d3 hx
      cases x with
      | true =>
        obtain ⟨hk1, hk2⟩ := onesTo_at c k (by rw [← HM.out]; exact hlt) HX.out.symm
        obtain ⟨fn, tmps, assign, body, hy, hR⟩ := HY.out _ hk1 wr hJk
        rw [hk2] at hy
        have HR := Lib.hid hR
        clear hR hk2 hJk
        gi_wp2
        refine HR.out.mono ?_
        rintro e W3 ⟨rfl, hJ3⟩
        clear HR hy
        gi_wp2
        go_roundw
        case rel => exact ⟨k + 1, by omega, by simp, by rw [onesTo_succ, ← HX.out]; simpa using hJ3⟩
        case measure => simp [intOf]; omega
      | false =>
        gi_wp2
        go_roundw
        case rel => exact ⟨k + 1, by omega, by simp, by rw [onesTo_succ, ← HX.out]; simpa using hJk⟩
        case measure => simp [intOf]; omega
    · obtain rfl : k = m := by omega
      gi_wp2
      go_end0
      refine ⟨⟨_, rfl⟩, ?_⟩
      rw [HM.out] at hJk
      exact hJk

/-- The steps of a block, and its end, forth or back. -/
def alongL (back : Bool) (s : Nat) : List Nat := (List.range (s + 1)).map fun i => if back then s - i else i
/-- What along reads. -/
def AlongD (bS bP f s : Nat) (back : Bool) (w : World) : Prop :=
  Bx w bS 3 [.int .i64 (s : Int)] ∧ Bx w bP 73 [.pointer (some ⟨f, 0, none⟩)] ∧ (∃ fl, Bx w f 79 fl ∧ fl[7]? = some (.bool back))

set_option maxRecDepth 100000 in
set_option maxHeartbeats 4000000 in
theorem along_giv (bS bP f s : Nat) (back : Bool) (hs : s ≤ 1000) : Giv Try.prog 60 #[.pointer (some ⟨bS, 0, none⟩), .pointer (some ⟨bP, 0, none⟩)] (fun (x : Nat) => #[Value.int .i64 (x : Int)]) (AlongD bS bP f s back) (alongL back s) := by
  intro l J W hJD hY h0
  obtain ⟨hb1, -, -⟩ := hJD 0 W h0
  have c1 := hb1.cell 0
  simp at c1
  have HY := Lib.hid hY
  have HJ := Lib.hid hJD
  clear hb1 hY hJD
  refine callsIn_of_wp Try.func60 rfl trivial ?_
  simp only [Try.ntmps60, List.size_toArray, List.length_cons, List.length_nil, Nat.reduceAdd, Nat.reduceSub, Array.replicate_succ, Array.replicate_zero, List.push_toArray, List.append_toArray, List.nil_append, List.cons_append]
  gi_wp2
  have hfn : ∀ f, Fence.wide.fn f = True := fun _ => rfl
  have hdp : Fence.wide.depth = none := rfl
  gi_loopw [7] (fun i wr => ∃ k : Nat, k ≤ s + 1 ∧ i = .int .i64 k ∧ J k wr)
    (fun i _ => s + 1 - (intOf i).toNat)
  case atStart => exact ⟨0, Nat.zero_le _, rfl, h0⟩
  case round =>
    clear h0 c1
    obtain ⟨k, hk, rfl, hJk⟩ := hrel
    obtain ⟨d1, d2, ⟨fl, d3, d4⟩⟩ := HJ.out _ _ hJk
    by_cases hlt : k < s + 1
    · have hlen : k < (alongL back s).length := by simp [alongL]; exact hlt
      obtain ⟨fn, tmps, assign, body, hy, hR⟩ := HY.out _ hlen wr hJk
      have e1 := d1.cell 0
      have e2 := d2.cell 0
      have e3 := d3.cell 7
      rw [d4] at e3
      simp at e1 e2
      have HR := Lib.hid hR
      clear d1 d2 d3 d4 hR hJk
      cases back with
      | true =>
        rw [show ((alongL true s)[k] : Nat) = s - k by simp [alongL], show ((s - k : Nat) : Int) = (s : Int) - (k : Int) by omega] at hy
        gi_wp2
        refine HR.out.mono ?_
        rintro e W3 ⟨rfl, hJ3⟩
        clear HR hy
        gi_wp2
        go_roundw
        case rel => exact ⟨k + 1, by omega, by simp, hJ3⟩
        case measure => simp [intOf]; omega
      | false =>
        rw [show ((alongL false s)[k] : Nat) = k by simp [alongL]] at hy
        gi_wp2
        refine HR.out.mono ?_
        rintro e W3 ⟨rfl, hJ3⟩
        clear HR hy
        gi_wp2
        go_roundw
        case rel => exact ⟨k + 1, by omega, by simp, hJ3⟩
        case measure => simp [intOf]; omega
    · obtain rfl : k = s + 1 := by omega
      clear d1 d2 d3 d4
      gi_wp2
      go_end0
      refine ⟨⟨_, rfl⟩, ?_⟩
      rw [show (alongL back s).length = s + 1 by simp [alongL]]
      exact hJk

/-- A row of places in a block of its own; or none. -/
abbrev nC (l : List Nat) : List Value := l.map fun (x : Nat) => Value.int .i64 (x : Int)
theorem nC_at {l : List Nat} {ex : List Value} {k : Nat} (h : k < l.length) : (nC l ++ ex)[k]? = some (.int .i64 (l[k] : Int)) := by
  rw [List.getElem?_append_left (by simpa using h)]
  simp [List.getElem?_eq_getElem h]
/-- The slice value v holds the places l. -/
def NRow (w : World) (v : Value) (l : List Nat) : Prop := (v = .slice none 0 0 ∧ l = []) ∨ ∃ b cap ex, v = .slice (some ⟨b, 0, none⟩) l.length cap ∧ Bx w b 3 (nC l ++ ex)
/-- What slices.Values reads. -/
def ValsD (bV : Nat) (v : Value) (l : List Nat) (w : World) : Prop := Bx w bV 42 [v] ∧ ((v = .slice none 0 0 ∧ l = []))
def ValsD2 (bV b cap : Nat) (l : List Nat) (ex : List Value) (w : World) : Prop := Bx w bV 42 [.slice (some ⟨b, 0, none⟩) l.length cap] ∧ Bx w b 3 (nC l ++ ex)

set_option maxRecDepth 100000 in
set_option maxHeartbeats 4000000 in
theorem vals_giv (bV b cap : Nat) (l : List Nat) (ex : List Value) (hs : l.length ≤ 1000) : Giv Try.prog 55 #[.pointer (some ⟨bV, 0, none⟩)] (fun (x : Nat) => #[Value.int .i64 (x : Int)]) (ValsD2 bV b cap l ex) l := by
  intro lo J W hJD hY h0
  obtain ⟨hb1, -⟩ := hJD 0 W h0
  obtain ⟨m, hm⟩ : ∃ m, m = l.length := ⟨_, rfl⟩
  have hs2 : m ≤ 1000 := by omega
  have c1 := hb1.cell 0
  simp at c1
  rw [← hm] at c1
  have HY := Lib.hid hY
  have HJ := Lib.hid hJD
  have HM := Lib.hid hm
  clear hb1 hY hJD hm hs
  refine callsIn_of_wp Try.func55 rfl trivial ?_
  simp only [Try.ntmps55, List.size_toArray, List.length_cons, List.length_nil, Nat.reduceAdd, Nat.reduceSub, Array.replicate_succ, Array.replicate_zero, List.push_toArray, List.append_toArray, List.nil_append, List.cons_append]
  gi_wp2
  have hfn : ∀ f, Fence.wide.fn f = True := fun _ => rfl
  have hdp : Fence.wide.depth = none := rfl
  gi_loopw [7] (fun i wr => ∃ k : Nat, k ≤ m ∧ i = .int .i64 k ∧ J k wr)
    (fun i _ => m - (intOf i).toNat)
  case atStart => exact ⟨0, Nat.zero_le _, rfl, h0⟩
  case round =>
    clear h0 c1
    obtain ⟨k, hk, rfl, hJk⟩ := hrel
    obtain ⟨d1, d2⟩ := HJ.out _ _ hJk
    by_cases hlt : k < m
    · have hlen : k < l.length := by rw [← HM.out]; exact hlt
      obtain ⟨fn, tmps, assign, body, hy, hR⟩ := HY.out _ hlen wr hJk
      have e1 := d2.cell k
      rw [nC_at hlen] at e1
      obtain ⟨x, hx⟩ : ∃ x, x = (l[k] : Nat) := ⟨_, rfl⟩
      rw [← hx] at e1 hy
      have HR := Lib.hid hR
      clear d1 d2 hR hJk hx
      gi_wp2
      refine HR.out.mono ?_
      rintro e W3 ⟨rfl, hJ3⟩
      clear HR hy
      gi_wp2
      go_roundw
      case rel => exact ⟨k + 1, by omega, by simp, hJ3⟩
      case measure => simp [intOf]; omega
    · obtain rfl : k = m := by omega
      clear d1 d2
      gi_wp2
      go_end0
      refine ⟨⟨_, rfl⟩, ?_⟩
      rw [HM.out] at hJk
      exact hJk

set_option maxRecDepth 100000 in
set_option maxHeartbeats 4000000 in
theorem vals_nil (bV : Nat) : Giv Try.prog 55 #[.pointer (some ⟨bV, 0, none⟩)] (fun (x : Nat) => #[Value.int .i64 (x : Int)]) (fun w => Bx w bV 42 [.slice none 0 0]) [] := by
  intro lo J W hJD hY h0
  have c1 := (hJD 0 W h0).cell 0
  simp at c1
  clear hY
  have HJ := Lib.hid hJD
  clear hJD
  refine callsIn_of_wp Try.func55 rfl trivial ?_
  simp only [Try.ntmps55, List.size_toArray, List.length_cons, List.length_nil, Nat.reduceAdd, Nat.reduceSub, Array.replicate_succ, Array.replicate_zero, List.push_toArray, List.append_toArray, List.nil_append, List.cons_append]
  gi_wp2
  have hfn : ∀ f, Fence.wide.fn f = True := fun _ => rfl
  have hdp : Fence.wide.depth = none := rfl
  gi_loopw [7] (fun i wr => i = .int .i64 0 ∧ J 0 wr) (fun _ _ => 0)
  case atStart => exact ⟨rfl, h0⟩
  case round =>
    obtain ⟨rfl, hJk⟩ := hrel
    gi_wp2
    go_end0
    exact ⟨⟨_, rfl⟩, hJk⟩

end Go.Proofs.Ytfpdecjlfnambaa
