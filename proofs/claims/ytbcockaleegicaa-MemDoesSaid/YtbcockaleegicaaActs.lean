/-
  A slice of acts, and small. No conditions: lemmas.
-/
import Derived.Test.YtbcockaleegicaaGen
import Derived.Test.YtbcockaleegicaaClearP
import Derived.Test.YtbcockaleegicaaArgs
namespace Go.Proofs.Ytbcockaleegicaa
open Go.RowKit Go.ChangeShapes Go.WideShapes Go.ChangeAt

/-- an act -/
structure Ac where
  k : Int
  n : Int
  p : Wd
  q : Wd

def Ac.wf (x : Ac) : Prop := (-9223372036854775808 ≤ x.k ∧ x.k ≤ 9223372036854775807) ∧ (-9223372036854775808 ≤ x.n ∧ x.n ≤ 9223372036854775807) ∧ (-9223372036854775808 ≤ x.p.n ∧ x.p.n ≤ 9223372036854775807) ∧ (-9223372036854775808 ≤ x.q.n ∧ x.q.n ≤ 9223372036854775807)

def ActAt (w : World) (b o : Nat) (x : Ac) : Prop :=
  w.cell? ⟨b, o, none⟩ = some (.int .i64 x.k) ∧ w.cell? ⟨b, o + 1, none⟩ = some (.int .i64 x.n) ∧ w.cell? ⟨b, o + 2, none⟩ = some (.bool x.p.p) ∧ w.cell? ⟨b, o + 3, none⟩ = some (.int .i64 x.p.a) ∧
    w.cell? ⟨b, o + 4, none⟩ = some (.int .i64 x.p.n) ∧ w.cell? ⟨b, o + 5, none⟩ = some (.bool x.q.p) ∧ w.cell? ⟨b, o + 6, none⟩ = some (.int .i64 x.q.a) ∧ w.cell? ⟨b, o + 7, none⟩ = some (.int .i64 x.q.n)
def ActsAt (w : World) (b off : Nat) (as_ : List Ac) : Prop := ∀ i x, as_[i]? = some x → ActAt w b (off + i * 8) x ∧ x.wf

theorem act_cells {H : Type} {enc : TypeId × Value → H} {W : World} {n : Nat} {cs : List Value} {x : DataW H × List MemPlace} (hl : cs.length = 8) (h : DataW.trod enc Try.prog W 0 (fun _ => true) true n 32 cs = some x) :
    ∃ y : Ac, cs = [.int .i64 y.k, .int .i64 y.n, .bool y.p.p, .int .i64 y.p.a, .int .i64 y.p.n, .bool y.q.p, .int .i64 y.q.a, .int .i64 y.q.n] ∧ y.wf := by
  obtain ⟨xs, m, _, _, _, hlen, hf⟩ := DataW.trod_struct Try.underlying32 h
  have k3 : Try.prog.cellsOf 3 = 1 := by kernel_rfl
  have k30 : Try.prog.cellsOf 30 = 3 := by kernel_rfl
  match cs, hl with
  | [c0, c1, c2, c3, c4, c5, c6, c7], _ =>
    match xs, hlen with
    | [y0, y1, y2, y3], _ =>
      have h0 := hf 0 _ rfl
      have h1 := hf 1 _ rfl
      have h2 := hf 2 _ rfl
      have h3 := hf 3 _ rfl
      simp [k3] at h0 h1
      simp [k30] at h2 h3
      obtain ⟨a0, e0, _, w0⟩ := DataW.trod_int Try.underlying3 h0
      obtain ⟨a1, e1, _, w1⟩ := DataW.trod_int Try.underlying3 h1
      obtain ⟨b2, a2, n2, e2, _, wn2⟩ := word_cells rfl h2
      obtain ⟨b3, a3, n3, e3, _, wn3⟩ := word_cells rfl h3
      simp at e0 e1 e2 e3
      obtain ⟨rfl, rfl, rfl⟩ := e2
      obtain ⟨rfl, rfl, rfl⟩ := e3
      subst e0 e1
      exact ⟨⟨a0, a1, ⟨b2, a2, n2⟩, ⟨b3, a3, n3⟩⟩, rfl, i64_bounds w0, i64_bounds w1, i64_bounds wn2, i64_bounds wn3⟩

theorem open_acts {H : Type} {enc : TypeId × Value → H} {W : World} {b0 : Nat} {v : Value} {d : DataW H} {p : List MemPlace} (hv : Value.okWide Try.prog W .any b0 22 v) (h : DataW.Trod enc Try.prog W 0 (fun _ => true) true 22 v d p) :
    ∃ (oa : Option Addr) (ab off cap : Nat) (as_ : List Ac), v = .slice oa as_.length cap ∧ as_.length ≤ maxLen ∧ (0 < as_.length → oa = some ⟨ab, off, none⟩ ∧ ab < W.heap.size) ∧ ActsAt W ab off as_ := by
  obtain ⟨oa, len, cap, b, off, rfl, hl, hm, hoa, hc⟩ := open_rows Try.underlying22 (sz := 8) (by kernel_rfl) (by decide) hv h
  obtain ⟨ws, hw, hp⟩ := list_choose (fun i (x : Ac) => ActAt W b (off + i * 8) x ∧ x.wf) len fun i hi => by
    obtain ⟨cs, x, n, h3, hat, htr⟩ := hc i hi
    obtain ⟨y, rfl, hw⟩ := act_cells h3 htr
    exact ⟨y, ⟨hat 0 (by decide), hat 1 (by decide), hat 2 (by decide), hat 3 (by decide), hat 4 (by decide), hat 5 (by decide), hat 6 (by decide), hat 7 (by decide)⟩, hw⟩
  exact ⟨oa, b, off, cap, ws, by rw [hw], by omega, by rw [hw]; exact hoa, hp⟩

def Small (as_ : List Ac) : Prop := as_.length ≤ 40 ∧ ∀ (i : Nat) (x : Ac), as_[i]? = some x → x.n ≤ 100
def SmallIs (as_ : List Ac) (e : Ending) : Prop := ∃ v, e = .returned (.bool v) ∧ (v = true → Small as_)

set_option maxHeartbeats 400000 in
theorem small_any (oa : Option Addr) (ab off cap : Nat) (as_ : List Ac) (w : World) (hlen : as_.length ≤ maxLen) (hoa : 0 < as_.length → oa = some ⟨ab, off, none⟩ ∧ ab < w.heap.size) (hA : ActsAt w ab off as_) :
    Calls Try.prog 12 #[.slice oa as_.length cap] w fun e w' => SmallIs as_ e ∧ w = w' := by
  unfold maxLen at hlen
  replace hoa := Lib.hid hoa
  replace hA := Lib.hid hA
  by_cases h40 : 40 < as_.length
  · have t1 : decide ((40 : Int) < as_.length) = true := by simp; omega
    go_enter Try.func12, Try.ntmps12
    go_wp2
    go_ret
    exact ⟨⟨false, rfl, fun h => by cases h⟩, rfl⟩
  · have t1 : decide ((40 : Int) < as_.length) = false := by simp; omega
    go_enter Try.func12, Try.ntmps12
    go_wp2
    go_loop [3] (fun i => ∃ j : Nat, j ≤ as_.length ∧ i = .int .i64 j ∧ ∀ i x, i < j → as_[i]? = some x → x.n ≤ 100) (fun i => as_.length - (intOf i).toNat)
    case atStart => exact ⟨0, by omega, rfl, fun i x hi => absurd hi (Nat.not_lt_zero _)⟩
    case round =>
      obtain ⟨j, hj, rfl, hs⟩ := hrel
      have HS := Lib.hid hs
      clear hs
      by_cases hjl : j < as_.length
      · obtain ⟨rfl, hab⟩ := hoa.out (by omega)
        obtain ⟨x, hx⟩ : ∃ x, as_[j]? = some x := ⟨_, List.getElem?_eq_getElem hjl⟩
        obtain ⟨_, g1, _⟩ := (hA.out j x hx).1
        have HX := Lib.hid hx
        clear hx
        by_cases hn : 100 < x.n
        · have t2 : decide (100 < x.n) = true := by simpa using hn
          go_wp2
          go_ret
          exact ⟨⟨false, rfl, fun h => by cases h⟩, rfl⟩
        · have t2 : decide (100 < x.n) = false := by simpa using hn
          go_wp2
          go_round
          case rel =>
            refine ⟨j + 1, by omega, by go_num, fun i y hi hy => ?_⟩
            by_cases e : i = j
            · subst e
              rw [HX.out] at hy
              cases hy
              omega
            · exact HS.out i y (by omega) hy
          case measure => simp [intOf]; omega
      · go_wp2
        go_ret
        exact ⟨⟨true, rfl, fun _ => ⟨by omega, fun i x hx => HS.out i x (by have := (List.getElem?_eq_some_iff.1 hx).1; omega) hx⟩⟩, rfl⟩
end Go.Proofs.Ytbcockaleegicaa
