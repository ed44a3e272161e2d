/-
  Several texts of the proof in one: KLawT, KOver. No conditions of their own: each lemma states its own.
-/
import Derived.Test.YtgpkhdccchpljaaDoorKJCopied
import Derived.Deep.LoopGhost
namespace Go.Proofs.YtgpkhdccchpljaaDoor
open Go.RowKit
open M (Wd MS RepAt Owned Kept Turned loadR storeR copyR clearR freeR allocR)
open C (In)

theorem evs_get : ∀ (l : List Ev) (i j : Nat) (x : Ev), l[i]? = some x → j < 4 → (l.flatMap evC)[i * 4 + j]? = (evC x)[j]?
  | [], i, j, x, h, _ => by simp at h
  | a :: l, 0, j, x, h, hj => by
    simp at h
    subst h
    rw [List.flatMap_cons, List.getElem?_append_left (by simp [evC]; omega), Nat.zero_mul, Nat.zero_add]
  | a :: l, i + 1, j, x, h, hj => by
    rw [List.flatMap_cons, List.getElem?_append_right (by simp [evC]; omega)]
    have e : (i + 1) * 4 + j - (evC a).length = i * 4 + j := by simp [evC]; omega
    rw [e]
    exact evs_get l i j x (by simpa using h) hj
theorem wrapm (k : Nat) (h : k < 1000000000) : wrap64 (k : Int) = k ∧ IntKind.i64.wrap (k : Int) = k ∧ wrap64 ((k : Int) + 1) = (k : Int) + 1 :=
  ⟨by unfold wrap64; omega, IntWalk.i64_in _ (by omega), by unfold wrap64; omega⟩
theorem lt_dec' (i n : Nat) (h : i < n) : decide ((i : Int) < n) = true := by simp; omega
theorem ge_dec' (i n : Nat) (h : ¬ i < n) : decide ((i : Int) < n) = false := by simp; omega

set_option maxRecDepth 100000 in
set_option maxHeartbeats 4000000 in
theorem told_eq {w : World} {l : List Ev} {v1 v2 : Value} {B1 B2 : Nat} (h1 : w.ownsRow B1 80 4 v1 l.length (l.flatMap evC)) (h2 : w.ownsRow B2 80 4 v2 l.length (l.flatMap evC)) (hl : l.length < 100000000) :
    Calls Tryd.prog 12 #[v1, v2] w fun e w' => e = .returned (.bool true) ∧ Below w.heap.size w w' := by
  obtain ⟨n, hn⟩ : ∃ n, l.length = n := ⟨_, rfl⟩
  rw [hn] at h1 h2 hl
  have HN := Lib.hid hn
  clear hn
  obtain ⟨o1, c1, rfl⟩ : ∃ o1 c1, v1 = .slice o1 n c1 := by
    rcases h1.2 with ⟨rfl, h0⟩ | ⟨g, cap, cur, rfl, -⟩
    · exact ⟨_, _, by subst h0; rfl⟩
    · exact ⟨_, _, rfl⟩
  obtain ⟨o2, c2, rfl⟩ : ∃ o2 c2, v2 = .slice o2 n c2 := by
    rcases h2.2 with ⟨rfl, h0⟩ | ⟨g, cap, cur, rfl, -⟩
    · exact ⟨_, _, by subst h0; rfl⟩
    · exact ⟨_, _, rfl⟩
  have H1 := Lib.hid h1
  have H2 := Lib.hid h2
  clear h1 h2
  go_enter Tryd.func12, Tryd.ntmps12
  go_wp2_with fail
  go_loopw [5] (fun u5 wr => ∃ i : Nat, u5 = .int .i64 i ∧ i ≤ n ∧ Below w.heap.size w wr) (fun u5 _ => match u5 with | .int _ k => n - k.toNat | _ => 0)
  case atStart => exact ⟨0, rfl, Nat.zero_le _, Below.refl _ _⟩
  case round =>
    obtain ⟨i, rfl, hin, hb⟩ := hrel
    by_cases hi : i < n
    · have HT := Lib.hid (lt_dec' i n hi)
      have HW := Lib.hid (wrapm i (by omega))
      obtain ⟨x, hx⟩ : ∃ x, l[i]? = some x := ⟨_, List.getElem?_eq_getElem (by have := HN.out; omega)⟩
      obtain ⟨g, rfl⟩ : ∃ g, o1 = some ⟨g, 0, none⟩ := by
        rcases H1.out.2 with ⟨_, h0⟩ | ⟨g, c, cu, hv', _⟩
        · omega
        · cases hv'; exact ⟨g, rfl⟩
      obtain ⟨q, rfl⟩ : ∃ q, o2 = some ⟨q, 0, none⟩ := by
        rcases H2.out.2 with ⟨_, h0⟩ | ⟨g, c, cu, hv', _⟩
        · omega
        · cases hv'; exact ⟨g, rfl⟩
      obtain ⟨g1, -, g3, -, -, -⟩ := own_cells H1.out
      obtain ⟨q1, -, q3, -, -, -⟩ := own_cells H2.out
      have ga : ∀ j u, j < 4 → (evC x)[j]? = some u → wr.cell? ⟨g, i * 4 + j, none⟩ = some u := fun j u hj hu => (hb.cell (p := ⟨g, i * 4 + j, none⟩) g1).trans (g3 _ _ ((evs_get l i j x hx hj).trans hu))
      have qa : ∀ j u, j < 4 → (evC x)[j]? = some u → wr.cell? ⟨q, i * 4 + j, none⟩ = some u := fun j u hj hu => (hb.cell (p := ⟨q, i * 4 + j, none⟩) q1).trans (q3 _ _ ((evs_get l i j x hx hj).trans hu))
      have a0 := ga 0 _ (by omega) rfl
      have a1 := ga 1 _ (by omega) rfl
      have a2 := ga 2 _ (by omega) rfl
      have a3 := ga 3 _ (by omega) rfl
      have b0 := qa 0 _ (by omega) rfl
      have b1 := qa 1 _ (by omega) rfl
      have b2 := qa 2 _ (by omega) rfl
      have b3 := qa 3 _ (by omega) rfl
      rw [Nat.add_zero] at a0 b0
      have gl : g < wr.heap.size := Nat.lt_of_lt_of_le g1 hb.size
      have ql : q < wr.heap.size := Nat.lt_of_lt_of_le q1 hb.size
      have hii : (i : Int) < n := by omega
      clear ga qa g3 q3 g1 q1 hx
      have t1 := HT.out
      obtain ⟨hw1, hw2, hw3⟩ := HW.out
      go_wp2_with fail
      go_region
      all_goals
        go_wp2_with fail
        clear hw1 hw2 hw3 t1
        go_roundw
        case rel => exact ⟨i + 1, rfl, by omega, hb.drew⟩
        case measure =>
          show n - ((i : Int) + 1).toNat < n - (i : Int).toNat
          omega
    · have t1 := ge_dec' i n hi
      go_wp2
      go_ret
      exact ⟨rfl, hb⟩
end Go.Proofs.YtgpkhdccchpljaaDoor

namespace Go.Proofs.YtgpkhdccchpljaaDoor
open Go.RowKit
open M (Wd MS RepAt Owned Kept Turned loadR storeR copyR clearR freeR allocR)
open C (In Cr Pg)

def overB (p : Pg) : Bool := decide (60 < p.fs.length) || (decide (60 < p.cs.length) || p.fs.any fun f => decide (180 < f.length))

set_option maxRecDepth 100000 in
set_option maxHeartbeats 4000000 in
theorem over_any {w : World} {fv cv : Value} {p : Pg} (hP : C.PgV w fv cv p) :
    Calls Tryd.prog 6 #[.agg #[fv, cv]] w fun e w' => e = .returned (.bool (overB p)) ∧ Below w.heap.size w w' := by
  obtain ⟨⟨oaf, capf, bf, off, rfl, -, -, f3, f4⟩, oac, capc, bc, offc, rfl, -, -, -, -⟩ := hP
  have HF := Lib.hid (And.intro f3 f4)
  clear f3 f4
  obtain ⟨n, hn⟩ : ∃ n, p.fs.length = n := ⟨_, rfl⟩
  obtain ⟨m, hm⟩ : ∃ m, p.cs.length = m := ⟨_, rfl⟩
  rw [hn, hm]
  have HN := Lib.hid (And.intro hn hm)
  clear hn hm
  obtain ⟨W, hW⟩ : ∃ W, W = w.alloc (.cells #[.slice oaf n capf, .slice oac m capc] 25) := ⟨_, rfl⟩
  have hbW : Below w.heap.size w W := by rw [hW]; exact C.alloc_below _ _
  have hx0 : W.heap[w.heap.size]? = some (.cells #[.slice oaf n capf, .slice oac m capc] 25) := by rw [hW, heap_alloc_new]
  obtain ⟨B, hB⟩ : ∃ B, B = w.heap.size := ⟨_, rfl⟩
  rw [← hB] at hx0
  have HW := Lib.hid hbW
  have HX0 := Lib.hid hx0
  obtain ⟨a0, a1, af, al⟩ := cells2 hx0
  go_enter Tryd.func6, Tryd.ntmps6
  go_upto_region 1 with fail
  rw [← hW]
  simp only [← hB]
  clear hW hx0 hbW
  replace hB := Lib.hid hB
  by_cases h1 : 60 < n
  · have t1 : decide ((60 : Int) < n) = true := by simp; omega
    have hs : Hid (overB p = true) := Lib.hid (by rw [overB, HN.out.1]; simp [h1])
    clear h1
    go_wp2
    go_ret
    exact ⟨by rw [hs.out]; rfl, HW.out⟩
  · have t1 : decide ((60 : Int) < n) = false := by simp; omega
    by_cases h2 : 60 < m
    · have t2 : decide ((60 : Int) < m) = true := by simp; omega
      have hs : Hid (overB p = true) := Lib.hid (by rw [overB, HN.out.2]; simp [h2])
      clear h1 h2
      go_wp2
      go_ret
      exact ⟨by rw [hs.out]; rfl, HW.out⟩
    · have t2 : decide ((60 : Int) < m) = false := by simp; omega
      have hn60 : n ≤ 60 := by omega
      have H12 := Lib.hid (And.intro h1 h2)
      clear h1 h2
      go_wp2_with fail
      clear t1 t2
      go_loopw [3] (fun u3 wr => ∃ i : Nat, u3 = .int .i64 i ∧ i ≤ n ∧ wr = W ∧ ∀ (k : Nat) f, k < i → p.fs[k]? = some f → f.length ≤ 180) (fun u3 _ => match u3 with | .int _ k => n - k.toNat | _ => 0)
      case atStart => exact ⟨0, rfl, Nat.zero_le _, rfl, fun k f h => absurd h (Nat.not_lt_zero k)⟩
      case round =>
        obtain ⟨i, rfl, hin, rfl, hall⟩ := hrel
        have HA := Lib.hid hall
        clear hall
        by_cases hi : i < n
        · have HT := Lib.hid (lt_dec' i n hi)
          have HI := Lib.hid (wrapm i (by omega))
          obtain ⟨f, hf⟩ : ∃ f, p.fs[i]? = some f := ⟨_, List.getElem?_eq_getElem (by have := HN.out.1; omega)⟩
          obtain ⟨rfl, hbf⟩ := HF.out.1 (by have := HN.out.1; omega)
          obtain ⟨fv, k0, hG⟩ := HF.out.2 i f hf
          obtain ⟨oag, capg, _, _, rfl, -⟩ := hG
          replace k0 := (HW.out.cell (p := ⟨bf, off + i, none⟩) hbf).trans k0
          have hbl : bf < wr.heap.size := Nat.lt_of_lt_of_le hbf HW.out.size
          have hii : (i : Int) < n := by omega
          obtain ⟨fl, hfl⟩ : ∃ fl, f.length = fl := ⟨_, rfl⟩
          rw [hfl] at k0
          have HFL := Lib.hid (And.intro hfl hf)
          clear hf hfl hbf
          by_cases h180 : 180 < fl
          · have t3 : decide ((180 : Int) < fl) = true := by simp; omega
            have hs : Hid (overB p = true) := Lib.hid (by
              rw [overB]
              have : (p.fs.any fun f => decide (180 < f.length)) = true := List.any_eq_true.2 ⟨f, List.mem_of_getElem? HFL.out.2, by rw [HFL.out.1]; simpa using h180⟩
              simp [this])
            clear h180
            have t1 := HT.out
            obtain ⟨hw1, hw2, hw3⟩ := HI.out
            go_wp2
            go_ret
            exact ⟨by rw [hs.out]; rfl, HW.out⟩
          · have t3 : decide ((180 : Int) < fl) = false := by simp; omega
            have hle : Hid (f.length ≤ 180) := Lib.hid (by rw [HFL.out.1]; omega)
            clear h180
            have t1 := HT.out
            obtain ⟨hw1, hw2, hw3⟩ := HI.out
            go_wp2_with fail
            clear hw1 hw2 hw3 t1 t3
            go_roundw
            case rel =>
              refine ⟨i + 1, rfl, by omega, trivial, fun k g hk hg => ?_⟩
              by_cases hki : k = i
              · subst hki
                rw [HFL.out.2] at hg
                cases hg
                exact hle.out
              · exact HA.out k g (by omega) hg
            case measure =>
              show n - ((i : Int) + 1).toNat < n - (i : Int).toNat
              omega
        · have t1 := ge_dec' i n hi
          have hs : Hid (overB p = false) := Lib.hid (by
            rw [overB]
            have h3 : (p.fs.any fun f => decide (180 < f.length)) = false := by
              rw [List.any_eq_false]
              intro f hf
              obtain ⟨k, hk⟩ := List.getElem?_of_mem hf
              have hkl := (List.getElem?_eq_some_iff.1 hk).1
              have := HA.out k f (by have := HN.out.1; omega) hk
              simp; omega
            obtain ⟨e1, e2⟩ := HN.out
            obtain ⟨g1, g2⟩ := H12.out
            simp [h3, e1, e2]
            omega)
          go_wp2
          go_ret
          exact ⟨by rw [hs.out]; rfl, HW.out⟩
end Go.Proofs.YtgpkhdccchpljaaDoor
