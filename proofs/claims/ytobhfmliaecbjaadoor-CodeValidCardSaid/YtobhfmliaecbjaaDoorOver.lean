/-
  over, of the statements: a program that is not over is small. Conditions: it lies in the heap.
-/
import Derived.Test.YtobhfmliaecbjaaDoorText
namespace Go.Proofs.YtobhfmliaecbjaaDoor
open Go.RowKit

def OverIs (p : Pg) (e : Ending) : Prop := ∃ b, e = .returned (.bool b) ∧ (b = false → SmallP p)

set_option maxRecDepth 100000 in
set_option maxHeartbeats 2000000 in
theorem over_any (w : World) (fv cv : Value) (p : Pg) (hP : PgV w fv cv p) : Calls Tryd.prog 18 #[.agg #[fv, cv]] w fun e w' => OverIs p e ∧ Below w.heap.size w w' := by
  obtain ⟨⟨oaf, capf, bf, off, rfl, hf1, hf2, hf3, hf4⟩, oac, capc, bc, offc, rfl, hc1, hc2, -, -⟩ := hP
  unfold maxLen at hf2 hc2
  have hb := alloc_below w (.cells #[.slice oaf p.fs.length capf, .slice oac p.cs.length capc] 35)
  by_cases h0 : 60 < p.fs.length
  · have t0 : decide ((p.fs.length : Int) > 60) = true := by simp; omega
    go_enter Tryd.func18, Tryd.ntmps18
    go_wp2
    go_ret
    exact ⟨⟨true, rfl, fun h => (by cases h)⟩, hb⟩
  have t0 : decide ((p.fs.length : Int) > 60) = false := by simp; omega
  by_cases h1 : 60 < p.cs.length
  · have t1 : decide ((p.cs.length : Int) > 60) = true := by simp; omega
    go_enter Tryd.func18, Tryd.ntmps18
    go_wp2
    go_ret
    exact ⟨⟨true, rfl, fun h => (by cases h)⟩, hb⟩
  have t1 : decide ((p.cs.length : Int) > 60) = false := by simp; omega
  have hfs : p.fs.length ≤ 60 := by omega
  have hcs : p.cs.length ≤ 60 := by omega
  replace hf3 := Lib.hid hf3
  replace hf4 := Lib.hid hf4
  obtain ⟨W, hW⟩ : ∃ W, W = w.alloc (.cells #[.slice oaf p.fs.length capf, .slice oac p.cs.length capc] 35) := ⟨_, rfl⟩
  have c0 : W.cell? ⟨w.heap.size, 0, none⟩ = some (.slice oaf p.fs.length capf) := by rw [hW]; exact alloc_cell _ _ _ _ _ rfl
  have hbW : Below w.heap.size w W := by rw [hW]; exact hb
  clear h0 h1 hb
  go_enter Tryd.func18, Tryd.ntmps18
  go_wp2_with fail
  rw [← hW]
  clear hW
  go_loop [3] (fun u => ∃ j : Nat, j ≤ p.fs.length ∧ u = .int .i64 j ∧ ∀ f ∈ p.fs.take j, f.length ≤ 60 ∧ ∀ x ∈ f, x.l.length ≤ 60) (fun u => p.fs.length - (intOf u).toNat)
  case atStart => exact ⟨0, by omega, rfl, fun f hf => by simp at hf⟩
  case round =>
    obtain ⟨j, hj, rfl, hso⟩ := hrel
    have HSO := Lib.hid hso
    clear hso
    by_cases hjl : j < p.fs.length
    · have t2 : decide ((j : Int) < p.fs.length) = true := by simp; omega
      obtain ⟨rfl, hbf⟩ := hf3.out (by omega)
      obtain ⟨f, hf⟩ : ∃ f, p.fs[j]? = some f := ⟨_, List.getElem?_eq_getElem hjl⟩
      obtain ⟨fvj, g0, oaj, capj, bj, offj, rfl, q1, q2, q3, q4⟩ := hf4.out j f hf
      unfold maxLen at q2
      replace q3 := Lib.hid q3
      replace q4 := Lib.hid q4
      have HTK := Lib.hid (take_snoc p.fs j f hf)
      replace g0 := (hbW.cell (p := ⟨bf, off + j, none⟩) hbf).trans g0
      clear hf
      by_cases hfl : 60 < f.length
      · have t3 : decide ((f.length : Int) > 60) = true := by simp; omega
        go_wp2
        go_returns
        exact ⟨⟨true, rfl, fun h => (by cases h)⟩, hbW⟩
      · have t3 : decide ((f.length : Int) > 60) = false := by simp; omega
        have hfl' : f.length ≤ 60 := by omega
        clear hfl
        go_wp2_with fail
        go_loop [4] (fun u => ∃ k : Nat, k ≤ f.length ∧ u = .int .i64 k ∧ ∀ x ∈ f.take k, x.l.length ≤ 60) (fun u => f.length - (intOf u).toNat)
        case atStart => exact ⟨0, by omega, rfl, fun x hx => by simp at hx⟩
        case round =>
          obtain ⟨k, hk, rfl, hsx⟩ := hrel
          have HSX := Lib.hid hsx
          clear hsx
          by_cases hkl : k < f.length
          · have t4 : decide ((k : Int) < f.length) = true := by simp; omega
            obtain ⟨rfl, hbj⟩ := q3.out (by omega)
            obtain ⟨x, hx⟩ : ∃ x, f[k]? = some x := ⟨_, List.getElem?_eq_getElem hkl⟩
            obtain ⟨lv, -, -, -, -, g4, oal, capl, bl, offl, rfl, -, l2, -, -⟩ := q4.out k x hx
            unfold maxLen at l2
            have HTX := Lib.hid (take_snoc f k x hx)
            replace g4 := (hbW.cell (p := ⟨bj, offj + k * 5 + 4, none⟩) hbj).trans g4
            clear hx
            by_cases hxl : 60 < x.l.length
            · have t5 : decide ((x.l.length : Int) > 60) = true := by simp; omega
              go_wp2
              go_returns
              exact ⟨⟨true, rfl, fun h => (by cases h)⟩, hbW⟩
            · have t5 : decide ((x.l.length : Int) > 60) = false := by simp; omega
              have hxl' : x.l.length ≤ 60 := by omega
              clear hxl
              go_wp2
              go_round
              case rel =>
                refine ⟨k + 1, by omega, by go_num, fun y hy => ?_⟩
                rw [HTX.out] at hy
                rcases List.mem_append.1 hy with h | h
                · exact HSX.out y h
                · simp at h; rw [h]; exact hxl'
              case measure => simp [intOf]; omega
          · have t4 : decide ((k : Int) < f.length) = false := by simp; omega
            obtain rfl : k = f.length := by omega
            rw [List.take_length] at HSX
            go_wp2
            go_round
            case rel =>
              refine ⟨j + 1, by omega, by go_num, fun g hg => ?_⟩
              rw [HTK.out] at hg
              rcases List.mem_append.1 hg with h | h
              · exact HSO.out g h
              · simp at h; rw [h]; exact ⟨hfl', HSX.out⟩
            case measure => simp [intOf]; omega
    · have t2 : decide ((j : Int) < p.fs.length) = false := by simp; omega
      obtain rfl : j = p.fs.length := by omega
      rw [List.take_length] at HSO
      go_wp2
      go_ret
      exact ⟨⟨false, rfl, fun _ => ⟨hfs, hcs, fun f hf => (HSO.out f hf).1, fun f hf => (HSO.out f hf).2⟩⟩, hbW⟩
end Go.Proofs.YtobhfmliaecbjaaDoor
