/-
  writtenAhead of package code. Conditions: the function lies in the heap, its registers and labels are such.
-/
import Derived.Test.YtobhfmliaecbjaaDoorFlow
import Derived.Deep.LoopGhost
namespace Go.Proofs.YtobhfmliaecbjaaDoor
open Go.RowKit

section
variable {B bF gF bA gA bT : Nat} {w : World} {st : Md} {todo : List Int}
theorem WAt.pop {i : Int} (h : WAt B bF gF bA gA bT w st (todo ++ [i])) : ∃ g cap, w.heap[bT]? = some (.cells #[.slice (some ⟨g, 0, none⟩) (todo.length + 1) cap] 23) ∧ todo.length + 1 ≤ cap ∧ cap ≤ maxLen ∧
    w.cell? ⟨g, todo.length, none⟩ = some (.int .i64 i) ∧ WAt B bF gF bA gA bT (w.setCell ⟨bT, 0, none⟩ (.slice (some ⟨g, 0, none⟩) todo.length cap)) st todo ∧ WK B w (w.setCell ⟨bT, 0, none⟩ (.slice (some ⟨g, 0, none⟩) todo.length cap)) := by
  obtain ⟨v, hv, hown⟩ := h.hT
  rw [List.length_append, List.length_singleton, List.map_append, List.map_singleton] at hown
  rcases hown.2 with ⟨_, h0⟩ | ⟨g, cap, cur, rfl, hb, hg, hn, hm, hs, ht⟩
  · omega
  have hcell : cur.toList[todo.length]? = some (.int .i64 i) := by
    have : (cur.toList.take ((todo.length + 1) * 1))[todo.length]? = some (.int .i64 i) := by rw [ht]; simp
    rwa [List.getElem?_take_of_lt (by omega)] at this
  have hpre : cur.toList.take (todo.length * 1) = todo.map (Value.int .i64) := by
    have : (cur.toList.take ((todo.length + 1) * 1)).take todo.length = todo.map (Value.int .i64) := by rw [ht, List.take_append_of_le_length (by simp)]; exact List.take_of_length_le (by simp)
    rw [List.take_take, Nat.min_eq_left (by omega)] at this
    simpa using this
  have n1 : bF ≠ bT := bne h.hF hv (by decide)
  have n2 : gF ≠ bT := bne h.rF hv (by decide)
  have n3 : bA ≠ bT := bne h.hA hv (by decide)
  have n4 : gA ≠ bT := bne h.rA hv (by decide)
  have n5 : g ≠ bT := bne hg hv (by decide)
  have q : ∀ {b : Nat} {o : Obj}, b ≠ bT → w.heap[b]? = some o → (w.setCell ⟨bT, 0, none⟩ (.slice (some ⟨g, 0, none⟩) todo.length cap)).heap[b]? = some o := fun hb hh => (Below.heap_setCell _ ⟨bT, 0, none⟩ _ _ hb).trans hh
  refine ⟨g, cap, hv, hn, hm, ?_, ⟨q n1 h.hF, q n2 h.rF, q n3 h.hA, q n4 h.rA, ⟨_, heap_setCell_same w bT 0 _ 23 _ hv, ?_⟩, h.base, h.small⟩, WK.setCell (a := ⟨bT, 0, none⟩) h.base.2.2.2.2 hv (by decide) _⟩
  · simp only [World.cell?, hg]
    simpa using hcell
  · exact ⟨by simp, .inr ⟨g, cap, cur, rfl, hb, q n5 hg, by omega, hm, hs, hpre⟩⟩

theorem WAt.empty (h : WAt B bF gF bA gA bT w st []) : ∃ oa cap, w.heap[bT]? = some (.cells #[.slice oa 0 cap] 23) := by
  obtain ⟨v, hv, hown⟩ := h.hT
  obtain ⟨og, g, cap, rfl, _⟩ := row_shape hown
  exact ⟨og, cap, hv⟩
end

theorem info71 : (Tryd.prog.info? 71).map (fun i => (i.zero, i.size, i.bytes)) = some (some (.int .u16 0), 1, 2) := by kernel_rfl
theorem info4 : (Tryd.prog.info? 4).map (fun i => (i.zero, i.size, i.bytes)) = some (some (.bool false), 1, 1) := by kernel_rfl
theorem make_masks (n : Nat) (h : n ≤ 65536) (w : World) : (Instr.makeSlice 87 (.int .i64 (n : Int)) (.int .i64 (n : Int))).run Tryd.prog w = .ok (.slice (some ⟨w.heap.size, 0, none⟩) n n) (w.alloc (.cells (Array.replicate n (mv none)) 71)) := by
  rw [run_make_row' 87 71 (.int .u16 0) 2 Tryd.underlying87 info71 rfl .i64 .i64 n (by omega) (by omega) w, made_one]
  simp [mv]
theorem make_found (n : Nat) (h : n ≤ 65536) (w : World) : (Instr.makeSlice 78 (.int .i64 (n : Int)) (.int .i64 (n : Int))).run Tryd.prog w = .ok (.slice (some ⟨w.heap.size, 0, none⟩) n n) (w.alloc (.cells (Array.replicate n (fdv none)) 4)) := by
  rw [run_make_row' 78 4 (.bool false) 1 Tryd.underlying78 info4 rfl .i64 .i64 n (by omega) (by omega) w, made_one]
  simp [fdv]

def W5 (w : World) (n : Nat) : World := ((((w.alloc (.cells (Array.replicate n (mv none)) 71)).alloc (.cells #[.slice (some ⟨w.heap.size, 0, none⟩) n n] 87)).alloc (.cells (Array.replicate n (fdv none)) 4)).alloc (.cells #[.slice (some ⟨w.heap.size + 1 + 1, 0, none⟩) n n] 78)).alloc (.cells #[.slice none 0 0] 23)

theorem WAt.new (w : World) (n : Nat) : WAt w.heap.size (w.heap.size + 1 + 1 + 1) (w.heap.size + 1 + 1) (w.heap.size + 1) w.heap.size (w.heap.size + 1 + 1 + 1 + 1) (W5 w n) (List.replicate n none) [] ∧ Below w.heap.size w (W5 w n) := by
  have sz : ∀ (w : World) (o : Obj), (w.alloc o).heap.size = w.heap.size + 1 := fun w o => by simp
  have e1 : ((List.replicate n (none : Option Nat)).map mv).toArray = Array.replicate n (mv none) := by simp
  have e2 : ((List.replicate n (none : Option Nat)).map fdv).toArray = Array.replicate n (fdv none) := by simp
  unfold W5
  refine ⟨⟨?_, ?_, ?_, ?_, ⟨.slice none 0 0, ?_, World.ownsRow_nil _ _ _ _⟩, by omega, fun m hm => by simp [List.mem_replicate] at hm⟩, ?_⟩
  · rw [heap_alloc_old _ _ (by simp only [sz]; omega), List.length_replicate]
    have := heap_alloc_new (((w.alloc (.cells (Array.replicate n (mv none)) 71)).alloc (.cells #[.slice (some ⟨w.heap.size, 0, none⟩) n n] 87)).alloc (.cells (Array.replicate n (fdv none)) 4)) (.cells #[.slice (some ⟨w.heap.size + 1 + 1, 0, none⟩) n n] 78)
    simpa only [sz] using this
  · rw [e2, heap_alloc_old _ _ (by simp only [sz]; omega), heap_alloc_old _ _ (by simp only [sz]; omega)]
    have := heap_alloc_new ((w.alloc (.cells (Array.replicate n (mv none)) 71)).alloc (.cells #[.slice (some ⟨w.heap.size, 0, none⟩) n n] 87)) (.cells (Array.replicate n (fdv none)) 4)
    simpa only [sz] using this
  · rw [heap_alloc_old _ _ (by simp only [sz]; omega), heap_alloc_old _ _ (by simp only [sz]; omega), heap_alloc_old _ _ (by simp only [sz]; omega), List.length_replicate]
    have := heap_alloc_new (w.alloc (.cells (Array.replicate n (mv none)) 71)) (.cells #[.slice (some ⟨w.heap.size, 0, none⟩) n n] 87)
    simpa only [sz] using this
  · rw [e1, heap_alloc_old _ _ (by simp only [sz]; omega), heap_alloc_old _ _ (by simp only [sz]; omega), heap_alloc_old _ _ (by simp only [sz]; omega), heap_alloc_old _ _ (by simp only [sz]; omega), heap_alloc_new]
  · have := heap_alloc_new ((((w.alloc (.cells (Array.replicate n (mv none)) 71)).alloc (.cells #[.slice (some ⟨w.heap.size, 0, none⟩) n n] 87)).alloc (.cells (Array.replicate n (fdv none)) 4)).alloc (.cells #[.slice (some ⟨w.heap.size + 1 + 1, 0, none⟩) n n] 78)) (.cells #[.slice none 0 0] 23)
    simpa only [sz] using this
  · exact (((((alloc_below _ _).alloc (by simp only [sz]; omega) _).alloc (by simp only [sz]; omega) _).alloc (by simp only [sz]; omega) _).alloc (by simp only [sz]; omega) _)

theorem Mid.mono {f : List In} {z : Nat → Bool} {st : Md} {todo : List Int} {i A now : Nat} {x : In} {dn dn' : Nat → Prop} (M : Mid f z st todo i A now x dn) (h : ∀ k, dn' k → dn k) : Mid f z st todo i A now x dn' :=
  ⟨M.base, M.done, M.at_, M.reads, M.nowlt, M.nows, M.un, by
    rcases M.me with h1 | ⟨h1, h2⟩
    · exact .inl h1
    · exact .inr ⟨h1, fun k hk => h2 k (h k hk)⟩⟩

theorem or_bit (m r q : Nat) : (m ||| 2 ^ r).testBit q = true ↔ m.testBit q = true ∨ (some (r : Int) : Option Int) = some (q : Int) := by
  rw [Nat.testBit_or, Nat.testBit_two_pow, Bool.or_eq_true]
  simp only [decide_eq_true_eq, Option.some.injEq]
  exact or_congr Iff.rfl ⟨fun h => by omega, fun h => by omega⟩

def inBox (x : In) (lv : Value) : Obj := .cells #[.int .i64 x.op, .int .i64 x.a, .int .i64 x.b, .int .i64 x.c, lv] 25
theorem box_cells {w : World} {bx : Nat} {x : In} {lv : Value} (h : w.heap[bx]? = some (inBox x lv)) :
    w.cell? ⟨bx, 0, none⟩ = some (.int .i64 x.op) ∧ w.cell? ⟨bx, 1, none⟩ = some (.int .i64 x.a) ∧ w.cell? ⟨bx, 2, none⟩ = some (.int .i64 x.b) ∧ w.cell? ⟨bx, 3, none⟩ = some (.int .i64 x.c) ∧ w.cell? ⟨bx, 4, none⟩ = some lv := by
  unfold inBox at h
  simp [World.cell?, h]

set_option maxRecDepth 100000 in
set_option maxHeartbeats 4000000 in
theorem writtenAhead_any (w : World) (v : Value) (f : List In) (z : Nat) (hf : FunV w v f) (hF : Fit f) (h0 : 0 < f.length) (hn : f.length ≤ 65536) (hz : z < 65536) (ht : TabAt w) :
    Calls Tryd.prog 43 #[v, .int .u16 (z : Int)] w fun e w' => ∃ b : Bool, e = .returned (.bool b) ∧ (b = true ↔ Ahead f z.testBit) ∧ Below w.heap.size w w' := by
  have hmf : ∀ (fn : Fn) (first cap : Array Value) (w : World), (Instr.makeFunc fn first cap).run Tryd.prog w = .ok (.func fn first cap) w := fun _ _ _ _ => rfl
  obtain ⟨oa, cap, b, off, rfl, hc1, hc2, hc3, hc4⟩ := hf
  obtain ⟨rfl, hb⟩ := hc3 h0
  have hts := ht.lt
  have hi1 := Inv.first f z hz h0
  have hm1 := mu_first f z hz h0
  obtain ⟨hw5, hb5⟩ := WAt.new w f.length
  have hk1 := make_masks f.length hn
  have hk2 := make_found f.length hn
  have hw5' := Lib.hid hw5
  have HC4 := Lib.hid hc4
  have HF := Lib.hid hF
  have HT := Lib.hid ht
  have HI1 := Lib.hid hi1
  have HM1 := Lib.hid hm1
  clear hw5 hc4 hF ht hi1 hm1 hc3
  go_enter Tryd.func43, Tryd.ntmps43
  go_wp2_with fail
  clear hk1 hk2
  have hw5 := hw5'.out
  unfold W5 at hw5 hb5
  have hs5 := hb5.size
  refine (mark_any hw5 0 z (by rw [List.length_replicate]; omega) hz hs5 (by simp)).mono ?_
  rintro e w1 ⟨rfl, hA1, hK1⟩
  have hB1 : Below w.heap.size w w1 := hb5.trans (hK1.below hs5)
  clear hw5' hb5 hs5 hK1
  obtain ⟨B, hB⟩ : ∃ B, B = w.heap.size := ⟨_, rfl⟩
  rw [← hB] at hA1
  simp only [← hB]
  replace hB := Lib.hid hB
  obtain ⟨st1, hst1⟩ : ∃ st, st = (markS (List.replicate f.length none) [] 0 z).1 := ⟨_, rfl⟩
  obtain ⟨td1, htd1⟩ : ∃ td, td = (markS (List.replicate f.length none) [] 0 z).2 := ⟨_, rfl⟩
  have HI2 : Hid (Inv f z.testBit st1 td1) := Lib.hid (by rw [hst1, htd1]; exact HI1.out)
  have HM2 : Hid (mu st1 td1 ≤ 34 * f.length) := Lib.hid (by rw [hst1, htd1]; exact HM1.out)
  rw [← hst1, ← htd1] at hA1
  clear hst1 htd1 HI1 HM1 hw5
  go_wp2_with fail
  go_loopg [] (34 * f.length) (fun k wr => ∃ st todo, WAt B (B + 1 + 1 + 1) (B + 1 + 1) (B + 1) B (B + 1 + 1 + 1 + 1) wr st todo ∧ Inv f z.testBit st todo ∧ mu st todo ≤ k ∧ k ≤ 34 * f.length ∧ Below B w wr)
  case atStart => exact ⟨st1, td1, hA1, HI2.out, HM2.out, Nat.le_refl _, by rw [hB.out]; exact hB1⟩
  case round =>
    clear hA1 HI2 HM2 hB1
    obtain ⟨st, todo, A, I, hmu, hk34, hBr⟩ := hrel
    rcases List.eq_nil_or_concat todo with rfl | ⟨todo, iz, rfl⟩
    · obtain ⟨oa, cp, hT⟩ := A.empty
      have c0 : wr.cell? ⟨B + 1 + 1 + 1 + 1, 0, none⟩ = some (.slice oa 0 cp) := by simp [World.cell?, hT]
      have II := Lib.hid I
      have HMU := Lib.hid hmu
      clear I hmu A hT
      go_wp2
      go_ret
      exact ⟨true, rfl, ⟨fun _ => II.out.ahead HF.out, fun _ => rfl⟩, by rw [← hB.out]; exact hBr⟩
    · rw [List.concat_eq_append] at A I hmu
      obtain ⟨i, m, rfl, hsi⟩ := I.base.tod iz (by simp)
      have hil : i < f.length := by rw [← I.base.len]; exact (List.getElem?_eq_some_iff.1 hsi).1
      obtain ⟨x, hx⟩ : ∃ x, f[i]? = some x := ⟨_, List.getElem?_eq_getElem hil⟩
      have hm16 : m < 65536 := I.base.small m (List.mem_of_getElem? hsi)
      obtain ⟨g, cp, hT, hcp1, hcp2, hcell, A2, K2⟩ := A.pop
      have c0 : wr.cell? ⟨B + 1 + 1 + 1 + 1, 0, none⟩ = some (.slice (some ⟨g, 0, none⟩) (todo.length + 1) cp) := by simp [World.cell?, hT]
      have f0 : wr.frozen? ⟨B + 1 + 1 + 1 + 1, 0, none⟩ = false := by simp [World.frozen?, hT]
      have hBsz : B ≤ wr.heap.size := by have := hBr.size; rw [← hB.out] at this; exact this
      have hB2 : Below B w (wr.setCell ⟨B + 1 + 1 + 1 + 1, 0, none⟩ (.slice (some ⟨g, 0, none⟩) todo.length cp)) := hBr.trans (K2.below hBsz)
      have hil' : (i : Int) < f.length := by omega
      have hsl : st.length = f.length := I.base.len
      have hmu2 : todo.length + 1 ≤ gk := by unfold mu at hmu; rw [List.length_append, List.length_singleton] at hmu; omega
      have htl : todo.length ≤ 3000000 := by omega
      have tl : wrap64 (todo.length : Int) = todo.length := IntWalk.wrap64_in _ ⟨by omega, by omega⟩
      have II := Lib.hid I
      have HMU := Lib.hid hmu
      have HX := Lib.hid hx
      have HSI := Lib.hid hsi
      have HSL := Lib.hid hsl
      clear I hmu A hT hx hsi K2 hsl
      obtain ⟨L, hL⟩ : ∃ L, L = todo.length := ⟨_, rfl⟩
      rw [← hL] at hcp1 hcell A2 c0 hB2 tl htl hmu2
      have HL := Lib.hid hL
      have HMU2 := Lib.hid hmu2
      clear hL hmu2 tl
      go_upto_region 9 with fail
      generalize wr.setCell ⟨B + 1 + 1 + 1 + 1, 0, none⟩ (.slice (some ⟨g, 0, none⟩) L cp) = w2 at A2 hB2 ⊢
      clear c0 f0 hcell hBr hBsz
      have hB2' : Below w.heap.size w w2 := by rw [← hB.out]; exact hB2
      clear hB2
      obtain ⟨lv, g0, g1, g2, g3, g4, oal, capl, bl, offl, rfl, hl1, hl2, hl3, hl4⟩ := HC4.out i x HX.out
      unfold maxLen at hl2
      replace hl3 := Lib.hid hl3
      replace hl4 := Lib.hid hl4
      replace g0 := (hB2'.cell (p := ⟨b, off + i * 5, none⟩) hb).trans g0
      replace g1 := (hB2'.cell (p := ⟨b, off + i * 5 + 1, none⟩) hb).trans g1
      replace g2 := (hB2'.cell (p := ⟨b, off + i * 5 + 2, none⟩) hb).trans g2
      replace g3 := (hB2'.cell (p := ⟨b, off + i * 5 + 3, none⟩) hb).trans g3
      replace g4 := (hB2'.cell (p := ⟨b, off + i * 5 + 4, none⟩) hb).trans g4
      have a0 : w2.cell? ⟨B + 1, 0, none⟩ = some (.slice (some ⟨B, 0, none⟩) f.length f.length) := by rw [← HSL.out]; simp [World.cell?, A2.hA]
      have a1 : w2.cell? ⟨B, i, none⟩ = some (.int .u16 (m : Int)) := by simp [World.cell?, A2.rA, HSI.out, mv]
      have hlt : B + 1 < w2.heap.size := World.block_lt_of_cell? w2 _ a0
      have hlt1 : B < w2.heap.size := by omega
      have hlt2 : b < w2.heap.size := World.block_lt_of_cell? w2 _ g0
      go_region
      have A3 := (A2.next (alloc_below w2 (inBox x (.slice oal x.l.length capl)))).drew
      have hB3 : Below w.heap.size w (w2.alloc (inBox x (.slice oal x.l.length capl))).drew := (hB2'.alloc hB2'.size _).drew
      have hbx3 : (w2.alloc (inBox x (.slice oal x.l.length capl))).drew.heap[w2.heap.size]? = some (inBox x (.slice oal x.l.length capl)) := heap_alloc_new _ _
      unfold inBox at A3 hB3 hbx3
      generalize (w2.alloc (.cells #[.int .i64 x.op, .int .i64 x.a, .int .i64 x.b, .int .i64 x.c, .slice oal x.l.length capl] 25)).drew = w3 at A3 hB3 hbx3 ⊢
      generalize w2.heap.size = bx at hbx3 ⊢
      clear g0 g1 g2 g3 g4 a0 a1 hlt hlt1 hlt2 A2 hB2'
      obtain ⟨y0, y1, y2, y3, y4⟩ := box_cells hbx3
      have hc := reads_any x (.slice oal x.l.length capl) w3 (HT.out.below hB3 hts)
      unfold In.val at hc
      go_wp2_with fail
      refine hc.mono ?_
      clear hc
      rintro e w4 ⟨vr, rfl, ⟨oar, capr, br, offr, rfl, hr1, hr2, hr3, hr4⟩, hb4⟩
      have hrl : (readsL x).length ≤ 3 := by
        have q0 := fl_len (shp x.op).f0 x.a; have q1 := fl_len (shp x.op).f1 x.b; have q2 := fl_len (shp x.op).f2 x.c
        simp only [readsL, List.length_append]; omega
      replace hr3 := Lib.hid hr3
      replace hr4 := Lib.hid hr4
      have A4 := A3.next hb4
      have hB4 := hB3.trans (hb4.mono hB3.size)
      have hbx4 : w4.heap[bx]? = some (inBox x (.slice oal x.l.length capl)) := (hb4.block _ (Array.getElem?_eq_some_iff.1 hbx3).1).trans hbx3
      clear hb4 A3 hB3 hbx3 y0 y1 y2 y3 y4
      go_wp2_with fail
      go_loop [53] (fun u => ∃ j : Nat, j ≤ (readsL x).length ∧ u = .int .i64 j ∧ ∀ (k : Nat) (n : Int), k < j → (readsL x)[k]? = some n → m.testBit n.toNat = true) (fun u => (readsL x).length - (intOf u).toNat)
      case atStart => exact ⟨0, by omega, rfl, fun k n hk => absurd hk (Nat.not_lt_zero _)⟩
      case round =>
        obtain ⟨j, hj, rfl, hso⟩ := hrel
        have HSO := Lib.hid hso
        clear hso
        by_cases hjl : j < (readsL x).length
        · have t1 : decide ((j : Int) < (readsL x).length) = true := by simpa using hjl
          obtain ⟨rfl, hbr⟩ := hr3.out (by omega)
          obtain ⟨nz, hnz⟩ : ∃ nz, (readsL x)[j]? = some nz := ⟨_, List.getElem?_eq_getElem hjl⟩
          have hin : nz ∈ readsL x := List.mem_of_getElem? hnz
          obtain ⟨p0, p1⟩ := HF.out.reads i x HX.out nz hin
          obtain ⟨r, rfl⟩ : ∃ r : Nat, nz = r := ⟨nz.toNat, by omega⟩
          have g5 := hr4.out j _ hnz
          have HNZ := Lib.hid hnz
          have HIN := Lib.hid hin
          clear hnz hin
          go_wp2_with fail
          refine (has_any m r hm16 (by omega) _).mono ?_
          rintro e w5 ⟨rfl, rfl⟩
          cases hbit : m.testBit r with
          | false =>
            have HBIT := Lib.hid hbit
            clear hbit
            go_wp2
            go_returns
            exact ⟨false, rfl, ⟨fun h => (by cases h), fun h => absurd h (Inv.not_ahead II.out.base HSI.out HX.out HIN.out (by omega) HBIT.out)⟩, hB4⟩
          | true =>
            have HBIT := Lib.hid hbit
            clear hbit
            go_wp2
            go_round
            case rel =>
              refine ⟨j + 1, by omega, by go_num, fun k n hk hn => ?_⟩
              by_cases e : k = j
              · subst e
                rw [HNZ.out] at hn
                cases hn
                exact HBIT.out
              · exact HSO.out k n (by omega) hn
            case measure => simp [intOf]; omega
        · have t1 : decide ((j : Int) < (readsL x).length) = false := by simpa using hjl
          obtain rfl : j = (readsL x).length := by omega
          have hall : ∀ r : Nat, (r : Int) ∈ readsL x → m.testBit r = true := fun r hr => by
            obtain ⟨k, hk⟩ := List.getElem?_of_mem hr
            exact HSO.out k _ (List.getElem?_eq_some_iff.1 hk).1 hk
          replace hall := Lib.hid hall
          obtain ⟨y0, y1, y2, y3, y4⟩ := box_cells hbx4
          have hc := writes_any x (.slice oal x.l.length capl) w4 (HT.out.below hB4 hts)
          unfold In.val at hc
          go_wp2_with fail
          refine hc.mono ?_
          clear hc
          rintro e w5 ⟨rfl, hb5⟩
          have A5 := A4.next hb5
          have hB5 := hB4.trans (hb5.mono hB4.size)
          have hbx5 : w5.heap[bx]? = some (inBox x (.slice oal x.l.length capl)) := (hb5.block _ (Array.getElem?_eq_some_iff.1 hbx4).1).trans hbx4
          clear hb5 A4 hB4 hbx4 y0 y1 y2 y3 y4
          replace hall := hall.out
          cases hw : writesO x with
          | none =>
            rw [writesV_none]
            replace hw := Lib.hid hw
            have hnow : m < 65536 := hm16
            have M0 := II.out.pop HSI.out HX.out (fun r hr => hall r hr) hnow (fun q _ => by rw [hw.out]; simp)
            have hM0 := Lib.hid M0
            clear M0 hall
            obtain ⟨y0, y1, y2, y3, y4⟩ := box_cells hbx5
            go_wp2_with fail
            go_loopw [74] (fun u wy => ∃ (j : Nat) (st : Md) (todo : List Int), j ≤ x.l.length ∧ u = .int .i64 j ∧ WAt B (B + 1 + 1 + 1) (B + 1 + 1) (B + 1) B (B + 1 + 1 + 1 + 1) wy st todo ∧ Mid f z.testBit st todo i m (m) x (fun k => (k : Int) ∈ x.l.take j) ∧ mu st todo + 1 ≤ gk ∧ Below w.heap.size w wy ∧ wy.heap[bx]? = some (inBox x (.slice oal x.l.length capl))) (fun u _ => x.l.length - (intOf u).toNat)
            case atStart => exact ⟨0, st, todo, by omega, rfl, A5, hM0.out.mono (fun k hk => by simp at hk), by have := HMU.out; have := HL.out; unfold mu at *; rw [List.length_append, List.length_singleton] at *; omega, hB5, hbx5⟩
            case round =>
              clear A5 hB5 hbx5 y0 y1 y2 y3 y4 hM0
              obtain ⟨j, st2, todo2, hj, rfl, A6, M, hmu6, hB6, hbx6⟩ := hrel
              have hBs : B ≤ wr.heap.size := by have := hB6.size; rw [hB.out]; exact this
              have ht6 : todo2.length ≤ 100000000 := by unfold mu at hmu6; omega
              have hM := Lib.hid M
              have hMU6 := Lib.hid hmu6
              have HT6 := Lib.hid ht6
              clear M hmu6 ht6
              by_cases hjl : j < x.l.length
              · have t1 : decide ((j : Int) < x.l.length) = true := by simpa using hjl
                obtain ⟨rfl, hbl⟩ := hl3.out (by omega)
                obtain ⟨lz, hlz⟩ : ∃ lz, x.l[j]? = some lz := ⟨_, List.getElem?_eq_getElem hjl⟩
                have hin : lz ∈ x.l := List.mem_of_getElem? hlz
                obtain ⟨p0, p1⟩ := HF.out.labels i x HX.out lz hin
                obtain ⟨pl, rfl⟩ : ∃ pl : Nat, lz = pl := ⟨lz.toNat, by omega⟩
                have g5 := (hB6.cell (p := ⟨bl, offl + j, none⟩) hbl).trans (hl4.out j _ hlz)
                have HTK := Lib.hid (take_snoc x.l j _ hlz)
                have HIN := Lib.hid hin
                clear hlz hin
                go_wp2_with fail
                refine (mark_any A6 pl (m) (by rw [hM.out.base.len]; omega) hnow hBs HT6.out).mono ?_
                rintro e w6 ⟨rfl, A7, K7⟩
                have hB7 : Below w.heap.size w w6 := hB6.trans (by rw [← hB.out]; exact K7.below hBs)
                have hbx7 : w6.heap[bx]? = some (inBox x (.slice (some ⟨bl, offl, none⟩) x.l.length capl)) := (K7.block bx (Array.getElem?_eq_some_iff.1 hbx6).1 (.inr ⟨_, _, hbx6⟩)).trans hbx6
                have hM7 := Lib.hid ((hM.out.mark HF.out pl (.inl HIN.out)).mono (dn' := fun k => (k : Int) ∈ x.l.take (j + 1)) (fun k hk => by
                  rw [HTK.out] at hk
                  rcases List.mem_append.1 hk with h | h
                  · exact .inl h
                  · exact .inr (by simp at h; omega)))
                have hMU7 := Lib.hid (Nat.le_trans (Nat.add_le_add_right (markS_mu st2 todo2 pl (m) (by rw [hM.out.base.len]; omega) hM.out.base.small hnow) 1) hMU6.out)
                clear g5 A6 K7 hB6 hbx6 hM hMU6
                go_wp2
                go_roundw
                case rel => exact ⟨j + 1, _, _, by omega, by go_num, A7, hM7.out, hMU7.out, hB7, hbx7⟩
                case measure => simp [intOf]; omega
              · have t1 : decide ((j : Int) < x.l.length) = false := by simpa using hjl
                obtain rfl : j = x.l.length := by omega
                obtain ⟨y0, y1, y2, y3, y4⟩ := box_cells hbx6
                have hc := falls_any x (.slice oal x.l.length capl) wr
                unfold In.val at hc
                go_wp2_with fail
                refine hc.mono ?_
                clear hc
                rintro e w6 ⟨rfl, hb6⟩
                have A7 := A6.next hb6
                have hB7 := hB6.trans (hb6.mono hB6.size)
                have hBs7 : B ≤ w6.heap.size := Nat.le_trans hBs hb6.size
                clear A6 hB6 hb6 y0 y1 y2 y3 y4 hbx6 hBs
                cases hfl : fallsB x.op with
                | false =>
                  have HFL := Lib.hid hfl
                  clear hfl
                  go_wp2
                  go_roundg (gk - 1)
                  case measure => have := HMU2.out; omega
                  case rel =>
                    refine ⟨st2, todo2, A7, hM.out.fin (fun k hk => ?_), by have := hMU6.out; omega, by omega, by rw [hB.out]; exact hB7⟩
                    rcases hk with h | ⟨h, _⟩
                    · rw [List.take_length]; exact h
                    · rw [HFL.out] at h; cases h
                | true =>
                  have HFL := Lib.hid hfl
                  have hil2 := HF.out.last i x HX.out hfl
                  have hmk := mark_any A7 (i + 1) (m) (by rw [hM.out.base.len]; omega) hnow hBs7 HT6.out
                  rw [Int.natCast_add, Int.natCast_one] at hmk
                  have hmk := Lib.hid hmk
                  clear hfl
                  go_wp2_with fail
                  refine hmk.out.mono ?_
                  rintro e w7 ⟨rfl, A8, K8⟩
                  clear hmk
                  have hB8 : Below w.heap.size w w7 := hB7.trans (by rw [← hB.out]; exact K8.below hBs7)
                  clear A7 hB7 K8 hBs7
                  go_wp2
                  go_roundg (gk - 1)
                  case measure => have := HMU2.out; omega
                  case rel =>
                    refine ⟨_, _, A8, (hM.out.mark HF.out (i + 1) (.inr ⟨HFL.out, rfl⟩)).fin (fun k hk => ?_), ?_, by omega, by rw [hB.out]; exact hB8⟩
                    · rcases hk with h | ⟨_, h⟩
                      · exact .inl (by rw [List.take_length]; exact h)
                      · exact .inr h
                    · have h1 := markS_mu st2 todo2 (i + 1) (m) (by rw [hM.out.base.len]; omega) hM.out.base.small hnow
                      have := hMU6.out
                      omega
          | some rz =>
            rw [writesV_some]
            obtain ⟨q0, q1⟩ := HF.out.writes i x HX.out rz hw
            obtain ⟨r, rfl⟩ : ∃ r : Nat, rz = r := ⟨rz.toNat, by omega⟩
            replace hw := Lib.hid hw
            have HALL := Lib.hid hall
            clear hall
            go_wp2_with fail
            refine (with_any m r hm16 (by omega) _).mono ?_
            rintro e w6 ⟨rfl, rfl⟩
            have hall := HALL.out
            have hnow : m ||| 2 ^ r < 65536 := or_lt hm16 (by omega)
            have M0 := II.out.pop HSI.out HX.out (fun r hr => hall r hr) hnow (fun q _ => by rw [hw.out]; exact or_bit m r q)
            have hM0 := Lib.hid M0
            clear M0 hall
            obtain ⟨y0, y1, y2, y3, y4⟩ := box_cells hbx5
            go_wp2_with fail
            go_loopw [74] (fun u wy => ∃ (j : Nat) (st : Md) (todo : List Int), j ≤ x.l.length ∧ u = .int .i64 j ∧ WAt B (B + 1 + 1 + 1) (B + 1 + 1) (B + 1) B (B + 1 + 1 + 1 + 1) wy st todo ∧ Mid f z.testBit st todo i m (m ||| 2 ^ r) x (fun k => (k : Int) ∈ x.l.take j) ∧ mu st todo + 1 ≤ gk ∧ Below w.heap.size w wy ∧ wy.heap[bx]? = some (inBox x (.slice oal x.l.length capl))) (fun u _ => x.l.length - (intOf u).toNat)
            case atStart => exact ⟨0, st, todo, by omega, rfl, A5, hM0.out.mono (fun k hk => by simp at hk), by have := HMU.out; have := HL.out; unfold mu at *; rw [List.length_append, List.length_singleton] at *; omega, hB5, hbx5⟩
            case round =>
              clear A5 hB5 hbx5 y0 y1 y2 y3 y4 hM0
              obtain ⟨j, st2, todo2, hj, rfl, A6, M, hmu6, hB6, hbx6⟩ := hrel
              have hBs : B ≤ wr.heap.size := by have := hB6.size; rw [hB.out]; exact this
              have ht6 : todo2.length ≤ 100000000 := by unfold mu at hmu6; omega
              have hM := Lib.hid M
              have hMU6 := Lib.hid hmu6
              have HT6 := Lib.hid ht6
              clear M hmu6 ht6
              by_cases hjl : j < x.l.length
              · have t1 : decide ((j : Int) < x.l.length) = true := by simpa using hjl
                obtain ⟨rfl, hbl⟩ := hl3.out (by omega)
                obtain ⟨lz, hlz⟩ : ∃ lz, x.l[j]? = some lz := ⟨_, List.getElem?_eq_getElem hjl⟩
                have hin : lz ∈ x.l := List.mem_of_getElem? hlz
                obtain ⟨p0, p1⟩ := HF.out.labels i x HX.out lz hin
                obtain ⟨pl, rfl⟩ : ∃ pl : Nat, lz = pl := ⟨lz.toNat, by omega⟩
                have g5 := (hB6.cell (p := ⟨bl, offl + j, none⟩) hbl).trans (hl4.out j _ hlz)
                have HTK := Lib.hid (take_snoc x.l j _ hlz)
                have HIN := Lib.hid hin
                clear hlz hin
                go_wp2_with fail
                refine (mark_any A6 pl (m ||| 2 ^ r) (by rw [hM.out.base.len]; omega) hnow hBs HT6.out).mono ?_
                rintro e w6 ⟨rfl, A7, K7⟩
                have hB7 : Below w.heap.size w w6 := hB6.trans (by rw [← hB.out]; exact K7.below hBs)
                have hbx7 : w6.heap[bx]? = some (inBox x (.slice (some ⟨bl, offl, none⟩) x.l.length capl)) := (K7.block bx (Array.getElem?_eq_some_iff.1 hbx6).1 (.inr ⟨_, _, hbx6⟩)).trans hbx6
                have hM7 := Lib.hid ((hM.out.mark HF.out pl (.inl HIN.out)).mono (dn' := fun k => (k : Int) ∈ x.l.take (j + 1)) (fun k hk => by
                  rw [HTK.out] at hk
                  rcases List.mem_append.1 hk with h | h
                  · exact .inl h
                  · exact .inr (by simp at h; omega)))
                have hMU7 := Lib.hid (Nat.le_trans (Nat.add_le_add_right (markS_mu st2 todo2 pl (m ||| 2 ^ r) (by rw [hM.out.base.len]; omega) hM.out.base.small hnow) 1) hMU6.out)
                clear g5 A6 K7 hB6 hbx6 hM hMU6
                go_wp2
                go_roundw
                case rel => exact ⟨j + 1, _, _, by omega, by go_num, A7, hM7.out, hMU7.out, hB7, hbx7⟩
                case measure => simp [intOf]; omega
              · have t1 : decide ((j : Int) < x.l.length) = false := by simpa using hjl
                obtain rfl : j = x.l.length := by omega
                obtain ⟨y0, y1, y2, y3, y4⟩ := box_cells hbx6
                have hc := falls_any x (.slice oal x.l.length capl) wr
                unfold In.val at hc
                go_wp2_with fail
                refine hc.mono ?_
                clear hc
                rintro e w6 ⟨rfl, hb6⟩
                have A7 := A6.next hb6
                have hB7 := hB6.trans (hb6.mono hB6.size)
                have hBs7 : B ≤ w6.heap.size := Nat.le_trans hBs hb6.size
                clear A6 hB6 hb6 y0 y1 y2 y3 y4 hbx6 hBs
                cases hfl : fallsB x.op with
                | false =>
                  have HFL := Lib.hid hfl
                  clear hfl
                  go_wp2
                  go_roundg (gk - 1)
                  case measure => have := HMU2.out; omega
                  case rel =>
                    refine ⟨st2, todo2, A7, hM.out.fin (fun k hk => ?_), by have := hMU6.out; omega, by omega, by rw [hB.out]; exact hB7⟩
                    rcases hk with h | ⟨h, _⟩
                    · rw [List.take_length]; exact h
                    · rw [HFL.out] at h; cases h
                | true =>
                  have HFL := Lib.hid hfl
                  have hil2 := HF.out.last i x HX.out hfl
                  have hmk := mark_any A7 (i + 1) (m ||| 2 ^ r) (by rw [hM.out.base.len]; omega) hnow hBs7 HT6.out
                  rw [Int.natCast_add, Int.natCast_one] at hmk
                  have hmk := Lib.hid hmk
                  clear hfl
                  go_wp2_with fail
                  refine hmk.out.mono ?_
                  rintro e w7 ⟨rfl, A8, K8⟩
                  clear hmk
                  have hB8 : Below w.heap.size w w7 := hB7.trans (by rw [← hB.out]; exact K8.below hBs7)
                  clear A7 hB7 K8 hBs7
                  go_wp2
                  go_roundg (gk - 1)
                  case measure => have := HMU2.out; omega
                  case rel =>
                    refine ⟨_, _, A8, (hM.out.mark HF.out (i + 1) (.inr ⟨HFL.out, rfl⟩)).fin (fun k hk => ?_), ?_, by omega, by rw [hB.out]; exact hB8⟩
                    · rcases hk with h | ⟨_, h⟩
                      · exact .inl (by rw [List.take_length]; exact h)
                      · exact .inr h
                    · have h1 := markS_mu st2 todo2 (i + 1) (m ||| 2 ^ r) (by rw [hM.out.base.len]; omega) hM.out.base.small hnow
                      have := hMU6.out
                      omega
end Go.Proofs.YtobhfmliaecbjaaDoor
