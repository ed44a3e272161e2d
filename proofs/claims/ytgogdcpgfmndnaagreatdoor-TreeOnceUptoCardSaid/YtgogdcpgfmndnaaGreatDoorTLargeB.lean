/-
  Large, of the document's own: it answers, whatever it answers. Conditions: the source lies in the heap.
-/
import Derived.Test.YtgogdcpgfmndnaaGreatDoorTLarge
namespace Go.Proofs.YtgogdcpgfmndnaaGreatDoor
open Go.RowKit

def SomeB (e : Ending) : Prop := ∃ b : Bool, e = .returned (.bool b)

set_option maxRecDepth 100000 in
set_option maxHeartbeats 16000000 in
theorem large_any (n : Nat) (s : So5) (most : Int) (w : World) (hS : SoH n w s) : Calls Tryz.prog 9 #[soV s, .int .i64 most] w fun e w' => SomeB e ∧ Below w.heap.size w w' := by
  obtain ⟨⟨sa, sc⟩, ss, ⟨ea, ec⟩, es, ⟨fa, fc⟩, fs⟩ := s
  obtain ⟨⟨s1, s2, s3, s4⟩, ⟨e1, e2, e3, e4⟩, f1, f2, f3, f4⟩ := hS
  dsimp only at s1 s2 s3 s4 e1 e2 e3 e4 f1 f2 f3 f4
  unfold maxLen at s2 e2 f2
  replace s3 := Lib.hid s3
  replace s4 := Lib.hid s4
  replace e3 := Lib.hid e3
  replace e4 := Lib.hid e4
  replace f3 := Lib.hid f3
  replace f4 := Lib.hid f4
  simp only [soV]
  obtain ⟨W0, hW0⟩ : ∃ W, W = w.alloc (.cells #[.slice sa ss.length sc, .slice ea es.length ec, .slice fa fs.length fc] 26) := ⟨_, rfl⟩
  have hb0 : Below w.heap.size w W0 := by rw [hW0]; exact alloc_below _ _
  have hx0 : W0.heap[w.heap.size]? = some (.cells #[.slice sa ss.length sc, .slice ea es.length ec, .slice fa fs.length fc] 26) := by rw [hW0, heap_alloc_new]
  have HB0 := Lib.hid hb0
  have HX0 := Lib.hid hx0
  clear hb0 hx0
  go_enter Tryz.func9, Tryz.ntmps9
  go_wp2_with fail
  rw [← hW0]
  clear hW0
  go_loopw [5, 6] (fun s u wr => (∃ z : Int, s = .int .i64 z) ∧ ∃ j : Nat, j ≤ ss.length ∧ u = .int .i64 j ∧ Below w.heap.size w wr ∧ wr.heap[w.heap.size]? = some (.cells #[.slice sa ss.length sc, .slice ea es.length ec, .slice fa fs.length fc] 26)) (fun _ u _ => ss.length - (intOf u).toNat)
  case atStart => exact ⟨⟨_, rfl⟩, 0, by omega, rfl, HB0.out, HX0.out⟩
  case round =>
    clear HB0 HX0
    obtain ⟨⟨z, rfl⟩, j, hj, rfl, hbw, hx⟩ := hrel
    obtain ⟨y0, y1, y2, -, hlt0⟩ := cells3 hx
    by_cases hjl : j < ss.length
    · have t1 : decide ((j : Int) < ss.length) = true := by simp; omega
      obtain ⟨ba, offa, rfl, hlt, hcell⟩ := s3.out (by omega)
      obtain ⟨x, hxj⟩ : ∃ x, ss[j]? = some x := ⟨_, List.getElem?_eq_getElem hjl⟩
      have hmem := s4.out x (List.mem_of_getElem? hxj)
      obtain ⟨un, ud, uh, uf, up⟩ := x
      have hc := Lib.hid (fieldSize_any n uh uf wr (Row.below hmem hbw fun _ _ hx => FdH.below hx hbw))
      have q2 : wr.cell? ⟨ba, offa + j * 4 + 2, none⟩ = some (.slice uh.oa uf.length uh.cap) := (hbw.cell (p := ⟨ba, offa + j * 4 + 2, none⟩) hlt).trans (by simpa using hcell j _ hxj 2 _ rfl)
      have HX := Lib.hid hx
      have HBW := Lib.hid hbw
      clear hxj hcell hmem hx hbw
      go_wp2_with (go_at_call 22; refine hc.out.mono ?_; rintro e w1 ⟨⟨z1, rfl⟩, hb1⟩; have HB1 := Lib.hid (HBW.out.trans (hb1.mono HBW.out.size)); have HX1 := Lib.hid ((hb1.block _ hlt0).trans HX.out); clear hb1)
      go_roundw
      case rel => exact ⟨⟨_, rfl⟩, j + 1, by omega, by go_num, HB1.out, HX1.out⟩
      case measure => simp [intOf]; omega
    · have t1 : decide ((j : Int) < ss.length) = false := by simp; omega
      obtain rfl : j = ss.length := by omega
      obtain ⟨w1, rfl⟩ : ∃ w1 : World, w1 = wr := ⟨_, rfl⟩
      have HB1 := Lib.hid hbw
      have HX1 := Lib.hid hx
      clear hx hbw
      go_wp2_with fail
      clear y0 y1 y2
      go_loopw [5, 7, 8] (fun s u _ wr => (∃ z : Int, s = .int .i64 z) ∧ ∃ j : Nat, j ≤ es.length ∧ u = .int .i64 j ∧ Below w.heap.size w wr ∧ wr.heap[w.heap.size]? = some (.cells #[.slice sa ss.length sc, .slice ea es.length ec, .slice fa fs.length fc] 26)) (fun _ u _ _ => es.length - (intOf u).toNat)
      case atStart => exact ⟨⟨_, rfl⟩, 0, by omega, rfl, HB1.out, HX1.out⟩
      case round =>
        clear HB1 HX1 hlt0
        obtain ⟨⟨z2, rfl⟩, i, hi, rfl, hbw, hx⟩ := hrel
        obtain ⟨y0, y1, y2, -, hlt0⟩ := cells3 hx
        by_cases hil : i < es.length
        · have t2 : decide ((i : Int) < es.length) = true := by simp; omega
          obtain ⟨ba, offa, rfl, hlt, hcell⟩ := e3.out (by omega)
          obtain ⟨x, hxj⟩ : ∃ x, es[i]? = some x := ⟨_, List.getElem?_eq_getElem hil⟩
          have hmem := e4.out x (List.mem_of_getElem? hxj)
          obtain ⟨en, ⟨va, vc⟩, ev, ep⟩ := x
          obtain ⟨v1, v2, v3, v4⟩ := hmem
          dsimp only at v1 v2 v3 v4
          unfold maxLen at v2
          have hq1 : ∀ wr', Below w.heap.size w wr' → wr'.cell? ⟨ba, offa + i * 3 + 1, none⟩ = some (.slice va ev.length vc) := fun wr' h => (h.cell (p := ⟨ba, offa + i * 3 + 1, none⟩) hlt).trans (by simpa using hcell i _ hxj 1 _ rfl)
          have HQ1 := Lib.hid hq1
          replace v3 := Lib.hid v3
          replace v4 := Lib.hid v4
          have HBW := Lib.hid hbw
          have HX := Lib.hid hx
          obtain ⟨wo, rfl⟩ : ∃ wo : World, wo = wr := ⟨_, rfl⟩
          clear hxj hcell hq1 hx hbw
          go_wp2_with fail
          clear y0 y1 y2 hlt0
          go_loopw [5, 8] (fun s u wr => (∃ z : Int, s = .int .i64 z) ∧ ∃ k : Nat, k ≤ ev.length ∧ u = .int .i64 k ∧ Below w.heap.size w wr ∧ wr.heap[w.heap.size]? = some (.cells #[.slice sa ss.length sc, .slice (some ⟨ba, offa, none⟩) es.length ec, .slice fa fs.length fc] 26)) (fun _ u _ => ev.length - (intOf u).toNat)
          case atStart => exact ⟨⟨_, rfl⟩, 0, by omega, rfl, HBW.out, HX.out⟩
          case round =>
            clear HBW HX
            obtain ⟨⟨z3, rfl⟩, k, hk, rfl, hbw, hx⟩ := hrel
            obtain ⟨y0, y1, y2, -, hlt0⟩ := cells3 hx
            have q1 := HQ1.out wr hbw
            by_cases hkl : k < ev.length
            · have t3 : decide ((k : Int) < ev.length) = true := by simp; omega
              obtain ⟨bb, offb, rfl, hltb, hcellb⟩ := v3.out (by omega)
              obtain ⟨x, hxj⟩ : ∃ x, ev[k]? = some x := ⟨_, List.getElem?_eq_getElem hkl⟩
              have hmem := v4.out x (List.mem_of_getElem? hxj)
              obtain ⟨fn1, ⟨k1, nm1, h1, l1⟩⟩ := x
              have hc := tySize_any n (.mk k1 nm1 h1 l1) wr (TyH.below n hmem hbw)
              simp only [tyV, tyC] at hc
              replace hc := Lib.hid hc
              have g0 : wr.cell? ⟨bb, offb + k * 4 + 1, none⟩ = some (.int .i64 k1) := (hbw.cell (p := ⟨bb, offb + k * 4 + 1, none⟩) hltb).trans (by simpa using hcellb k _ hxj 1 _ rfl)
              have g1 : wr.cell? ⟨bb, offb + k * 4 + 1 + 1, none⟩ = some (.string nm1) := (hbw.cell (p := ⟨bb, offb + k * 4 + 1 + 1, none⟩) hltb).trans (by simpa using hcellb k _ hxj 2 _ rfl)
              have g2 : wr.cell? ⟨bb, offb + k * 4 + 1 + 2, none⟩ = some (.slice h1.oa l1.length h1.cap) := (hbw.cell (p := ⟨bb, offb + k * 4 + 1 + 2, none⟩) hltb).trans (by simpa using hcellb k _ hxj 3 _ rfl)
              have HX := Lib.hid hx
              have HBW := Lib.hid hbw
              clear hxj hcellb hmem hx hbw
              go_wp2_with (go_at_call 23; refine hc.out.mono ?_; rintro e w1 ⟨⟨z1, rfl⟩, hb1⟩; have HB1 := Lib.hid (HBW.out.trans (hb1.mono HBW.out.size)); have HX1 := Lib.hid ((hb1.block _ hlt0).trans HX.out); clear hb1)
              go_roundw
              case rel => exact ⟨⟨_, rfl⟩, k + 1, by omega, by go_num, HB1.out, HX1.out⟩
              case measure => simp [intOf]; omega
            · have t3 : decide ((k : Int) < ev.length) = false := by simp; omega
              obtain rfl : k = ev.length := by omega
              have HX := Lib.hid hx
              have HBW := Lib.hid hbw
              clear hx hbw
              go_wp2
              go_roundw
              case rel => exact ⟨⟨_, rfl⟩, i + 1, by omega, by go_num, HBW.out, HX.out⟩
              case measure => simp [intOf]; omega
        · have t2 : decide ((i : Int) < es.length) = false := by simp; omega
          obtain rfl : i = es.length := by omega
          obtain ⟨w2, rfl⟩ : ∃ w2 : World, w2 = wr := ⟨_, rfl⟩
          have HB1 := Lib.hid hbw
          have HX1 := Lib.hid hx
          clear hx hbw
          go_wp2_with fail
          clear y0 y1 y2
          go_loopw [5, 9] (fun s u wr => (∃ z : Int, s = .int .i64 z) ∧ ∃ j : Nat, j ≤ fs.length ∧ u = .int .i64 j ∧ Below w.heap.size w wr ∧ wr.heap[w.heap.size]? = some (.cells #[.slice sa ss.length sc, .slice ea es.length ec, .slice fa fs.length fc] 26)) (fun _ u _ => fs.length - (intOf u).toNat)
          case atStart => exact ⟨⟨_, rfl⟩, 0, by omega, rfl, HB1.out, HX1.out⟩
          case round =>
            clear HB1 HX1 hlt0
            obtain ⟨⟨z4, rfl⟩, q, hq, rfl, hbw, hx⟩ := hrel
            obtain ⟨y0, y1, y2, -, hlt0⟩ := cells3 hx
            by_cases hql : q < fs.length
            · have t3 : decide ((q : Int) < fs.length) = true := by simp; omega
              obtain ⟨ba, offa, rfl, hlt, hcell⟩ := f3.out (by omega)
              obtain ⟨x, hxj⟩ : ∃ x, fs[q]? = some x := ⟨_, List.getElem?_eq_getElem hql⟩
              have hmem := f4.out x (List.mem_of_getElem? hxj)
              obtain ⟨gn, gh, gp, gi, gb, gq⟩ := x
              have hc1 := Lib.hid (fun W (hW : Below wr.heap.size wr W) => fieldSize_any n gh gp W (Row.below hmem.1 (hbw.trans (hW.mono hbw.size)) fun _ _ hx => FdH.below hx (hbw.trans (hW.mono hbw.size))))
              have hc2 := Lib.hid (fun W (hW : Below wr.heap.size wr W) => blockSize_any n gi gb W (Row.below hmem.2 (hbw.trans (hW.mono hbw.size)) fun _ _ hx => StH.below hx (hbw.trans (hW.mono hbw.size))))
              have hqq : ∀ w', Below wr.heap.size wr w' → w'.cell? ⟨w.heap.size, 2, none⟩ = some (.slice (some ⟨ba, offa, none⟩) fs.length fc) ∧ w'.cell? ⟨ba, offa + q * 4 + 1, none⟩ = some (.slice gh.oa gp.length gh.cap) ∧ w'.cell? ⟨ba, offa + q * 4 + 2, none⟩ = some (.slice gi.oa gb.length gi.cap) := fun w' h => by
                have hb2 := hbw.trans (h.mono hbw.size)
                exact ⟨(h.cell (p := ⟨w.heap.size, 2, none⟩) hlt0).trans y2, (hb2.cell (p := ⟨ba, offa + q * 4 + 1, none⟩) hlt).trans (by simpa using hcell q _ hxj 1 _ rfl), (hb2.cell (p := ⟨ba, offa + q * 4 + 2, none⟩) hlt).trans (by simpa using hcell q _ hxj 2 _ rfl)⟩
              clear y0 y1 y2
              obtain ⟨p0, p1, p2⟩ := hqq wr (Below.refl _ _)
              have y2 := p0
              have HQ := Lib.hid hqq
              have HX := Lib.hid hx
              have HBW := Lib.hid hbw
              clear hxj hcell hmem hx hbw hqq
              go_wp2_with fail
              go_region_held3 (fun w' => w'.cell? ⟨w.heap.size, 2, none⟩ = some (.slice (some ⟨ba, offa, none⟩) fs.length fc) ∧ w'.cell? ⟨ba, offa + q * 4 + 1, none⟩ = some (.slice gh.oa gp.length gh.cap) ∧ w'.cell? ⟨ba, offa + q * 4 + 2, none⟩ = some (.slice gi.oa gb.length gi.cap)) (first | (refine ⟨?_, ?_, ?_⟩ <;> assumption) | go_keep)
                (first
                  | (go_at_call 22; refine (hc1.out wr.drew (by exact (Below.refl _ _).drew)).mono ?_; rintro e w3 ⟨⟨z5, rfl⟩, hb3'⟩; have hb3 := undrew2 hb3'; obtain ⟨x0, x1, x2⟩ := HQ.out w3 hb3; have HK3 := Lib.hid hb3; clear hb3' hb3)
                  | (go_at_call 24; refine (hc2.out w3 HK3.out).mono ?_; rintro e w4 ⟨⟨z6, rfl⟩, hb4⟩; have HK4 := Lib.hid (HK3.out.trans (hb4.mono HK3.out.size)); obtain ⟨r0, r1, r2⟩ := HQ.out w4 HK4.out; clear hb4))
              have HB4 := Lib.hid (HBW.out.trans (HK4.out.mono HBW.out.size))
              have HX4 := Lib.hid ((HK4.out.block _ hlt0).trans HX.out)
              clear p0 p1 p2 x0 x1 x2 r0 r1 r2 y2
              go_wp2
              go_roundw
              case rel => exact ⟨⟨_, rfl⟩, q + 1, by omega, by go_num, HB4.out, HX4.out⟩
              case measure => simp [intOf]; omega
            · have t3 : decide ((q : Int) < fs.length) = false := by simp; omega
              obtain rfl : q = fs.length := by omega
              have HBW := Lib.hid hbw
              clear hx hbw
              go_wp2
              go_ret
              exact ⟨⟨_, rfl⟩, HBW.out⟩
end Go.Proofs.YtgogdcpgfmndnaaGreatDoor
