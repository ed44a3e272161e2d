/-
  Text of tree, whatever source it writes. Conditions: the source lies in the heap; its text is not longer than 10^14.
-/
import Derived.Test.YtgogdcpgfmndnaaGreatDoorTStmW
import Derived.Test.YtgogdcpgfmndnaaGreatDoorTText
namespace Go.Proofs.YtgogdcpgfmndnaaGreatDoor
open Go.RowKit

def parT (f : Fn5) : ByteArray := strB (listT fieldT f.params)
def textT (s : So5) : List UInt8 := s.structs.flatMap structT ++ s.enums.flatMap enumT ++ s.fns.flatMap (fnT stT parT)

theorem structure_any (n : Nat) (s : Su5) (b : Nat) (bs0 : List UInt8) (w0 w : World) (hS : SuH n w0 s) (h : Stands w0 b 0 bs0 w) (hlen : bs0.length + (structT s).length ≤ 100000000000000) :
    Calls Tryz.prog 46 #[.pointer (some ⟨b, 0, none⟩), suV s] w fun e w' => e = .returned (.tuple #[]) ∧ Stands w0 b 0 (bs0 ++ structT s) w' ∧ Kp w0.heap.size b w w' := by
  obtain ⟨un, ud, uh, uf, up⟩ := s
  cases ud with
  | true => exact (structure_true n un uh uf up b bs0 w0 w hS h.below h.isB hlen).mono fun e w' q => ⟨q.1, h.wrote q.2.1 q.2.2, q.2.2⟩
  | false => exact (structure_false n un uh uf up b bs0 w0 w hS h.below h.isB hlen).mono fun e w' q => ⟨q.1, h.wrote q.2.1 q.2.2, q.2.2⟩

set_option maxRecDepth 100000 in
set_option maxHeartbeats 32000000 in
theorem text_any (n : Nat) (s : So5) (w : World) (hS : SoH n w s) (hV : Vz w) (hlen : (textT s).length ≤ 100000000000000) : Calls Tryz.prog 14 #[soV s] w fun e w' => e = .returned (.string (strB (textT s))) ∧ Below w.heap.size w w' := by
  obtain ⟨⟨sa, sc⟩, ss, ⟨ea, ec⟩, es, ⟨fa, fc⟩, fs⟩ := s
  obtain ⟨⟨s1, s2, s3, s4⟩, ⟨e1, e2, e3, e4⟩, f1, f2, f3, f4⟩ := hS
  dsimp only at s1 s2 s3 s4 e1 e2 e3 e4 f1 f2 f3 f4
  unfold maxLen at s2 e2 f2
  replace s3 := Lib.hid s3
  replace s4 := Lib.hid s4
  replace e3 := Lib.hid e3
  replace e4 := Lib.hid e4
  replace f3 := Lib.hid f3
  replace f4 := Lib.hid f4
  have HSA := Lib.hid (fun (b : Nat) => statement_any n b w hV)
  clear hV
  obtain ⟨R, hR⟩ : ∃ R, R = textT ⟨⟨sa, sc⟩, ss, ⟨ea, ec⟩, es, ⟨fa, fc⟩, fs⟩ := ⟨_, rfl⟩
  rw [← hR] at hlen ⊢
  replace hR : R = ss.flatMap structT ++ es.flatMap enumT ++ fs.flatMap (fnT stT parT) := hR
  have hlR : (ss.flatMap structT).length + (es.flatMap enumT).length + (fs.flatMap (fnT stT parT)).length ≤ 100000000000000 := by rw [hR] at hlen; simpa only [List.length_append] using hlen
  have HR := Lib.hid hR
  clear hR hlen
  simp only [soV]
  obtain ⟨W0, hW0⟩ : ∃ W, W = (w.alloc (.cells #[.slice sa ss.length sc, .slice ea es.length ec, .slice fa fs.length fc] 26)).alloc (.cells #[.pointer none, .slice none 0 0, .int .i64 0] 96) := ⟨_, rfl⟩
  have hb0 : Below w.heap.size w W0 := by rw [hW0]; exact ((Below.refl _ _).alloc (Nat.le_refl _) _).alloc (by simp) _
  have hbx : W0.heap[w.heap.size]? = some (.cells #[.slice sa ss.length sc, .slice ea es.length ec, .slice fa fs.length fc] 26) := by rw [hW0, heap_alloc_old _ _ (by simp), heap_alloc_new]
  have hI : IsB3 (.int .i64 0) w.heap.size (w.heap.size + 1) (Lib.byteCells []) W0 := by
    rw [hW0]
    refine .inl ⟨by simp, .slice none 0 0, by simpa using heap_alloc_new (w.alloc (.cells #[.slice sa ss.length sc, .slice ea es.length ec, .slice fa fs.length fc] 26)) (.cells #[.pointer none, .slice none 0 0, .int .i64 0] 96), World.ownsRowF_of (World.ownsRow_nil _ _ _ _), by simp [Value.ownBlock]⟩
  have HS0 := Lib.hid (show Stands w (w.heap.size + 1) 0 [] W0 from ⟨hI, hb0⟩)
  have HX0 := Lib.hid hbx
  have z0 : W0.cell? ⟨w.heap.size, 0, none⟩ = some (.slice sa ss.length sc) := by simp [World.cell?, hbx]
  clear hb0 hI hbx
  go_enter Tryz.func14, Tryz.ntmps14
  go_upto_region 2 with fail
  rw [← hW0]
  clear hW0
  go_wp2_with fail
  go_loopw [13] (fun u wr => ∃ j : Nat, j ≤ ss.length ∧ u = .int .i64 j ∧ Stands w (w.heap.size + 1) 0 ((ss.take j).flatMap structT) wr ∧ wr.heap[w.heap.size]? = some (.cells #[.slice sa ss.length sc, .slice ea es.length ec, .slice fa fs.length fc] 26)) (fun u _ => ss.length - (intOf u).toNat)
  case atStart => exact ⟨0, by omega, rfl, by simpa using HS0.out, HX0.out⟩
  case round =>
    clear HS0 HX0
    obtain ⟨j, hj, rfl, hst, hxb⟩ := hrel
    obtain ⟨wo, rfl⟩ : ∃ wo : World, wo = wr := ⟨_, rfl⟩
    by_cases hjl : j < ss.length
    · have t1 : decide ((j : Int) < ss.length) = true := by simp; omega
      obtain ⟨ba, offa, rfl, hlt, hcell⟩ := s3.out (by omega)
      obtain ⟨x, hx⟩ : ∃ x, ss[j]? = some x := ⟨_, List.getElem?_eq_getElem hjl⟩
      have HSN := Lib.hid (flatMap_snoc structT ss j x hx)
      have hln := flatMap_len structT ss j x hx
      have hmem := s4.out x (List.mem_of_getElem? hx)
      have hbw := hst.below
      have hob := hst.isB.lt
      obtain ⟨pre, hpre⟩ : ∃ q, q = (ss.take j).flatMap structT := ⟨_, rfl⟩
      rw [← hpre] at hst
      have hprl : pre.length = ((ss.take j).flatMap structT).length := by rw [hpre]
      skip
      have HPRE := Lib.hid hpre
      clear hpre
      have hcall := Lib.hid (fun W (hW : Stands w (w.heap.size + 1) 0 pre W) => structure_any n x (w.heap.size + 1) pre w W hmem hW (by omega))
      obtain ⟨ST, hST⟩ : ∃ t, t = structT x := ⟨_, rfl⟩
      rw [← hST] at hcall HSN hln
      clear hST
      obtain ⟨un, ud, uh, uf, up⟩ := x
      have hcall2 := hcall.out
      clear hcall
      simp only [suV, suC] at hcall2
      have hcall := Lib.hid hcall2
      clear hcall2
      have g0 : wo.cell? ⟨ba, offa + j * 4, none⟩ = some (.string un) := (hbw.cell (p := ⟨ba, offa + j * 4, none⟩) hlt).trans (by simpa using hcell j _ hx 0 _ rfl)
      have g1 : wo.cell? ⟨ba, offa + j * 4 + 1, none⟩ = some (.bool ud) := (hbw.cell (p := ⟨ba, offa + j * 4 + 1, none⟩) hlt).trans (by simpa using hcell j _ hx 1 _ rfl)
      have g2 : wo.cell? ⟨ba, offa + j * 4 + 2, none⟩ = some (.slice uh.oa uf.length uh.cap) := (hbw.cell (p := ⟨ba, offa + j * 4 + 2, none⟩) hlt).trans (by simpa using hcell j _ hx 2 _ rfl)
      have g3 : wo.cell? ⟨ba, offa + j * 4 + 3, none⟩ = some (.int .i64 up) := (hbw.cell (p := ⟨ba, offa + j * 4 + 3, none⟩) hlt).trans (by simpa using hcell j _ hx 3 _ rfl)
      have hb2 := alloc_below wo (.cells #[.string un, .bool ud, .slice uh.oa uf.length uh.cap, .int .i64 up] 65)
      have hx2 := heap_alloc_new wo (.cells #[.string un, .bool ud, .slice uh.oa uf.length uh.cap, .int .i64 up] 65)
      have S0 := Lib.hid (hst.call hb2)
      have R0 := Lib.hid (keepB hxb hb2)
      obtain ⟨W1, hW1⟩ : ∃ W, W = wo.alloc (.cells #[.string un, .bool ud, .slice uh.oa uf.length uh.cap, .int .i64 up] 65) := ⟨_, rfl⟩
      obtain ⟨ax, hax⟩ : ∃ ax, ax = wo.heap.size := ⟨_, rfl⟩
      rw [← hax] at hx2
      rw [← hW1] at hx2 S0 R0
      have hne : ax ≠ w.heap.size + 1 := by omega
      have HZ := Lib.hid (show ∀ w' : World, w'.heap[ax]? = some (.cells #[.string un, .bool ud, .slice uh.oa uf.length uh.cap, .int .i64 up] 65) → w'.cell? ⟨ax, 0, none⟩ = some (.string un) ∧ w'.cell? ⟨ax, 1, none⟩ = some (.bool ud) ∧ w'.cell? ⟨ax, 2, none⟩ = some (.slice uh.oa uf.length uh.cap) ∧ w'.cell? ⟨ax, 3, none⟩ = some (.int .i64 up) from fun w' h => by simp [World.cell?, h])
      have X0 := Lib.hid hx2
      obtain ⟨y0, y1, y2, y3⟩ := HZ.out W1 hx2
      clear hx hcell hmem hlt hbw hst hxb hb2 hx2
      go_upto_region 5 with fail
      rw [← hW1, ← hax]
      clear hW1 hax g0 g1 g2 g3
      go_wp2_with (go_at_call 46; refine (hcall.out _ S0.out).mono ?_; rintro e w9 ⟨rfl, hq1, hq2⟩; have S8 := Lib.hid hq1; have R8 := Lib.hid (kp_block hq2 R0.out (by omega) (by decide)); clear hq1 hq2)
      have S9 := Lib.hid (show Stands w (w.heap.size + 1) 0 ((ss.take (j + 1)).flatMap structT) w9 by rw [HSN.out, ← HPRE.out]; exact S8.out)
      go_roundw
      case rel => exact ⟨j + 1, by omega, by go_num, S9.out, R8.out⟩
      case measure => simp [intOf]; omega
    · have t1 : decide ((j : Int) < ss.length) = false := by simp; omega
      obtain rfl : j = ss.length := by omega
      rw [List.take_length] at hst
      obtain ⟨z0, z1, z2, -, hlt0⟩ := cells3 hxb
      have HS1 := Lib.hid hst
      have HX1 := Lib.hid hxb
      obtain ⟨wq, rfl⟩ : ∃ wq : World, wq = wo := ⟨_, rfl⟩
      clear hst hxb hjl hj
      go_wp2_with fail
      clear z0 z1 z2 hlt0
      go_loopw [23] (fun u wr => ∃ j : Nat, j ≤ es.length ∧ u = .int .i64 j ∧ Stands w (w.heap.size + 1) 0 (ss.flatMap structT ++ (es.take j).flatMap enumT) wr ∧ wr.heap[w.heap.size]? = some (.cells #[.slice sa ss.length sc, .slice ea es.length ec, .slice fa fs.length fc] 26)) (fun u _ => es.length - (intOf u).toNat)
      case atStart => exact ⟨0, by omega, rfl, by simpa using HS1.out, HX1.out⟩
      case round =>
        clear HS1 HX1
        obtain ⟨j, hj, rfl, hst, hxb⟩ := hrel
        obtain ⟨wo, rfl⟩ : ∃ wo : World, wo = wr := ⟨_, rfl⟩
        by_cases hjl : j < es.length
        · have t1 : decide ((j : Int) < es.length) = true := by simp; omega
          obtain ⟨ba, offa, rfl, hlt, hcell⟩ := e3.out (by omega)
          obtain ⟨x, hx⟩ : ∃ x, es[j]? = some x := ⟨_, List.getElem?_eq_getElem hjl⟩
          have HSN := Lib.hid (flatMap_snoc enumT es j x hx)
          have hln := flatMap_len enumT es j x hx
          have hmem := e4.out x (List.mem_of_getElem? hx)
          have hbw := hst.below
          have hob := hst.isB.lt
          obtain ⟨pre, hpre⟩ : ∃ q, q = ss.flatMap structT ++ (es.take j).flatMap enumT := ⟨_, rfl⟩
          rw [← hpre] at hst
          have hprl : pre.length = (ss.flatMap structT).length + ((es.take j).flatMap enumT).length := by rw [hpre, List.length_append]
          skip
          have HPRE := Lib.hid hpre
          clear hpre
          obtain ⟨en, ⟨va, vc⟩, ev, ep⟩ := x
          have hET : enumT ⟨en, ⟨va, vc⟩, ev, ep⟩ = lineT 0 [⟨#[101, 110, 117, 109, 32]⟩, en, strB (bracesT vaT ev)] := rfl
          rw [hET] at hln
          have HET := Lib.hid hET
          have hl : (bracesT vaT ev).length ≤ 100000000000000 := by
            have h1 := mem_line 0 [⟨#[101, 110, 117, 109, 32]⟩, en, strB (bracesT vaT ev)] (strB (bracesT vaT ev)) (by simp)
            rw [strB_size] at h1
            omega
          have hc := Lib.hid (fun W (hW : Below w.heap.size w W) => bracesVa_any n ⟨va, vc⟩ ev W (Row.below hmem hW fun _ _ hx => FdH.below hx hW) hl)
          have hc2 := hc.out
          clear hc
          dsimp only at hc2
          generalize strB (bracesT vaT ev) = TX at hc2 hln HET
          have hc := Lib.hid hc2
          have HL := Lib.hid (show ∀ W : World, Stands w (w.heap.size + 1) 0 pre W → Calls Tryz.prog 47 #[.pointer (some ⟨w.heap.size + 1, 0, none⟩), .slice (some ⟨W.heap.size, 0, none⟩) 3 3] (W.alloc (.cells #[.string ⟨#[101, 110, 117, 109, 32]⟩, .string en, .string TX] 9)) fun e w' => e = .returned (.tuple #[]) ∧ Stands w (w.heap.size + 1) 0 (pre ++ lineT 0 [⟨#[101, 110, 117, 109, 32]⟩, en, TX]) w' ∧ Kp w.heap.size (w.heap.size + 1) W w' from fun W h => line_st 0 (w.heap.size + 1) 3 pre [⟨#[101, 110, 117, 109, 32]⟩, en, TX] W h (by simp) (by omega))
          clear hc2 hET hl
          have g0 : wo.cell? ⟨ba, offa + j * 3, none⟩ = some (.string en) := (hbw.cell (p := ⟨ba, offa + j * 3, none⟩) hlt).trans (by simpa using hcell j _ hx 0 _ rfl)
          have g1 : wo.cell? ⟨ba, offa + j * 3 + 1, none⟩ = some (.slice va ev.length vc) := (hbw.cell (p := ⟨ba, offa + j * 3 + 1, none⟩) hlt).trans (by simpa using hcell j _ hx 1 _ rfl)
          have g2 : wo.cell? ⟨ba, offa + j * 3 + 2, none⟩ = some (.int .i64 ep) := (hbw.cell (p := ⟨ba, offa + j * 3 + 2, none⟩) hlt).trans (by simpa using hcell j _ hx 2 _ rfl)
          have hb2 := alloc_below wo (.cells #[.string en, .slice va ev.length vc, .int .i64 ep] 68)
          have hx2 := heap_alloc_new wo (.cells #[.string en, .slice va ev.length vc, .int .i64 ep] 68)
          have S0 := Lib.hid (hst.call hb2)
          have R0 := Lib.hid (keepB hxb hb2)
          obtain ⟨W1, hW1⟩ : ∃ W, W = wo.alloc (.cells #[.string en, .slice va ev.length vc, .int .i64 ep] 68) := ⟨_, rfl⟩
          obtain ⟨ax, hax⟩ : ∃ ax, ax = wo.heap.size := ⟨_, rfl⟩
          rw [← hax] at hx2
          rw [← hW1] at hx2 S0 R0
          have hne : ax ≠ w.heap.size + 1 := by omega
          have HZ := Lib.hid (show ∀ w' : World, w'.heap[ax]? = some (.cells #[.string en, .slice va ev.length vc, .int .i64 ep] 68) → w'.cell? ⟨ax, 0, none⟩ = some (.string en) ∧ w'.cell? ⟨ax, 1, none⟩ = some (.slice va ev.length vc) ∧ w'.cell? ⟨ax, 2, none⟩ = some (.int .i64 ep) from fun w' h => by simp [World.cell?, h])
          have X0 := Lib.hid hx2
          obtain ⟨y0, y1, y2⟩ := HZ.out W1 hx2
          clear hx hcell hmem hlt hbw hst hxb hb2 hx2
          go_upto_region 10 with fail
          rw [← hW1, ← hax]
          clear hW1 hax g0 g1 g2
          go_region_held3 (fun w' => w'.cell? ⟨ax, 0, none⟩ = some (.string en) ∧ w'.cell? ⟨ax, 1, none⟩ = some (.slice va ev.length vc) ∧ w'.cell? ⟨ax, 2, none⟩ = some (.int .i64 ep)) (first | (refine ⟨?_, ?_, ?_⟩ <;> assumption) | go_keep)
            (first
              | (go_at_call 48; refine (hc.out W1.drew S0.out.below.drew).mono ?_; rintro e w2 ⟨rfl, hq'⟩; have hq := below_undrew hq'; have S2 := Lib.hid (S0.out.call hq); have X2 := Lib.hid (keepB X0.out hq); have R2 := Lib.hid (keepB R0.out hq); obtain ⟨u0, u1, u2⟩ := HZ.out w2 X2.out; clear hq hq')
              | (go_at_call 47; refine (HL.out w2 S2.out).mono ?_; rintro e w9 ⟨rfl, hq1, hq2⟩; have S8 := Lib.hid hq1; have X8 := Lib.hid (kp_block hq2 X2.out hne (by decide)); have R8 := Lib.hid (kp_block hq2 R2.out (by omega) (by decide)); obtain ⟨k0, k1, k2⟩ := HZ.out w9 X8.out; clear hq1 hq2))
          have S9 := Lib.hid (show Stands w (w.heap.size + 1) 0 (ss.flatMap structT ++ (es.take (j + 1)).flatMap enumT) w9 by rw [HSN.out, ← List.append_assoc, ← HPRE.out, HET.out]; simpa only [List.append_assoc] using S8.out)
          clear HSN HPRE
          go_wp2
          go_roundw
          case rel => exact ⟨j + 1, by omega, by go_num, S9.out, R8.out⟩
          case measure => simp [intOf]; omega
        · have t1 : decide ((j : Int) < es.length) = false := by simp; omega
          obtain rfl : j = es.length := by omega
          rw [List.take_length] at hst
          obtain ⟨z0, z1, z2, -, hlt0⟩ := cells3 hxb
          have HS2 := Lib.hid hst
          have HX2 := Lib.hid hxb
          obtain ⟨wq2, rfl⟩ : ∃ wq : World, wq = wo := ⟨_, rfl⟩
          clear hst hxb hjl hj
          go_wp2_with fail
          clear z0 z1 z2 hlt0
          go_loopw [38] (fun u wr => ∃ j : Nat, j ≤ fs.length ∧ u = .int .i64 j ∧ Stands w (w.heap.size + 1) 0 (ss.flatMap structT ++ es.flatMap enumT ++ (fs.take j).flatMap (fnT stT parT)) wr ∧ wr.heap[w.heap.size]? = some (.cells #[.slice sa ss.length sc, .slice ea es.length ec, .slice fa fs.length fc] 26)) (fun u _ => fs.length - (intOf u).toNat)
          case atStart => exact ⟨0, by omega, rfl, by simpa using HS2.out, HX2.out⟩
          case round =>
            clear HS2 HX2
            obtain ⟨j, hj, rfl, hst, hxb⟩ := hrel
            obtain ⟨wo, rfl⟩ : ∃ wo : World, wo = wr := ⟨_, rfl⟩
            by_cases hjl : j < fs.length
            · have t1 : decide ((j : Int) < fs.length) = true := by simp; omega
              obtain ⟨ba, offa, rfl, hlt, hcell⟩ := f3.out (by omega)
              obtain ⟨x, hx⟩ : ∃ x, fs[j]? = some x := ⟨_, List.getElem?_eq_getElem hjl⟩
              have HSN := Lib.hid (flatMap_snoc (fnT stT parT) fs j x hx)
              have hln := flatMap_len (fnT stT parT) fs j x hx
              have hmem := f4.out x (List.mem_of_getElem? hx)
              have hbw := hst.below
              have hob := hst.isB.lt
              obtain ⟨pre, hpre⟩ : ∃ q, q = ss.flatMap structT ++ es.flatMap enumT ++ (fs.take j).flatMap (fnT stT parT) := ⟨_, rfl⟩
              rw [← hpre] at hst
              have hprl : pre.length = (ss.flatMap structT ++ es.flatMap enumT).length + ((fs.take j).flatMap (fnT stT parT)).length := by rw [hpre, List.length_append]
              simp only [List.length_append] at hprl
              have HPRE := Lib.hid hpre
              clear hpre
              obtain ⟨gn, gh, gp, ⟨gia, gic⟩, gb, gq⟩ := x
              obtain ⟨hP, hB⟩ := hmem
              have hFT : fnT stT parT ⟨gn, gh, gp, ⟨gia, gic⟩, gb, gq⟩ = lineT 0 [⟨#[99, 111, 32]⟩, gn, ⟨#[40]⟩, strB (listT fieldT gp), ⟨#[41, 32, 123]⟩] ++ rowT stT 1 gb ++ lineT 0 [⟨#[125]⟩] := rfl
              rw [hFT] at hln
              have HFT := Lib.hid hFT
              simp only [List.length_append] at hln
              have hl : (listT fieldT gp).length ≤ 100000000000000 := by
                have h1 := mem_line 0 [⟨#[99, 111, 32]⟩, gn, ⟨#[40]⟩, strB (listT fieldT gp), ⟨#[41, 32, 123]⟩] (strB (listT fieldT gp)) (by simp)
                rw [strB_size] at h1
                omega
              have hc2 := fun W (hW : Below w.heap.size w W) => listFd_any 51 enters51 fieldT (fun w x => FdH n w x) (fun w w' x h hb => FdH.below h hb) W (fun x W' hx _ hl => field_any n x W' hx hl) gh gp (Row.below hP hW fun _ _ hx => FdH.below hx hW) hl
              generalize strB (listT fieldT gp) = TX at hc2 hln HFT
              have hc := Lib.hid hc2
              have HL := Lib.hid (show ∀ W : World, Stands w (w.heap.size + 1) 0 pre W → Calls Tryz.prog 47 #[.pointer (some ⟨w.heap.size + 1, 0, none⟩), .slice (some ⟨W.heap.size, 0, none⟩) 5 5] (W.alloc (.cells #[.string ⟨#[99, 111, 32]⟩, .string gn, .string ⟨#[40]⟩, .string TX, .string ⟨#[41, 32, 123]⟩] 9)) fun e w' => e = .returned (.tuple #[]) ∧ Stands w (w.heap.size + 1) 0 (pre ++ lineT 0 [⟨#[99, 111, 32]⟩, gn, ⟨#[40]⟩, TX, ⟨#[41, 32, 123]⟩]) w' ∧ Kp w.heap.size (w.heap.size + 1) W w' from fun W h => line_st 0 (w.heap.size + 1) 5 pre [⟨#[99, 111, 32]⟩, gn, ⟨#[40]⟩, TX, ⟨#[41, 32, 123]⟩] W h (by simp) (by omega))
              have HRW := Lib.hid (show ∀ W : World, Stands w (w.heap.size + 1) 0 (pre ++ lineT 0 [⟨#[99, 111, 32]⟩, gn, ⟨#[40]⟩, TX, ⟨#[41, 32, 123]⟩]) W → Calls Tryz.prog 52 #[.pointer (some ⟨w.heap.size + 1, 0, none⟩), .slice gia gb.length gic] W fun e w' => e = .returned (.tuple #[]) ∧ Stands w (w.heap.size + 1) 0 (pre ++ lineT 0 [⟨#[99, 111, 32]⟩, gn, ⟨#[40]⟩, TX, ⟨#[41, 32, 123]⟩] ++ rowT stT 1 gb) w' ∧ Kp w.heap.size (w.heap.size + 1) W w' from fun W h => (row_step stT (StH n w) 0 w.heap.size (w.heap.size + 1) (pre ++ lineT 0 [⟨#[99, 111, 32]⟩, gn, ⟨#[40]⟩, TX, ⟨#[41, 32, 123]⟩]) ⟨gia, gic⟩ gb w W rfl h.isB h.below hB (by rw [List.length_append]; show _ + (rowT stT 1 gb).length ≤ _; omega) (by omega) (fun x hx bs1 w1 h1 h2 h3 => (HSA.out (w.heap.size + 1) x 1 bs1 w1 (hB.2.2.2 x hx) ⟨h1, h2⟩ h3).mono fun e w' h => ⟨h.1, h.2.1.isB, h.2.2⟩)).mono fun e w' q => ⟨q.1, h.wrote q.2.1 q.2.2, q.2.2⟩)
              have HL2 := Lib.hid (show ∀ W : World, Stands w (w.heap.size + 1) 0 (pre ++ lineT 0 [⟨#[99, 111, 32]⟩, gn, ⟨#[40]⟩, TX, ⟨#[41, 32, 123]⟩] ++ rowT stT 1 gb) W → Calls Tryz.prog 47 #[.pointer (some ⟨w.heap.size + 1, 0, none⟩), .slice (some ⟨W.heap.size, 0, none⟩) 1 1] (W.alloc (.cells #[.string ⟨#[125]⟩] 9)) fun e w' => e = .returned (.tuple #[]) ∧ Stands w (w.heap.size + 1) 0 (pre ++ lineT 0 [⟨#[99, 111, 32]⟩, gn, ⟨#[40]⟩, TX, ⟨#[41, 32, 123]⟩] ++ rowT stT 1 gb ++ lineT 0 [⟨#[125]⟩]) w' ∧ Kp w.heap.size (w.heap.size + 1) W w' from fun W h => line_st 0 (w.heap.size + 1) 1 _ [⟨#[125]⟩] W h (by simp) (by simp only [List.length_append]; omega))
              clear hc2 hFT hl hP hB
              have g0 : wo.cell? ⟨ba, offa + j * 4, none⟩ = some (.string gn) := (hbw.cell (p := ⟨ba, offa + j * 4, none⟩) hlt).trans (by simpa using hcell j _ hx 0 _ rfl)
              have g1 : wo.cell? ⟨ba, offa + j * 4 + 1, none⟩ = some (.slice gh.oa gp.length gh.cap) := (hbw.cell (p := ⟨ba, offa + j * 4 + 1, none⟩) hlt).trans (by simpa using hcell j _ hx 1 _ rfl)
              have g2 : wo.cell? ⟨ba, offa + j * 4 + 2, none⟩ = some (.slice gia gb.length gic) := (hbw.cell (p := ⟨ba, offa + j * 4 + 2, none⟩) hlt).trans (by simpa using hcell j _ hx 2 _ rfl)
              have g3 : wo.cell? ⟨ba, offa + j * 4 + 3, none⟩ = some (.int .i64 gq) := (hbw.cell (p := ⟨ba, offa + j * 4 + 3, none⟩) hlt).trans (by simpa using hcell j _ hx 3 _ rfl)
              have hb2 := alloc_below wo (.cells #[.string gn, .slice gh.oa gp.length gh.cap, .slice gia gb.length gic, .int .i64 gq] 35)
              have hx2 := heap_alloc_new wo (.cells #[.string gn, .slice gh.oa gp.length gh.cap, .slice gia gb.length gic, .int .i64 gq] 35)
              have S0 := Lib.hid (hst.call hb2)
              have R0 := Lib.hid (keepB hxb hb2)
              obtain ⟨W1, hW1⟩ : ∃ W, W = wo.alloc (.cells #[.string gn, .slice gh.oa gp.length gh.cap, .slice gia gb.length gic, .int .i64 gq] 35) := ⟨_, rfl⟩
              obtain ⟨ax, hax⟩ : ∃ ax, ax = wo.heap.size := ⟨_, rfl⟩
              rw [← hax] at hx2
              rw [← hW1] at hx2 S0 R0
              have hne : ax ≠ w.heap.size + 1 := by omega
              have HZ := Lib.hid (show ∀ w' : World, w'.heap[ax]? = some (.cells #[.string gn, .slice gh.oa gp.length gh.cap, .slice gia gb.length gic, .int .i64 gq] 35) → w'.cell? ⟨ax, 0, none⟩ = some (.string gn) ∧ w'.cell? ⟨ax, 1, none⟩ = some (.slice gh.oa gp.length gh.cap) ∧ w'.cell? ⟨ax, 2, none⟩ = some (.slice gia gb.length gic) ∧ w'.cell? ⟨ax, 3, none⟩ = some (.int .i64 gq) from fun w' h => by simp [World.cell?, h])
              have X0 := Lib.hid hx2
              obtain ⟨y0, y1, y2, y3⟩ := HZ.out W1 hx2
              clear hx hcell hlt hbw hst hxb hb2 hx2
              go_upto_region 15 with fail
              rw [← hW1, ← hax]
              clear hW1 hax g0 g1 g2 g3
              go_region_held3 (fun w' => w'.cell? ⟨ax, 0, none⟩ = some (.string gn) ∧ w'.cell? ⟨ax, 1, none⟩ = some (.slice gh.oa gp.length gh.cap) ∧ w'.cell? ⟨ax, 2, none⟩ = some (.slice gia gb.length gic) ∧ w'.cell? ⟨ax, 3, none⟩ = some (.int .i64 gq)) (first | (refine ⟨?_, ?_, ?_, ?_⟩ <;> assumption) | go_keep)
                (first
                  | (go_at_call 50; refine (hc.out W1.drew S0.out.below.drew).mono ?_; rintro e w2 ⟨rfl, hq'⟩; have hq := below_undrew hq'; have S2 := Lib.hid (S0.out.call hq); have X2 := Lib.hid (keepB X0.out hq); have R2 := Lib.hid (keepB R0.out hq); obtain ⟨u0, u1, u2, u3⟩ := HZ.out w2 X2.out; clear hq hq')
                  | (go_at_call 47; refine (HL.out w2 S2.out).mono ?_; rintro e w5 ⟨rfl, hq1, hq2⟩; have S5 := Lib.hid hq1; have X5 := Lib.hid (kp_block hq2 X2.out hne (by decide)); have R5 := Lib.hid (kp_block hq2 R2.out (by omega) (by decide)); obtain ⟨k0, k1, k2, k3⟩ := HZ.out w5 X5.out; clear hq1 hq2))
              go_wp2_with fail
              refine (HRW.out _ S5.out).mono ?_
              rintro e w6 ⟨rfl, hq1, hq2⟩
              have S6 := Lib.hid hq1
              have R6 := Lib.hid (kp_block hq2 R5.out (by omega) (by decide))
              clear hq1 hq2
              go_wp2_with fail
              refine (HL2.out _ S6.out).mono ?_
              rintro e w9 ⟨rfl, hq1, hq2⟩
              have S8 := Lib.hid hq1
              have R8 := Lib.hid (kp_block hq2 R6.out (by omega) (by decide))
              clear hq1 hq2
              have S9 := Lib.hid (show Stands w (w.heap.size + 1) 0 (ss.flatMap structT ++ es.flatMap enumT ++ (fs.take (j + 1)).flatMap (fnT stT parT)) w9 by rw [HSN.out, ← List.append_assoc, ← HPRE.out, HFT.out]; simpa only [List.append_assoc] using S8.out)
              clear HSN HPRE
              go_wp2
              go_roundw
              case rel => exact ⟨j + 1, by omega, by go_num, S9.out, R8.out⟩
              case measure => simp [intOf]; omega
            · have t1 : decide ((j : Int) < fs.length) = false := by simp; omega
              obtain rfl : j = fs.length := by omega
              rw [List.take_length, ← HR.out] at hst
              have hss := hst.below
              have hs := Lib.hid (string3_all _ _ _ R wo hss.size hst.isB)
              go_wp2_with fail
              refine hs.out.mono ?_
              rintro e w1 ⟨rfl, hb1⟩
              have HB1 := Lib.hid (hss.trans hb1)
              clear hb1
              go_wp2
              go_ret
              exact ⟨rfl, HB1.out⟩

end Go.Proofs.YtgogdcpgfmndnaaGreatDoor
