/-
  Text of tree, of a source without structs and enums. Conditions: the source lies in the heap; what its coroutines' parameters and statements are written as is given.
-/
import Derived.Test.YtgogdcpgfmndnaaGreatDoorTSmt
import Derived.Deep.RegionHeld3
import Derived.Deep.CutBlock
namespace Go.Proofs.YtgogdcpgfmndnaaGreatDoor
open Go.RowKit

def fnT (g : Nat → St5 → List UInt8) (pT : Fn5 → ByteArray) (f : Fn5) : List UInt8 :=
  lineT 0 [⟨#[99, 111, 32]⟩, f.nm, ⟨#[40]⟩, pT f, ⟨#[41, 32, 123]⟩] ++ rowT g 1 f.body ++ lineT 0 [⟨#[125]⟩]

theorem listFd_nil (F : Nat) (w : World) : Calls Tryz.prog 50 #[.slice none 0 0, .func (.func F) #[] #[]] w fun e w' => e = .returned (.string ⟨#[]⟩) ∧ Below w.heap.size w w' := by
  obtain ⟨W, hW⟩ : ∃ W, W = w.alloc (.cells #[.pointer none, .slice none 0 0] 94) := ⟨_, rfl⟩
  have hI : Lib.IsBuilderF 94 5 w.heap.size w.heap.size (Lib.byteCells []) W := by rw [hW]; exact Lib.IsBuilderF.of (Lib.fresh_isBuilder 94 5 w)
  have hb : Below w.heap.size w W := by rw [hW]; exact alloc_below _ _
  have hs := Lib.hid (Tryz.Builder_String_any_k w.heap.size w.heap.size [] W hI hb.size)
  have HB := Lib.hid hb
  clear hI hb
  go_enter Tryz.func50, Tryz.ntmps50
  go_wp2_with fail
  rw [← hW]
  clear hW
  go_loopw [10] (fun u wr => u = .int .i64 0 ∧ wr = W) (fun _ _ => 0)
  case atStart => exact ⟨rfl, rfl⟩
  case round =>
    obtain ⟨rfl, rfl⟩ := hrel
    go_wp2_with fail
    refine hs.out.mono ?_
    rintro e w1 ⟨rfl, -, hb1, -⟩
    have HB1 := Lib.hid (HB.out.trans hb1)
    clear hb1
    go_wp2
    go_ret
    exact ⟨rfl, HB1.out⟩

set_option maxRecDepth 100000 in
set_option maxHeartbeats 8000000 in
theorem textF_any (g : Nat → St5 → List UInt8) (pT : Fn5 → ByteArray) (n : Nat) (s : So5) (w : World) (hs1 : s.structs = []) (hs2 : s.enums = []) (hS : SoH n w s)
    (hlen : (s.fns.flatMap (fnT g pT)).length ≤ 100000000000000) (h0 : s.fns.flatMap (fnT g pT) ≠ [])
    (hPar : ∀ f, f ∈ s.fns → ∀ W, Below w.heap.size w W → Calls Tryz.prog 50 #[.slice f.hp.oa f.params.length f.hp.cap, .func (.func 51) #[] #[]] W fun e w' => e = .returned (.string (pT f)) ∧ Below W.heap.size W w')
    (hStm : ∀ f, f ∈ s.fns → ∀ (b : Nat) (x : St5), x ∈ f.body → ∀ (bs1 : List UInt8) (w1 : World), IsB3 (.int .i64 ((0 + 1 : Nat) : Int)) w.heap.size b (Lib.byteCells bs1) w1 → Below w.heap.size w w1 → bs1.length + (g (0 + 1) x).length ≤ 100000000000000 →
      Calls Tryz.prog 82 #[.pointer (some ⟨b, 0, none⟩), stV x] w1 fun e w' => e = .returned (.tuple #[]) ∧ IsB3 (.int .i64 ((0 + 1 : Nat) : Int)) w.heap.size b (Lib.byteCells (bs1 ++ g (0 + 1) x)) w' ∧ Kp w.heap.size b w1 w') :
    Calls Tryz.prog 14 #[soV s] w fun e w' => e = .returned (.string (strB (s.fns.flatMap (fnT g pT)))) ∧ Below w.heap.size w w' := by
  obtain ⟨hs, ss, he, es, ⟨oa, cap⟩, fs⟩ := s
  dsimp only at hs1 hs2 hlen h0 hPar hStm ⊢
  subst hs1 hs2
  obtain ⟨-, -, hf1, hf2, hf3, hf4⟩ := hS
  dsimp only at hf1 hf2 hf3 hf4
  unfold maxLen at hf2
  replace hf3 := Lib.hid hf3
  replace hf4 := Lib.hid hf4
  replace hPar := Lib.hid hPar
  replace hStm := Lib.hid hStm
  obtain ⟨R, hR⟩ : ∃ R, R = fs.flatMap (fnT g pT) := ⟨_, rfl⟩
  rw [← hR] at hlen h0 ⊢
  replace hR := Lib.hid hR
  replace h0 := Lib.hid h0
  simp only [soV, List.length_nil]
  obtain ⟨W0, hW0⟩ : ∃ W, W = (w.alloc (.cells #[.slice hs.oa 0 hs.cap, .slice he.oa 0 he.cap, .slice oa fs.length cap] 26)).alloc (.cells #[.pointer none, .slice none 0 0, .int .i64 0] 96) := ⟨_, rfl⟩
  have hb0 : Below w.heap.size w W0 := by rw [hW0]; exact ((Below.refl _ _).alloc (Nat.le_refl _) _).alloc (by simp) _
  have hbx : W0.heap[w.heap.size]? = some (.cells #[.slice hs.oa 0 hs.cap, .slice he.oa 0 he.cap, .slice oa fs.length cap] 26) := by rw [hW0, heap_alloc_old _ _ (by simp), heap_alloc_new]
  have hI : IsB3 (.int .i64 0) w.heap.size (w.heap.size + 1) (Lib.byteCells []) W0 := by
    rw [hW0]
    refine .inl ⟨by simp, .slice none 0 0, by simpa using heap_alloc_new (w.alloc (.cells #[.slice hs.oa 0 hs.cap, .slice he.oa 0 he.cap, .slice oa fs.length cap] 26)) (.cells #[.pointer none, .slice none 0 0, .int .i64 0] 96), World.ownsRowF_of (World.ownsRow_nil _ _ _ _), by simp [Value.ownBlock]⟩
  have z0 : W0.cell? ⟨w.heap.size, 0, none⟩ = some (.slice hs.oa 0 hs.cap) := by simp [World.cell?, hbx]
  have z1 : W0.cell? ⟨w.heap.size, 1, none⟩ = some (.slice he.oa 0 he.cap) := by simp [World.cell?, hbx]
  have z2 : W0.cell? ⟨w.heap.size, 2, none⟩ = some (.slice oa fs.length cap) := by simp [World.cell?, hbx]
  have HB0 := Lib.hid hb0
  have HI := Lib.hid hI
  clear hb0 hI hbx
  go_enter Tryz.func14, Tryz.ntmps14
  go_upto_region 2 with fail
  rw [← hW0]
  clear hW0
  go_wp2_with fail
  go_loopw [13] (fun u wr => u = .int .i64 0 ∧ wr = W0) (fun _ _ => 0)
  case atStart => exact ⟨rfl, rfl⟩
  case round =>
    obtain ⟨rfl, rfl⟩ := hrel
    go_wp2_with fail
    go_loopw [23] (fun u wr2 => u = .int .i64 0 ∧ wr2 = wr) (fun _ _ => 0)
    case atStart => exact ⟨rfl, rfl⟩
    case round =>
      obtain ⟨rfl, rfl⟩ := hrel
      go_wp2_with fail
      go_loopw [38] (fun u wr3 => ∃ j : Nat, j ≤ fs.length ∧ u = .int .i64 j ∧ IsB3 (.int .i64 0) w.heap.size (w.heap.size + 1) (Lib.byteCells ((fs.take j).flatMap (fnT g pT))) wr3 ∧ Below w.heap.size w wr3) (fun u _ => fs.length - (intOf u).toNat)
      case atStart => exact ⟨0, by omega, rfl, HI.out, HB0.out⟩
      case round =>
        clear HI HB0 z0 z1 z2
        obtain ⟨j, hj, rfl, H, hbw⟩ := hrel
        have hsr := hbw.size
        by_cases hjl : j < fs.length
        · have t1 : decide ((j : Int) < fs.length) = true := by simp; omega
          obtain ⟨ba, offa, rfl, hlt, hcell⟩ := hf3.out (by omega)
          obtain ⟨x, hx⟩ : ∃ x, fs[j]? = some x := ⟨_, List.getElem?_eq_getElem hjl⟩
          have HSN := Lib.hid (flatMap_snoc (fnT g pT) fs j x hx)
          have hln := flatMap_len (fnT g pT) fs j x hx
          rw [← hR.out] at hln
          have hmem := List.mem_of_getElem? hx
          have HFN := Lib.hid (hf4.out x hmem)
          have HPR := Lib.hid (hPar.out x hmem)
          have HST := Lib.hid (hStm.out x hmem)
          obtain ⟨gn, gh, gp, gi, gb, gq⟩ := x
          dsimp only at HPR HST
          have q0 : wr.cell? ⟨ba, offa + j * 4, none⟩ = some (.string gn) := (hbw.cell (p := ⟨ba, offa + j * 4, none⟩) hlt).trans (by simpa using hcell j _ hx 0 _ rfl)
          have q1 : wr.cell? ⟨ba, offa + j * 4 + 1, none⟩ = some (.slice gh.oa gp.length gh.cap) := (hbw.cell (p := ⟨ba, offa + j * 4 + 1, none⟩) hlt).trans (by simpa using hcell j _ hx 1 _ rfl)
          have q2 : wr.cell? ⟨ba, offa + j * 4 + 2, none⟩ = some (.slice gi.oa gb.length gi.cap) := (hbw.cell (p := ⟨ba, offa + j * 4 + 2, none⟩) hlt).trans (by simpa using hcell j _ hx 2 _ rfl)
          have q3 : wr.cell? ⟨ba, offa + j * 4 + 3, none⟩ = some (.int .i64 gq) := (hbw.cell (p := ⟨ba, offa + j * 4 + 3, none⟩) hlt).trans (by simpa using hcell j _ hx 3 _ rfl)
          have hltb := H.lt
          obtain ⟨pre, hpre⟩ : ∃ q, q = (fs.take j).flatMap (fnT g pT) := ⟨_, rfl⟩
          rw [← hpre] at H hln
          have HPRE := Lib.hid hpre
          obtain ⟨pv, hpv⟩ : ∃ q, q = pT ⟨gn, gh, gp, gi, gb, gq⟩ := ⟨_, rfl⟩
          rw [← hpv] at HPR
          have hfT : fnT g pT ⟨gn, gh, gp, gi, gb, gq⟩ = lineT 0 [⟨#[99, 111, 32]⟩, gn, ⟨#[40]⟩, pv, ⟨#[41, 32, 123]⟩] ++ rowT g 1 gb ++ lineT 0 [⟨#[125]⟩] := by rw [hpv]; rfl
          have hfl : (fnT g pT ⟨gn, gh, gp, gi, gb, gq⟩).length = (lineT 0 [⟨#[99, 111, 32]⟩, gn, ⟨#[40]⟩, pv, ⟨#[41, 32, 123]⟩]).length + (rowT g 1 gb).length + (lineT 0 [⟨#[125]⟩]).length := by rw [hfT]; simp only [List.length_append]
          have HFT := Lib.hid hfT
          clear hx hcell hmem hpre hpv hfT
          go_upto_region 15 with fail
          have hb2 := alloc_below wr (.cells #[.string gn, .slice gh.oa gp.length gh.cap, .slice gi.oa gb.length gi.cap, .int .i64 gq] 35)
          have hx2 := heap_alloc_new wr (.cells #[.string gn, .slice gh.oa gp.length gh.cap, .slice gi.oa gb.length gi.cap, .int .i64 gq] 35)
          have H2 := H.below hb2
          have hbw2 := hbw.trans (hb2.mono hsr)
          obtain ⟨bx, hbx⟩ : ∃ bx, bx = wr.heap.size := ⟨_, rfl⟩
          rw [← hbx] at hx2
          have hne : bx ≠ w.heap.size + 1 := by omega
          simp only [← hbx]
          generalize wr.alloc (.cells #[.string gn, .slice gh.oa gp.length gh.cap, .slice gi.oa gb.length gi.cap, .int .i64 gq] 35) = W at hx2 H2 hbw2 ⊢
          clear hb2 q0 q1 q2 q3 H hbw hltb hbx
          have hcf := Lib.hid (show ∀ w' : World, w'.heap[bx]? = some (.cells #[.string gn, .slice gh.oa gp.length gh.cap, .slice gi.oa gb.length gi.cap, .int .i64 gq] 35) → w'.cell? ⟨bx, 0, none⟩ = some (.string gn) ∧ w'.cell? ⟨bx, 1, none⟩ = some (.slice gh.oa gp.length gh.cap) ∧ w'.cell? ⟨bx, 2, none⟩ = some (.slice gi.oa gb.length gi.cap) from fun w' h => by simp [World.cell?, h])
          obtain ⟨y0, y1, y2⟩ := hcf.out W hx2
          have hbxlt : bx < W.heap.size := (Array.getElem?_eq_some_iff.1 hx2).1
          have HW := Lib.hid H2
          have HX := Lib.hid hx2
          have HB := Lib.hid hbw2
          have HL := Lib.hid (show ∀ (k : Nat) (W : World), IsB3 (.int .i64 0) w.heap.size (w.heap.size + 1) (Lib.byteCells pre) W → W.heap[k]? = some (.cells #[.string ⟨#[99, 111, 32]⟩, .string gn, .string ⟨#[40]⟩, .string pv, .string ⟨#[41, 32, 123]⟩] 9) → k ≠ w.heap.size + 1 → w.heap.size ≤ W.heap.size → Calls Tryz.prog 47 #[.pointer (some ⟨w.heap.size + 1, 0, none⟩), .slice (some ⟨k, 0, none⟩) 5 5] W fun e w' => e = .returned (.tuple #[]) ∧ IsB3 (.int .i64 0) w.heap.size (w.heap.size + 1) (Lib.byteCells (pre ++ lineT 0 [⟨#[99, 111, 32]⟩, gn, ⟨#[40]⟩, pv, ⟨#[41, 32, 123]⟩])) w' ∧ Kp w.heap.size (w.heap.size + 1) W w' from fun k W h1 h2 h3 h4 => line_any 0 _ _ k 5 pre [⟨#[99, 111, 32]⟩, gn, ⟨#[40]⟩, pv, ⟨#[41, 32, 123]⟩] W h1 h2 h3 h4 (by simp) (by omega))
          clear hx2 H2 hbw2
          go_region_held3 (fun w' => w'.cell? ⟨bx, 0, none⟩ = some (.string gn) ∧ w'.cell? ⟨bx, 1, none⟩ = some (.slice gh.oa gp.length gh.cap)) (first | (refine ⟨?_, ?_⟩ <;> assumption) | go_keep)
            (first
              | (go_at_call 50; refine (HPR.out W.drew HB.out.drew).mono ?_; rintro e w4 ⟨rfl, hb4'⟩; have hb4 := below_undrew hb4'; have H4 := Lib.hid (HW.out.below hb4); have hx4 := (hb4.block _ hbxlt).trans HX.out; have HX4 := Lib.hid hx4; obtain ⟨y40, y41, y42⟩ := hcf.out w4 hx4; have HB4 := Lib.hid (HB.out.trans (hb4.mono HB.out.size)); have hlt4 : bx < w4.heap.size := Nat.lt_of_lt_of_le hbxlt hb4.size; clear hb4' hb4 hx4)
              | (go_at_call 47; refine (HL.out w4.heap.size _ (H4.out.below (alloc_below _ _)) (heap_alloc_new _ _) (by have := H4.out.lt; omega) (Nat.le_trans HB4.out.size (alloc_below _ _).size)).mono ?_; rintro e w5 ⟨rfl, H5', K5⟩; have H5 := Lib.hid H5'; have hx5 := kp_block K5 ((heap_alloc_old _ _ hlt4).trans HX4.out) hne (by decide); have HX5 := Lib.hid hx5; obtain ⟨y50, y51, y52⟩ := hcf.out w5 hx5; have HB5 := Lib.hid ((HB4.out.trans ((alloc_below _ _).mono HB4.out.size)).trans K5.below); clear H5' K5 hx5))
          have hrow := Lib.hid (row_step g (StH n w) 0 w.heap.size (w.heap.size + 1) (pre ++ lineT 0 [⟨#[99, 111, 32]⟩, gn, ⟨#[40]⟩, pv, ⟨#[41, 32, 123]⟩]) gi gb w w5 rfl H5.out HB5.out HFN.out.2 (by rw [List.length_append]; show _ + (rowT g 1 gb).length ≤ _; omega) (by omega) (HST.out (w.heap.size + 1)))
          have HL2 := Lib.hid (show ∀ (k : Nat) (W : World), IsB3 (.int .i64 0) w.heap.size (w.heap.size + 1) (Lib.byteCells (pre ++ lineT 0 [⟨#[99, 111, 32]⟩, gn, ⟨#[40]⟩, pv, ⟨#[41, 32, 123]⟩] ++ rowT g 1 gb)) W → W.heap[k]? = some (.cells #[.string ⟨#[125]⟩] 9) → k ≠ w.heap.size + 1 → w.heap.size ≤ W.heap.size → Calls Tryz.prog 47 #[.pointer (some ⟨w.heap.size + 1, 0, none⟩), .slice (some ⟨k, 0, none⟩) 1 1] W fun e w' => e = .returned (.tuple #[]) ∧ IsB3 (.int .i64 0) w.heap.size (w.heap.size + 1) (Lib.byteCells (pre ++ lineT 0 [⟨#[99, 111, 32]⟩, gn, ⟨#[40]⟩, pv, ⟨#[41, 32, 123]⟩] ++ rowT g 1 gb ++ lineT 0 [⟨#[125]⟩])) w' ∧ Kp w.heap.size (w.heap.size + 1) W w' from fun k W h1 h2 h3 h4 => line_any 0 _ _ k 1 (pre ++ lineT 0 [⟨#[99, 111, 32]⟩, gn, ⟨#[40]⟩, pv, ⟨#[41, 32, 123]⟩] ++ rowT g 1 gb) [⟨#[125]⟩] W h1 h2 h3 h4 (by simp) (by simp only [List.length_append]; omega))
          clear y0 y1 y2 y40 y41 y42 y50 y51 HL HW HX HB H4 HX4 HB4 H5 HX5 hbxlt hlt4 hcf HST HPR HFN hfl
          go_wp2_with fail
          refine hrow.out.mono ?_
          rintro e w6 ⟨rfl, H6', K6⟩
          have hb7 := alloc_below w6 (.cells #[.string ⟨#[125]⟩] 9)
          have hc7 := Lib.hid (HL2.out w6.heap.size _ (H6'.below hb7) (heap_alloc_new _ _) (by have := H6'.lt; omega) (Nat.le_trans (HB5.out.trans K6.below).size hb7.size))
          have HB7 := Lib.hid ((HB5.out.trans K6.below).trans (hb7.mono (HB5.out.trans K6.below).size))
          clear H6' K6 hb7 hrow HL2 y52
          go_wp2_with fail
          refine hc7.out.mono ?_
          rintro e w8 ⟨rfl, H8', K8⟩
          have H8 := Lib.hid (show IsB3 (.int .i64 0) w.heap.size (w.heap.size + 1) (Lib.byteCells ((fs.take (j + 1)).flatMap (fnT g pT))) w8 by rw [HSN.out, HFT.out, ← HPRE.out, ← List.append_assoc, ← List.append_assoc]; exact H8')
          have HB8 := Lib.hid (HB7.out.trans K8.below)
          clear H8' K8 hc7
          go_wp2
          go_roundw
          case rel => exact ⟨j + 1, by omega, by go_num, H8.out, HB8.out⟩
          case measure => simp [intOf]; omega
        · have t1 : decide ((j : Int) < fs.length) = false := by simp; omega
          obtain rfl : j = fs.length := by omega
          rw [List.take_length, ← hR.out] at H
          have hst := Lib.hid (string3_any _ _ _ R h0.out wr H)
          go_wp2_with (go_at_call 53; refine hst.out.mono ?_; rintro e w9 ⟨rfl, hb9⟩; replace hb9 := Lib.hid hb9)
          go_ret
          exact ⟨rfl, hbw.trans hb9.out⟩
end Go.Proofs.YtgogdcpgfmndnaaGreatDoor
