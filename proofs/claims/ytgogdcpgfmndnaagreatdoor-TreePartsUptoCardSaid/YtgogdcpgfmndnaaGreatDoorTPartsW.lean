/-
  TreeParts' walk: it answers true. Conditions: the source lies in the heap; its text is not longer than 10^14; the package variables lie as the program's text lays them.
-/
import Derived.Test.YtgogdcpgfmndnaaGreatDoorTTextA
import Derived.Test.YtgogdcpgfmndnaaGreatDoorTLargeB
import Derived.Test.YtgogdcpgfmndnaaGreatDoorTWorks
namespace Go.Proofs.YtgogdcpgfmndnaaGreatDoor
open Go.RowKit

theorem row_sub {α : Type} {w : World} {b off cap sz j : Nat} {l : List α} {x : α} {C : α → List Value} {P : α → Prop} (hl : l.length ≤ cap) (hm : cap ≤ maxLen) (hb : b < w.heap.size)
    (hc : ∀ (i : Nat) (x : α), l[i]? = some x → ∀ (j : Nat) (v : Value), (C x)[j]? = some v → w.cell? ⟨b, off + i * sz + j, none⟩ = some v) (hx : l[j]? = some x) (hp : P x) : Row w ⟨some ⟨b, off + j * sz, none⟩, cap - j⟩ sz [x] C P := by
  have hj := (List.getElem?_eq_some_iff.1 hx).1
  refine ⟨?_, ?_, fun _ => ⟨b, off + j * sz, rfl, hb, fun i y hy q v hv => ?_⟩, fun y hy => ?_⟩
  · show 1 ≤ cap - j
    omega
  · show cap - j ≤ maxLen
    omega
  · cases i with
    | zero =>
      simp at hy
      subst hy
      have := hc j x hx q v hv
      simpa using this
    | succ i => simp at hy
  · simp at hy
    subst hy
    exact hp

set_option maxRecDepth 100000 in
set_option maxHeartbeats 32000000 in
theorem treeParts_walk (n : Nat) (s : So5) (w : World) (hS : SoH n w s) (hV : Vz w) (hlen : (textT s).length ≤ 100000000000000) : Calls Tryz.prog 5 #[soV s] w fun e w' => e = .returned (.bool true) ∧ Below w.heap.size w w' := by
  obtain ⟨⟨sa, sc⟩, ss, ⟨ea, ec⟩, es, ⟨fa, fc⟩, fs⟩ := s
  have HSO := Lib.hid hS
  obtain ⟨⟨s1, s2, s3, s4⟩, ⟨e1, e2, e3, e4⟩, f1, f2, f3, f4⟩ := hS
  dsimp only at s1 s2 s3 s4 e1 e2 e3 e4 f1 f2 f3 f4
  have hm1 := s2
  have hm2 := e2
  have hm3 := f2
  replace hm1 := Lib.hid hm1
  replace hm2 := Lib.hid hm2
  replace hm3 := Lib.hid hm3
  unfold maxLen at s2 e2 f2
  replace s3 := Lib.hid s3
  replace s4 := Lib.hid s4
  replace e3 := Lib.hid e3
  replace e4 := Lib.hid e4
  replace f3 := Lib.hid f3
  replace f4 := Lib.hid f4
  obtain ⟨R, hR⟩ : ∃ R, R = textT ⟨⟨sa, sc⟩, ss, ⟨ea, ec⟩, es, ⟨fa, fc⟩, fs⟩ := ⟨_, rfl⟩
  obtain ⟨V, hVq⟩ : ∃ V, V = soOk ⟨⟨sa, sc⟩, ss, ⟨ea, ec⟩, es, ⟨fa, fc⟩, fs⟩ := ⟨_, rfl⟩
  rw [← hR] at hlen
  have hRe : R = ss.flatMap structT ++ es.flatMap enumT ++ fs.flatMap (fnT stT parT) := hR
  have hVe : V = (ss.all suOk && es.all enOk && fs.all fnOk) := hVq
  have hlR : (ss.flatMap structT).length + (es.flatMap enumT).length + (fs.flatMap (fnT stT parT)).length ≤ 100000000000000 := by rw [hRe] at hlen; simpa only [List.length_append] using hlen
  obtain ⟨W0, hW0⟩ : ∃ W, W = w.alloc (.cells #[.slice sa ss.length sc, .slice ea es.length ec, .slice fa fs.length fc] 26) := ⟨_, rfl⟩
  have hb0 : Below w.heap.size w W0 := by rw [hW0]; exact alloc_below _ _
  have hx0 : W0.heap[w.heap.size]? = some (.cells #[.slice sa ss.length sc, .slice ea es.length ec, .slice fa fs.length fc] 26) := by rw [hW0, heap_alloc_new]
  have h8 := Lib.hid (works_any W0 (hV.b hb0))
  have h9 := fun W (h : Below w.heap.size w W) => large_any n ⟨⟨sa, sc⟩, ss, ⟨ea, ec⟩, es, ⟨fa, fc⟩, fs⟩ 400 W (HSO.out.below h)
  have hT := fun W (h : Below w.heap.size w W) => text_any n ⟨⟨sa, sc⟩, ss, ⟨ea, ec⟩, es, ⟨fa, fc⟩, fs⟩ W (HSO.out.below h) (hV.b h) (by rw [← hR]; exact hlen)
  have hK := fun W (h : Below w.heap.size w W) => valid_any n ⟨⟨sa, sc⟩, ss, ⟨ea, ec⟩, es, ⟨fa, fc⟩, fs⟩ W (HSO.out.below h) (hV.b h)
  rw [← hR] at hT
  rw [← hVq] at hK
  have HV := Lib.hid hV
  have HRe := Lib.hid hRe
  have HVe := Lib.hid hVe
  have HB0 := Lib.hid hb0
  have HX0 := Lib.hid hx0
  simp only [soV] at h9 hT hK ⊢
  replace h9 := Lib.hid h9
  replace hT := Lib.hid hT
  replace hK := Lib.hid hK
  clear hR hVq hRe hVe hV hb0 hx0 HSO
  go_enter Tryz.func5, Tryz.ntmps5
  go_wp2_with fail
  rw [← hW0]
  clear hW0
  refine h8.out.mono ?_
  rintro e w1 ⟨rfl, hq⟩
  have HB1 := Lib.hid (HB0.out.trans (hq.mono HB0.out.size))
  have hx1 := keepB HX0.out hq
  obtain ⟨z0, z1, z2, -⟩ := cells3 hx1
  have HX1 := Lib.hid hx1
  clear hq hx1 h8 HB0 HX0
  go_wp2_with fail
  refine (h9.out w1 HB1.out).mono ?_
  rintro e w2 ⟨⟨m, rfl⟩, hq⟩
  have HB2 := Lib.hid (HB1.out.trans (hq.mono HB1.out.size))
  have hx2 := keepB HX1.out hq
  obtain ⟨y0, y1, y2, -⟩ := cells3 hx2
  have HX2 := Lib.hid hx2
  clear hq hx2 h9 HB1 HX1 z0 z1 z2
  cases m with
  | true =>
    go_wp2
    go_ret
    exact ⟨rfl, HB2.out⟩
  | false =>
  go_wp2_with fail
  clear y0 y1 y2
  go_loopw [5, 6, 7, 8] (fun a v u _ wr => ∃ j : Nat, j ≤ ss.length ∧ u = .int .i64 j ∧ a = .string (strB ((ss.take j).flatMap structT)) ∧ v = .bool ((ss.take j).all suOk) ∧ Below w.heap.size w wr ∧ wr.heap[w.heap.size]? = some (.cells #[.slice sa ss.length sc, .slice ea es.length ec, .slice fa fs.length fc] 26)) (fun _ _ u _ _ => ss.length - (intOf u).toNat)
  case atStart => exact ⟨0, by omega, rfl, by simp; rfl, by simp, HB2.out, HX2.out⟩
  case round =>
    clear HB2 HX2
    obtain ⟨j, hj, rfl, rfl, rfl, hbw, hxb⟩ := hrel
    obtain ⟨wo, rfl⟩ : ∃ wo : World, wo = wr := ⟨_, rfl⟩
    obtain ⟨y0, y1, y2, -, hlt0⟩ := cells3 hxb
    by_cases hjl : j < ss.length
    · have t1 : decide ((j : Int) < ss.length) = true := by simp; omega
      obtain ⟨ba, offa, rfl, hlt, hcell⟩ := s3.out (by omega)
      obtain ⟨x, hx⟩ : ∃ x, ss[j]? = some x := ⟨_, List.getElem?_eq_getElem hjl⟩
      have hln := flatMap_len structT ss j x hx
      have HSN := Lib.hid (flatMap_snoc structT ss j x hx)
      have HAL := Lib.hid (show (ss.take (j + 1)).all suOk = ((ss.take j).all suOk && suOk x) by
        obtain ⟨h1, h2⟩ := List.getElem?_eq_some_iff.1 hx
        rw [List.take_succ_eq_append_getElem h1, List.all_append, h2, List.all_cons, List.all_nil, Bool.and_true])
      have hrow := row_sub (w := w) (P := SuH n w) (by omega) hm1.out hlt hcell hx (s4.out x (List.mem_of_getElem? hx))
      obtain ⟨p, hp⟩ : ∃ p : So5, p = ⟨⟨some ⟨ba, offa + j * 4, none⟩, sc - j⟩, [x], z0, [], z0, []⟩ := ⟨_, rfl⟩
      have hSp : SoH n w p := by rw [hp]; exact ⟨hrow, nilRow _ _ _ _, nilRow _ _ _ _⟩
      have hTp : textT p = structT x := by rw [hp]; simp [textT]
      have hOp : soOk p = suOk x := by rw [hp]; simp [soOk]
      have hVp : soV p = .agg #[.slice (some ⟨ba, offa + j * 4, none⟩) 1 (sc - j), .slice none 0 0, .slice none 0 0] := by rw [hp]; rfl
      have hcT := fun W (h : Below w.heap.size w W) => text_any n p W (hSp.below h) (HV.out.b h) (by rw [hTp]; omega)
      have hcK := fun W (h : Below w.heap.size w W) => valid_any n p W (hSp.below h) (HV.out.b h)
      rw [hTp, hVp] at hcT
      rw [hOp, hVp] at hcK
      obtain ⟨TX, hTX⟩ : ∃ t, t = structT x := ⟨_, rfl⟩
      rw [← hTX] at hcT hln HSN
      obtain ⟨bk, hbk⟩ : ∃ t, t = suOk x := ⟨_, rfl⟩
      rw [← hbk] at hcK HAL
      obtain ⟨pr, hpr⟩ : ∃ q, q = (ss.take j).flatMap structT := ⟨_, rfl⟩
      have hprl : pr.length = ((ss.take j).flatMap structT).length := by rw [hpr]
      skip
      obtain ⟨vb, hvb⟩ : ∃ q, q = ((ss.take j).all suOk) := ⟨_, rfl⟩
      rw [← hpr, ← hvb]
      have HPR := Lib.hid hpr
      have HVB := Lib.hid hvb
      have hz1 : (strB pr).size ≤ 100000000000000 := by rw [strB_size]; omega
      have hz2 : (strB TX).size ≤ 100000000000000 := by rw [strB_size]; omega
      replace hcT := Lib.hid hcT
      replace hcK := Lib.hid hcK
      have HBW := Lib.hid hbw
      have HXB := Lib.hid hxb
      have hcp : j + 1 ≤ sc := by omega
      clear hx hcell hlt hrow hp hSp hTp hOp hVp hTX hbk hpr hvb hbw hxb hln hprl
      go_upto_region 13 with fail
      have hb2 := alloc_below wo (.cells #[.slice (some ⟨ba, offa + j * 4, none⟩) 1 (sc - j), .slice none 0 0, .slice none 0 0] 26)
      have hx2 := heap_alloc_new wo (.cells #[.slice (some ⟨ba, offa + j * 4, none⟩) 1 (sc - j), .slice none 0 0, .slice none 0 0] 26)
      obtain ⟨W1, hW1⟩ : ∃ W, W = wo.alloc (.cells #[.slice (some ⟨ba, offa + j * 4, none⟩) 1 (sc - j), .slice none 0 0, .slice none 0 0] 26) := ⟨_, rfl⟩
      rw [← hW1] at hb2 hx2
      rw [← hW1]
      have HB3 := Lib.hid (HBW.out.trans (hb2.mono HBW.out.size))
      have HX3 := Lib.hid (keepB HXB.out hb2)
      obtain ⟨k0, k1, k2, -⟩ := cells3 hx2
      have HN3 := Lib.hid hx2
      clear hb2 hx2 hW1 y0 y1 y2 HBW HXB
      cases bk with
      | false =>
        go_wp2_with (first
          | (go_at_call 14; refine (hcT.out _ HB3.out).mono ?_; rintro e w4 ⟨rfl, hq⟩; have HB4 := Lib.hid (HB3.out.trans (hq.mono HB3.out.size)); have HX4 := Lib.hid (keepB HX3.out hq); have hxn := keepB HN3.out hq; obtain ⟨u0, u1, u2, -⟩ := cells3 hxn; clear hq hxn)
          | (go_at_call 13; refine (hcK.out _ HB4.out).mono ?_; rintro e w5 ⟨rfl, hq⟩; have HB5 := Lib.hid (HB4.out.trans (hq.mono HB4.out.size)); have HX5 := Lib.hid (keepB HX4.out hq); clear hq))
        go_roundw
        case rel => exact ⟨j + 1, by omega, by go_num, by rw [HSN.out, ← HPR.out, ← strB_append], by rw [HAL.out]; simp, HB5.out, HX5.out⟩
        case measure => simp [intOf]; omega
      | true =>
        go_wp2_with (first
          | (go_at_call 14; refine (hcT.out _ HB3.out).mono ?_; rintro e w4 ⟨rfl, hq⟩; have HB4 := Lib.hid (HB3.out.trans (hq.mono HB3.out.size)); have HX4 := Lib.hid (keepB HX3.out hq); have hxn := keepB HN3.out hq; obtain ⟨u0, u1, u2, -⟩ := cells3 hxn; clear hq hxn)
          | (go_at_call 13; refine (hcK.out _ HB4.out).mono ?_; rintro e w5 ⟨rfl, hq⟩; have HB5 := Lib.hid (HB4.out.trans (hq.mono HB4.out.size)); have HX5 := Lib.hid (keepB HX4.out hq); clear hq))
        go_roundw
        case rel => exact ⟨j + 1, by omega, by go_num, by rw [HSN.out, ← HPR.out, ← strB_append], by rw [HAL.out, Bool.and_true, ← HVB.out], HB5.out, HX5.out⟩
        case measure => simp [intOf]; omega
    · have t1 : decide ((j : Int) < ss.length) = false := by simp; omega
      obtain rfl : j = ss.length := by omega
      rw [List.take_length]
      have HBE := Lib.hid hbw
      have HXE := Lib.hid hxb
      obtain ⟨wq1, rfl⟩ : ∃ wq : World, wq = wo := ⟨_, rfl⟩
      clear hbw hxb hjl hj
      have HB7 := Lib.hid HBE.out
      have HX7 := Lib.hid HXE.out
      clear HBE HXE
      go_wp2_with fail
      clear y0 y1 y2 hlt0
      go_loopw [5, 6, 9, 10] (fun a v u _ wr => ∃ j : Nat, j ≤ es.length ∧ u = .int .i64 j ∧ a = .string (strB (ss.flatMap structT ++ (es.take j).flatMap enumT)) ∧ v = .bool (ss.all suOk && (es.take j).all enOk) ∧ Below w.heap.size w wr ∧ wr.heap[w.heap.size]? = some (.cells #[.slice sa ss.length sc, .slice ea es.length ec, .slice fa fs.length fc] 26)) (fun _ _ u _ _ => es.length - (intOf u).toNat)
      case atStart => exact ⟨0, by omega, rfl, by simp, by simp, HB7.out, HX7.out⟩
      case round =>
        clear HB7 HX7
        obtain ⟨j, hj, rfl, rfl, rfl, hbw, hxb⟩ := hrel
        obtain ⟨wo, rfl⟩ : ∃ wo : World, wo = wr := ⟨_, rfl⟩
        obtain ⟨y0, y1, y2, -, hlt0⟩ := cells3 hxb
        by_cases hjl : j < es.length
        · have t1 : decide ((j : Int) < es.length) = true := by simp; omega
          obtain ⟨ba, offa, rfl, hlt, hcell⟩ := e3.out (by omega)
          obtain ⟨x, hx⟩ : ∃ x, es[j]? = some x := ⟨_, List.getElem?_eq_getElem hjl⟩
          have hln := flatMap_len enumT es j x hx
          have HSN := Lib.hid (flatMap_snoc enumT es j x hx)
          have HAL := Lib.hid (show (es.take (j + 1)).all enOk = ((es.take j).all enOk && enOk x) by
            obtain ⟨h1, h2⟩ := List.getElem?_eq_some_iff.1 hx
            rw [List.take_succ_eq_append_getElem h1, List.all_append, h2, List.all_cons, List.all_nil, Bool.and_true])
          have hrow := row_sub (w := w) (P := EnH n w) (by omega) hm2.out hlt hcell hx (e4.out x (List.mem_of_getElem? hx))
          obtain ⟨p, hp⟩ : ∃ p : So5, p = ⟨z0, [], ⟨some ⟨ba, offa + j * 3, none⟩, ec - j⟩, [x], z0, []⟩ := ⟨_, rfl⟩
          have hSp : SoH n w p := by rw [hp]; exact ⟨nilRow _ _ _ _, hrow, nilRow _ _ _ _⟩
          have hTp : textT p = enumT x := by rw [hp]; simp [textT]
          have hOp : soOk p = enOk x := by rw [hp]; simp [soOk]
          have hVp : soV p = .agg #[.slice none 0 0, .slice (some ⟨ba, offa + j * 3, none⟩) 1 (ec - j), .slice none 0 0] := by rw [hp]; rfl
          have hcT := fun W (h : Below w.heap.size w W) => text_any n p W (hSp.below h) (HV.out.b h) (by rw [hTp]; omega)
          have hcK := fun W (h : Below w.heap.size w W) => valid_any n p W (hSp.below h) (HV.out.b h)
          rw [hTp, hVp] at hcT
          rw [hOp, hVp] at hcK
          obtain ⟨TX, hTX⟩ : ∃ t, t = enumT x := ⟨_, rfl⟩
          rw [← hTX] at hcT hln HSN
          obtain ⟨bk, hbk⟩ : ∃ t, t = enOk x := ⟨_, rfl⟩
          rw [← hbk] at hcK HAL
          obtain ⟨pr, hpr⟩ : ∃ q, q = ss.flatMap structT ++ (es.take j).flatMap enumT := ⟨_, rfl⟩
          have hprl : pr.length = (ss.flatMap structT).length + ((es.take j).flatMap enumT).length := by rw [hpr, List.length_append]
          skip
          obtain ⟨vb, hvb⟩ : ∃ q, q = (ss.all suOk && (es.take j).all enOk) := ⟨_, rfl⟩
          rw [← hpr, ← hvb]
          have HPR := Lib.hid hpr
          have HVB := Lib.hid hvb
          have hz1 : (strB pr).size ≤ 100000000000000 := by rw [strB_size]; omega
          have hz2 : (strB TX).size ≤ 100000000000000 := by rw [strB_size]; omega
          replace hcT := Lib.hid hcT
          replace hcK := Lib.hid hcK
          have HBW := Lib.hid hbw
          have HXB := Lib.hid hxb
          have hcp : j + 1 ≤ ec := by omega
          clear hx hcell hlt hrow hp hSp hTp hOp hVp hTX hbk hpr hvb hbw hxb hln hprl
          go_upto_region 19 with fail
          have hb2 := alloc_below wo (.cells #[.slice none 0 0, .slice (some ⟨ba, offa + j * 3, none⟩) 1 (ec - j), .slice none 0 0] 26)
          have hx2 := heap_alloc_new wo (.cells #[.slice none 0 0, .slice (some ⟨ba, offa + j * 3, none⟩) 1 (ec - j), .slice none 0 0] 26)
          obtain ⟨W1, hW1⟩ : ∃ W, W = wo.alloc (.cells #[.slice none 0 0, .slice (some ⟨ba, offa + j * 3, none⟩) 1 (ec - j), .slice none 0 0] 26) := ⟨_, rfl⟩
          rw [← hW1] at hb2 hx2
          rw [← hW1]
          have HB3 := Lib.hid (HBW.out.trans (hb2.mono HBW.out.size))
          have HX3 := Lib.hid (keepB HXB.out hb2)
          obtain ⟨k0, k1, k2, -⟩ := cells3 hx2
          have HN3 := Lib.hid hx2
          clear hb2 hx2 hW1 y0 y1 y2 HBW HXB
          cases bk with
          | false =>
            go_wp2_with (first
              | (go_at_call 14; refine (hcT.out _ HB3.out).mono ?_; rintro e w4 ⟨rfl, hq⟩; have HB4 := Lib.hid (HB3.out.trans (hq.mono HB3.out.size)); have HX4 := Lib.hid (keepB HX3.out hq); have hxn := keepB HN3.out hq; obtain ⟨u0, u1, u2, -⟩ := cells3 hxn; clear hq hxn)
              | (go_at_call 13; refine (hcK.out _ HB4.out).mono ?_; rintro e w5 ⟨rfl, hq⟩; have HB5 := Lib.hid (HB4.out.trans (hq.mono HB4.out.size)); have HX5 := Lib.hid (keepB HX4.out hq); clear hq))
            go_roundw
            case rel => exact ⟨j + 1, by omega, by go_num, by rw [HSN.out, ← List.append_assoc, ← HPR.out, ← strB_append], by rw [HAL.out]; simp, HB5.out, HX5.out⟩
            case measure => simp [intOf]; omega
          | true =>
            go_wp2_with (first
              | (go_at_call 14; refine (hcT.out _ HB3.out).mono ?_; rintro e w4 ⟨rfl, hq⟩; have HB4 := Lib.hid (HB3.out.trans (hq.mono HB3.out.size)); have HX4 := Lib.hid (keepB HX3.out hq); have hxn := keepB HN3.out hq; obtain ⟨u0, u1, u2, -⟩ := cells3 hxn; clear hq hxn)
              | (go_at_call 13; refine (hcK.out _ HB4.out).mono ?_; rintro e w5 ⟨rfl, hq⟩; have HB5 := Lib.hid (HB4.out.trans (hq.mono HB4.out.size)); have HX5 := Lib.hid (keepB HX4.out hq); clear hq))
            go_roundw
            case rel => exact ⟨j + 1, by omega, by go_num, by rw [HSN.out, ← List.append_assoc, ← HPR.out, ← strB_append], by rw [HAL.out, Bool.and_true, ← HVB.out], HB5.out, HX5.out⟩
            case measure => simp [intOf]; omega
        · have t1 : decide ((j : Int) < es.length) = false := by simp; omega
          obtain rfl : j = es.length := by omega
          rw [List.take_length]
          have HBE := Lib.hid hbw
          have HXE := Lib.hid hxb
          obtain ⟨wq2, rfl⟩ : ∃ wq : World, wq = wo := ⟨_, rfl⟩
          clear hbw hxb hjl hj
          have HB8 := Lib.hid HBE.out
          have HX8 := Lib.hid HXE.out
          clear HBE HXE
          go_wp2_with fail
          clear y0 y1 y2 hlt0
          go_loopw [5, 6, 11, 12] (fun a v u _ wr => ∃ j : Nat, j ≤ fs.length ∧ u = .int .i64 j ∧ a = .string (strB (ss.flatMap structT ++ es.flatMap enumT ++ (fs.take j).flatMap (fnT stT parT))) ∧ v = .bool (ss.all suOk && es.all enOk && (fs.take j).all fnOk) ∧ Below w.heap.size w wr ∧ wr.heap[w.heap.size]? = some (.cells #[.slice sa ss.length sc, .slice ea es.length ec, .slice fa fs.length fc] 26)) (fun _ _ u _ _ => fs.length - (intOf u).toNat)
          case atStart => exact ⟨0, by omega, rfl, by simp, by simp, HB8.out, HX8.out⟩
          case round =>
            clear HB8 HX8
            obtain ⟨j, hj, rfl, rfl, rfl, hbw, hxb⟩ := hrel
            obtain ⟨wo, rfl⟩ : ∃ wo : World, wo = wr := ⟨_, rfl⟩
            obtain ⟨y0, y1, y2, -, hlt0⟩ := cells3 hxb
            by_cases hjl : j < fs.length
            · have t1 : decide ((j : Int) < fs.length) = true := by simp; omega
              obtain ⟨ba, offa, rfl, hlt, hcell⟩ := f3.out (by omega)
              obtain ⟨x, hx⟩ : ∃ x, fs[j]? = some x := ⟨_, List.getElem?_eq_getElem hjl⟩
              have hln := flatMap_len (fnT stT parT) fs j x hx
              have HSN := Lib.hid (flatMap_snoc (fnT stT parT) fs j x hx)
              have HAL := Lib.hid (show (fs.take (j + 1)).all fnOk = ((fs.take j).all fnOk && fnOk x) by
                obtain ⟨h1, h2⟩ := List.getElem?_eq_some_iff.1 hx
                rw [List.take_succ_eq_append_getElem h1, List.all_append, h2, List.all_cons, List.all_nil, Bool.and_true])
              have hrow := row_sub (w := w) (P := FnH n w) (by omega) hm3.out hlt hcell hx (f4.out x (List.mem_of_getElem? hx))
              obtain ⟨p, hp⟩ : ∃ p : So5, p = ⟨z0, [], z0, [], ⟨some ⟨ba, offa + j * 4, none⟩, fc - j⟩, [x]⟩ := ⟨_, rfl⟩
              have hSp : SoH n w p := by rw [hp]; exact ⟨nilRow _ _ _ _, nilRow _ _ _ _, hrow⟩
              have hTp : textT p = (fnT stT parT) x := by rw [hp]; simp [textT]
              have hOp : soOk p = fnOk x := by rw [hp]; simp [soOk]
              have hVp : soV p = .agg #[.slice none 0 0, .slice none 0 0, .slice (some ⟨ba, offa + j * 4, none⟩) 1 (fc - j)] := by rw [hp]; rfl
              have hcT := fun W (h : Below w.heap.size w W) => text_any n p W (hSp.below h) (HV.out.b h) (by rw [hTp]; omega)
              have hcK := fun W (h : Below w.heap.size w W) => valid_any n p W (hSp.below h) (HV.out.b h)
              rw [hTp, hVp] at hcT
              rw [hOp, hVp] at hcK
              obtain ⟨TX, hTX⟩ : ∃ t, t = (fnT stT parT) x := ⟨_, rfl⟩
              rw [← hTX] at hcT hln HSN
              obtain ⟨bk, hbk⟩ : ∃ t, t = fnOk x := ⟨_, rfl⟩
              rw [← hbk] at hcK HAL
              obtain ⟨pr, hpr⟩ : ∃ q, q = ss.flatMap structT ++ es.flatMap enumT ++ (fs.take j).flatMap (fnT stT parT) := ⟨_, rfl⟩
              have hprl : pr.length = (ss.flatMap structT ++ es.flatMap enumT).length + ((fs.take j).flatMap (fnT stT parT)).length := by rw [hpr, List.length_append]
              simp only [List.length_append] at hprl
              obtain ⟨vb, hvb⟩ : ∃ q, q = (ss.all suOk && es.all enOk && (fs.take j).all fnOk) := ⟨_, rfl⟩
              rw [← hpr, ← hvb]
              have HPR := Lib.hid hpr
              have HVB := Lib.hid hvb
              have hz1 : (strB pr).size ≤ 100000000000000 := by rw [strB_size]; omega
              have hz2 : (strB TX).size ≤ 100000000000000 := by rw [strB_size]; omega
              replace hcT := Lib.hid hcT
              replace hcK := Lib.hid hcK
              have HBW := Lib.hid hbw
              have HXB := Lib.hid hxb
              have hcp : j + 1 ≤ fc := by omega
              clear hx hcell hlt hrow hp hSp hTp hOp hVp hTX hbk hpr hvb hbw hxb hln hprl
              go_upto_region 25 with fail
              have hb2 := alloc_below wo (.cells #[.slice none 0 0, .slice none 0 0, .slice (some ⟨ba, offa + j * 4, none⟩) 1 (fc - j)] 26)
              have hx2 := heap_alloc_new wo (.cells #[.slice none 0 0, .slice none 0 0, .slice (some ⟨ba, offa + j * 4, none⟩) 1 (fc - j)] 26)
              obtain ⟨W1, hW1⟩ : ∃ W, W = wo.alloc (.cells #[.slice none 0 0, .slice none 0 0, .slice (some ⟨ba, offa + j * 4, none⟩) 1 (fc - j)] 26) := ⟨_, rfl⟩
              rw [← hW1] at hb2 hx2
              rw [← hW1]
              have HB3 := Lib.hid (HBW.out.trans (hb2.mono HBW.out.size))
              have HX3 := Lib.hid (keepB HXB.out hb2)
              obtain ⟨k0, k1, k2, -⟩ := cells3 hx2
              have HN3 := Lib.hid hx2
              clear hb2 hx2 hW1 y0 y1 y2 HBW HXB
              cases bk with
              | false =>
                go_wp2_with (first
                  | (go_at_call 14; refine (hcT.out _ HB3.out).mono ?_; rintro e w4 ⟨rfl, hq⟩; have HB4 := Lib.hid (HB3.out.trans (hq.mono HB3.out.size)); have HX4 := Lib.hid (keepB HX3.out hq); have hxn := keepB HN3.out hq; obtain ⟨u0, u1, u2, -⟩ := cells3 hxn; clear hq hxn)
                  | (go_at_call 13; refine (hcK.out _ HB4.out).mono ?_; rintro e w5 ⟨rfl, hq⟩; have HB5 := Lib.hid (HB4.out.trans (hq.mono HB4.out.size)); have HX5 := Lib.hid (keepB HX4.out hq); clear hq))
                go_roundw
                case rel => exact ⟨j + 1, by omega, by go_num, by rw [HSN.out, ← List.append_assoc, ← HPR.out, ← strB_append], by rw [HAL.out]; simp, HB5.out, HX5.out⟩
                case measure => simp [intOf]; omega
              | true =>
                go_wp2_with (first
                  | (go_at_call 14; refine (hcT.out _ HB3.out).mono ?_; rintro e w4 ⟨rfl, hq⟩; have HB4 := Lib.hid (HB3.out.trans (hq.mono HB3.out.size)); have HX4 := Lib.hid (keepB HX3.out hq); have hxn := keepB HN3.out hq; obtain ⟨u0, u1, u2, -⟩ := cells3 hxn; clear hq hxn)
                  | (go_at_call 13; refine (hcK.out _ HB4.out).mono ?_; rintro e w5 ⟨rfl, hq⟩; have HB5 := Lib.hid (HB4.out.trans (hq.mono HB4.out.size)); have HX5 := Lib.hid (keepB HX4.out hq); clear hq))
                go_roundw
                case rel => exact ⟨j + 1, by omega, by go_num, by rw [HSN.out, ← List.append_assoc, ← HPR.out, ← strB_append], by rw [HAL.out, Bool.and_true, ← HVB.out], HB5.out, HX5.out⟩
                case measure => simp [intOf]; omega
            · have t1 : decide ((j : Int) < fs.length) = false := by simp; omega
              obtain rfl : j = fs.length := by omega
              rw [List.take_length]
              have HBE := Lib.hid hbw
              have HXE := Lib.hid hxb
              obtain ⟨wq3, rfl⟩ : ∃ wq : World, wq = wo := ⟨_, rfl⟩
              clear hbw hxb hjl hj
              rw [← HRe.out, ← HVe.out]
              go_wp2_with fail
              refine (hT.out _ HBE.out).mono ?_
              rintro e w6 ⟨rfl, hq⟩
              have HB6 := Lib.hid (HBE.out.trans (hq.mono HBE.out.size))
              have hx6 := keepB HXE.out hq
              obtain ⟨k0, k1, k2, -⟩ := cells3 hx6
              clear hq hx6
              go_wp2_with fail
              refine (hK.out _ HB6.out).mono ?_
              rintro e w7 ⟨rfl, hq⟩
              have HB7 := Lib.hid (HB6.out.trans (hq.mono HB6.out.size))
              clear hq
              cases V with
              | false =>
                go_wp2
                go_ret
                exact ⟨by first | done | rfl, HB7.out⟩
              | true =>
                go_wp2
                go_ret
                exact ⟨by first | done | rfl, HB7.out⟩

end Go.Proofs.YtgogdcpgfmndnaaGreatDoor
