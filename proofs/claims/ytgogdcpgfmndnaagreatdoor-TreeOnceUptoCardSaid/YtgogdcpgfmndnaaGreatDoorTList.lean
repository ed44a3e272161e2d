/-
  list of tree at its three types. Conditions: the slice lies in the heap; the function that is handed over keeps its contract; the text is not longer than 10^14.
-/
import Derived.Test.YtgogdcpgfmndnaaGreatDoorTType
import Derived.Test.YtgogdcpgfmndnaaGreatDoorTText
namespace Go.Proofs.YtgogdcpgfmndnaaGreatDoor
open Go.RowKit

def listT {α : Type} (T : α → List UInt8) : List α → List UInt8
  | [] => []
  | x :: r => T x ++ r.flatMap fun y => [44, 32] ++ T y
theorem listT_snoc {α : Type} (T : α → List UInt8) (l : List α) (j : Nat) (x : α) (h : l[j]? = some x) : listT T (l.take (j + 1)) = listT T (l.take j) ++ ((if j = 0 then [] else [44, 32]) ++ T x) := by
  cases l with
  | nil => simp at h
  | cons a r =>
    cases j with
    | zero =>
      simp at h
      subst h
      simp [listT]
    | succ i =>
      have h' : r[i]? = some x := by simpa using h
      rw [List.take_succ_cons, List.take_succ_cons, listT, listT, flatMap_snoc _ r i x h', if_neg (by omega), List.append_assoc]
theorem listT_take {α : Type} (T : α → List UInt8) (l : List α) (j : Nat) : ∃ r, listT T l = listT T (l.take j) ++ r := by
  cases l with
  | nil => exact ⟨[], by simp [listT]⟩
  | cons a r =>
    cases j with
    | zero => exact ⟨listT T (a :: r), by simp [listT]⟩
    | succ i => exact ⟨(r.drop i).flatMap fun y => [44, 32] ++ T y, by rw [List.take_succ_cons, listT, listT, List.append_assoc, ← List.flatMap_append, List.take_append_drop]⟩
theorem listT_len {α : Type} (T : α → List UInt8) (l : List α) (j : Nat) (x : α) (h : l[j]? = some x) : (listT T (l.take j)).length + (if j = 0 then 0 else 2) + (T x).length ≤ (listT T l).length := by
  obtain ⟨r, hr⟩ := listT_take T l (j + 1)
  rw [hr, listT_snoc T l j x h]
  simp only [List.length_append]
  split <;> simp <;> omega
theorem newBuilder (w : World) : Lib.IsBuilderF 94 5 w.heap.size w.heap.size (Lib.byteCells []) (w.alloc (.cells #[.pointer none, .slice none 0 0] 94)) := Lib.IsBuilderF.of (Lib.fresh_isBuilder 94 5 w)
theorem isBuilder_lt {b : Nat} {bs : List Value} {B : Nat} {w : World} (h : Lib.IsBuilderF 94 5 B b bs w) : b < w.heap.size := by
  rcases h with ⟨_, v, h, _⟩ | ⟨_, v, h, _⟩ <;> exact (Array.getElem?_eq_some_iff.1 h).1

set_option maxRecDepth 100000 in
set_option maxHeartbeats 4000000 in
theorem listFd_any (F : Nat) (hE : ∀ args w, (callFunc F args).run Tryz.prog w = .ok (.enter F args) w) (T : Fd5 → List UInt8) (P : World → Fd5 → Prop) (hPb : ∀ w w' x, P w x → Below w.heap.size w w' → P w' x)
    (w : World) (hF : ∀ x W, P W x → Below w.heap.size w W → (T x).length ≤ 100000000000000 → Calls Tryz.prog F #[fdV x] W fun e w' => e = .returned (.string (strB (T x))) ∧ Below W.heap.size W w')
    (ha : Hd) (la : List Fd5) (hA : Row w ha 4 la fdC (P w)) (hlen : (listT T la).length ≤ 100000000000000) :
    Calls Tryz.prog 50 #[.slice ha.oa la.length ha.cap, .func (.func F) #[] #[]] w fun e w' => e = .returned (.string (strB (listT T la))) ∧ Below w.heap.size w w' := by
  obtain ⟨oa, capa⟩ := ha
  obtain ⟨ha1, ha2, ha3, ha4⟩ := hA
  dsimp only at ha1 ha2 ha3 ⊢
  unfold maxLen at ha2
  replace ha3 := Lib.hid ha3
  replace ha4 := Lib.hid ha4
  replace hF := Lib.hid hF
  replace hPb := Lib.hid hPb
  obtain ⟨R, hR⟩ : ∃ R, R = listT T la := ⟨_, rfl⟩
  rw [← hR] at hlen ⊢
  have hI := newBuilder w
  obtain ⟨W0, hW0⟩ : ∃ W, W = w.alloc (.cells #[.pointer none, .slice none 0 0] 94) := ⟨_, rfl⟩
  rw [← hW0] at hI
  have hb0 : Below w.heap.size w W0 := by rw [hW0]; exact alloc_below _ _
  have HI0 := Lib.hid hI
  have HB0 := Lib.hid hb0
  have HR := Lib.hid hR
  clear hI hb0 hR
  go_enter Tryz.func50, Tryz.ntmps50
  go_wp2_with fail
  rw [← hW0]
  clear hW0
  go_loopw [10] (fun u wr => ∃ j : Nat, j ≤ la.length ∧ u = .int .i64 j ∧ Lib.IsBuilderF 94 5 w.heap.size w.heap.size (Lib.byteCells (listT T (la.take j))) wr ∧ Below w.heap.size w wr) (fun u _ => la.length - (intOf u).toNat)
  case atStart => exact ⟨0, by omega, rfl, by simpa [listT] using HI0.out, HB0.out⟩
  case round =>
    clear HI0 HB0
    obtain ⟨j, hj, rfl, hI, hbw⟩ := hrel
    obtain ⟨wo, rfl⟩ : ∃ wo : World, wo = wr := ⟨_, rfl⟩
    by_cases hjl : j < la.length
    · have t1 : decide ((j : Int) < la.length) = true := by simp; omega
      obtain ⟨ba, offa, rfl, hxlt, hxc⟩ := ha3.out (by omega)
      obtain ⟨x, hx⟩ : ∃ x, la[j]? = some x := ⟨_, List.getElem?_eq_getElem hjl⟩
      have hln := listT_len T la j x hx
      rw [← HR.out] at hln
      have HS := Lib.hid (listT_snoc T la j x hx)
      have hmem := ha4.out x (List.mem_of_getElem? hx)
      have hcall : ∀ W, Below w.heap.size w W → Calls Tryz.prog F #[fdV x] W fun e w' => e = .returned (.string (strB (T x))) ∧ Below W.heap.size W w' := fun W hW => hF.out x W (hPb.out _ _ _ hmem hW) hW (by omega)
      clear hmem
      obtain ⟨TX, hTX⟩ : ∃ t, t = T x := ⟨_, rfl⟩
      rw [← hTX] at hcall hln
      have HTX := Lib.hid hTX
      clear hTX
      have hszx : (strB TX).size = TX.length := strB_size TX
      obtain ⟨pre, hpre⟩ : ∃ p, p = listT T (la.take j) := ⟨_, rfl⟩
      rw [← hpre] at hI hln
      have HPRE := Lib.hid hpre
      clear hpre
      obtain ⟨fn1, ⟨k1, nm1, h1, l1⟩⟩ := x
      simp only [fdV, fdC, tyC] at hcall
      replace hcall := Lib.hid hcall
      have gx0 : wo.cell? ⟨ba, offa + j * 4, none⟩ = some (.string fn1) := (hbw.cell (p := ⟨ba, offa + j * 4, none⟩) hxlt).trans (by simpa using hxc j _ hx 0 _ rfl)
      have gx1 : wo.cell? ⟨ba, offa + j * 4 + 1, none⟩ = some (.int .i64 k1) := (hbw.cell (p := ⟨ba, offa + j * 4 + 1, none⟩) hxlt).trans (by simpa using hxc j _ hx 1 _ rfl)
      have gx2 : wo.cell? ⟨ba, offa + j * 4 + 2, none⟩ = some (.string nm1) := (hbw.cell (p := ⟨ba, offa + j * 4 + 2, none⟩) hxlt).trans (by simpa using hxc j _ hx 2 _ rfl)
      have gx3 : wo.cell? ⟨ba, offa + j * 4 + 3, none⟩ = some (.slice h1.oa l1.length h1.cap) := (hbw.cell (p := ⟨ba, offa + j * 4 + 3, none⟩) hxlt).trans (by simpa using hxc j _ hx 3 _ rfl)
      clear hx hxc
      have hb2 := alloc_below wo (.cells #[.string fn1, .int .i64 k1, .string nm1, .slice h1.oa l1.length h1.cap] 102)
      have hx2 := heap_alloc_new wo (.cells #[.string fn1, .int .i64 k1, .string nm1, .slice h1.oa l1.length h1.cap] 102)
      have HI2 := Lib.hid (builder_below hI hb2)
      have hne : wo.heap.size ≠ w.heap.size := by have := isBuilder_lt hI; omega
      obtain ⟨W2, hW2⟩ : ∃ W, W = wo.alloc (.cells #[.string fn1, .int .i64 k1, .string nm1, .slice h1.oa l1.length h1.cap] 102) := ⟨_, rfl⟩
      rw [← hW2] at hb2 hx2 HI2
      have HB2 := Lib.hid (hbw.trans (hb2.mono hbw.size))
      obtain ⟨f0, f1, f2, f3, -⟩ := cells4 hx2
      have HX2 := Lib.hid hx2
      clear hx2 hb2 hI hbw
      by_cases hj0 : j = 0
      · have tj : ¬ 0 < j := by omega
        have hS2 := HS.out
        rw [if_pos hj0] at hln hS2
        clear HS hj0
        have HS := Lib.hid hS2
        clear hS2
        go_wp2_with fail
        rw [← hW2]
        clear hW2
        refine (hcall.out W2 HB2.out).mono ?_
        rintro e w4 ⟨rfl, hb4⟩
        have HI4 := Lib.hid (builder_below HI2.out hb4)
        have HB4 := Lib.hid (HB2.out.trans (hb4.mono HB2.out.size))
        clear hb4
        go_wp2_with fail
        refine (writeString_any _ _ _ (strB TX) w4 HI4.out (by rw [Lib.byteCells_length]; omega) HB4.out.size).mono ?_
        rintro e w5 ⟨rfl, h5, hb5, hk5⟩
        have H5 := Lib.hid (show Lib.IsBuilderF 94 5 w.heap.size w.heap.size (Lib.byteCells (listT T (la.take (j + 1)))) w5 by
          rw [HS.out, ← HPRE.out, ← HTX.out]
          have e : Lib.byteCells (pre) ++ Lib.strCells (strB TX) = Lib.byteCells (pre ++ ([] ++ TX)) := by rw [cells_str, strB_bs, ← Lib.byteCells_append]; rfl
          rw [e] at h5
          exact .inr h5)
        have HB5 := Lib.hid (HB4.out.trans hb5)
        clear h5 hb5 hk5
        go_wp2
        go_roundw
        case rel => exact ⟨j + 1, by omega, by go_num, H5.out, HB5.out⟩
        case measure => simp [intOf]; omega
      · have tj : 0 < j := by omega
        have hS2 := HS.out
        rw [if_neg hj0] at hln hS2
        clear HS hj0
        have HS := Lib.hid hS2
        clear hS2
        go_wp2_with fail
        rw [← hW2]
        clear hW2
        refine (writeString_any _ _ _ ⟨#[44, 32]⟩ W2 HI2.out (by rw [Lib.byteCells_length, show (⟨#[44, 32]⟩ : ByteArray).size = 2 from rfl]; omega) HB2.out.size).mono ?_
        rintro e w3 ⟨rfl, h3, hb3, hk3⟩
        have hx3 := kp_block ⟨hb3, hk3⟩ HX2.out hne (by decide)
        obtain ⟨k0, k1, k2, k3, -⟩ := cells4 hx3
        have HI3 := Lib.hid (show Lib.IsBuilderF 94 5 w.heap.size w.heap.size (Lib.byteCells (pre ++ [44, 32])) w3 by rw [Lib.byteCells_append]; exact .inr h3)
        have HB3 := Lib.hid (HB2.out.trans hb3)
        clear h3 hb3 hk3 hx3 f0 f1 f2 f3
        go_wp2_with (go_at_fn F; refine (hcall.out w3 HB3.out).mono ?_; rintro e w4 ⟨rfl, hb4⟩; have HI4 := Lib.hid (builder_below HI3.out hb4); have HB4 := Lib.hid (HB3.out.trans (hb4.mono HB3.out.size)); clear hb4)
        refine (writeString_any _ _ _ (strB TX) w4 HI4.out (by rw [Lib.byteCells_length]; simp only [List.length_append, List.length_cons, List.length_nil]; omega) HB4.out.size).mono ?_
        rintro e w5 ⟨rfl, h5, hb5, hk5⟩
        have H5 := Lib.hid (show Lib.IsBuilderF 94 5 w.heap.size w.heap.size (Lib.byteCells (listT T (la.take (j + 1)))) w5 by
          rw [HS.out, ← HPRE.out, ← HTX.out]
          have e : Lib.byteCells (pre ++ [44, 32]) ++ Lib.strCells (strB TX) = Lib.byteCells (pre ++ ([44, 32] ++ TX)) := by rw [cells_str, strB_bs, ← Lib.byteCells_append]; rw [List.append_assoc]
          rw [e] at h5
          exact .inr h5)
        have HB5 := Lib.hid (HB4.out.trans hb5)
        clear h5 hb5 hk5
        go_wp2
        go_roundw
        case rel => exact ⟨j + 1, by omega, by go_num, H5.out, HB5.out⟩
        case measure => simp [intOf]; omega
    · have t1 : decide ((j : Int) < la.length) = false := by simp; omega
      obtain rfl : j = la.length := by omega
      rw [List.take_length, ← HR.out] at hI
      have hs := Lib.hid (Tryz.Builder_String_any_k w.heap.size w.heap.size R wo hI hbw.size)
      go_wp2_with fail
      refine hs.out.mono ?_
      rintro e w1 ⟨rfl, -, hb1, -⟩
      have HB1 := Lib.hid (hbw.trans hb1)
      clear hb1
      go_wp2
      go_ret
      exact ⟨rfl, HB1.out⟩

set_option maxRecDepth 100000 in
set_option maxHeartbeats 4000000 in
theorem listVa_any (F : Nat) (hE : ∀ args w, (callFunc F args).run Tryz.prog w = .ok (.enter F args) w) (T : Fd5 → List UInt8) (P : World → Fd5 → Prop) (hPb : ∀ w w' x, P w x → Below w.heap.size w w' → P w' x)
    (w : World) (hF : ∀ x W, P W x → Below w.heap.size w W → (T x).length ≤ 100000000000000 → Calls Tryz.prog F #[fdV x] W fun e w' => e = .returned (.string (strB (T x))) ∧ Below W.heap.size W w')
    (ha : Hd) (la : List Fd5) (hA : Row w ha 4 la fdC (P w)) (hlen : (listT T la).length ≤ 100000000000000) :
    Calls Tryz.prog 80 #[.slice ha.oa la.length ha.cap, .func (.func F) #[] #[]] w fun e w' => e = .returned (.string (strB (listT T la))) ∧ Below w.heap.size w w' := by
  obtain ⟨oa, capa⟩ := ha
  obtain ⟨ha1, ha2, ha3, ha4⟩ := hA
  dsimp only at ha1 ha2 ha3 ⊢
  unfold maxLen at ha2
  replace ha3 := Lib.hid ha3
  replace ha4 := Lib.hid ha4
  replace hF := Lib.hid hF
  replace hPb := Lib.hid hPb
  obtain ⟨R, hR⟩ : ∃ R, R = listT T la := ⟨_, rfl⟩
  rw [← hR] at hlen ⊢
  have hI := newBuilder w
  obtain ⟨W0, hW0⟩ : ∃ W, W = w.alloc (.cells #[.pointer none, .slice none 0 0] 94) := ⟨_, rfl⟩
  rw [← hW0] at hI
  have hb0 : Below w.heap.size w W0 := by rw [hW0]; exact alloc_below _ _
  have HI0 := Lib.hid hI
  have HB0 := Lib.hid hb0
  have HR := Lib.hid hR
  clear hI hb0 hR
  go_enter Tryz.func80, Tryz.ntmps80
  go_wp2_with fail
  rw [← hW0]
  clear hW0
  go_loopw [10] (fun u wr => ∃ j : Nat, j ≤ la.length ∧ u = .int .i64 j ∧ Lib.IsBuilderF 94 5 w.heap.size w.heap.size (Lib.byteCells (listT T (la.take j))) wr ∧ Below w.heap.size w wr) (fun u _ => la.length - (intOf u).toNat)
  case atStart => exact ⟨0, by omega, rfl, by simpa [listT] using HI0.out, HB0.out⟩
  case round =>
    clear HI0 HB0
    obtain ⟨j, hj, rfl, hI, hbw⟩ := hrel
    obtain ⟨wo, rfl⟩ : ∃ wo : World, wo = wr := ⟨_, rfl⟩
    by_cases hjl : j < la.length
    · have t1 : decide ((j : Int) < la.length) = true := by simp; omega
      obtain ⟨ba, offa, rfl, hxlt, hxc⟩ := ha3.out (by omega)
      obtain ⟨x, hx⟩ : ∃ x, la[j]? = some x := ⟨_, List.getElem?_eq_getElem hjl⟩
      have hln := listT_len T la j x hx
      rw [← HR.out] at hln
      have HS := Lib.hid (listT_snoc T la j x hx)
      have hmem := ha4.out x (List.mem_of_getElem? hx)
      have hcall : ∀ W, Below w.heap.size w W → Calls Tryz.prog F #[fdV x] W fun e w' => e = .returned (.string (strB (T x))) ∧ Below W.heap.size W w' := fun W hW => hF.out x W (hPb.out _ _ _ hmem hW) hW (by omega)
      clear hmem
      obtain ⟨TX, hTX⟩ : ∃ t, t = T x := ⟨_, rfl⟩
      rw [← hTX] at hcall hln
      have HTX := Lib.hid hTX
      clear hTX
      have hszx : (strB TX).size = TX.length := strB_size TX
      obtain ⟨pre, hpre⟩ : ∃ p, p = listT T (la.take j) := ⟨_, rfl⟩
      rw [← hpre] at hI hln
      have HPRE := Lib.hid hpre
      clear hpre
      obtain ⟨fn1, ⟨k1, nm1, h1, l1⟩⟩ := x
      simp only [fdV, fdC, tyC] at hcall
      replace hcall := Lib.hid hcall
      have gx0 : wo.cell? ⟨ba, offa + j * 4, none⟩ = some (.string fn1) := (hbw.cell (p := ⟨ba, offa + j * 4, none⟩) hxlt).trans (by simpa using hxc j _ hx 0 _ rfl)
      have gx1 : wo.cell? ⟨ba, offa + j * 4 + 1, none⟩ = some (.int .i64 k1) := (hbw.cell (p := ⟨ba, offa + j * 4 + 1, none⟩) hxlt).trans (by simpa using hxc j _ hx 1 _ rfl)
      have gx2 : wo.cell? ⟨ba, offa + j * 4 + 2, none⟩ = some (.string nm1) := (hbw.cell (p := ⟨ba, offa + j * 4 + 2, none⟩) hxlt).trans (by simpa using hxc j _ hx 2 _ rfl)
      have gx3 : wo.cell? ⟨ba, offa + j * 4 + 3, none⟩ = some (.slice h1.oa l1.length h1.cap) := (hbw.cell (p := ⟨ba, offa + j * 4 + 3, none⟩) hxlt).trans (by simpa using hxc j _ hx 3 _ rfl)
      clear hx hxc
      have hb2 := alloc_below wo (.cells #[.string fn1, .int .i64 k1, .string nm1, .slice h1.oa l1.length h1.cap] 71)
      have hx2 := heap_alloc_new wo (.cells #[.string fn1, .int .i64 k1, .string nm1, .slice h1.oa l1.length h1.cap] 71)
      have HI2 := Lib.hid (builder_below hI hb2)
      have hne : wo.heap.size ≠ w.heap.size := by have := isBuilder_lt hI; omega
      obtain ⟨W2, hW2⟩ : ∃ W, W = wo.alloc (.cells #[.string fn1, .int .i64 k1, .string nm1, .slice h1.oa l1.length h1.cap] 71) := ⟨_, rfl⟩
      rw [← hW2] at hb2 hx2 HI2
      have HB2 := Lib.hid (hbw.trans (hb2.mono hbw.size))
      obtain ⟨f0, f1, f2, f3, -⟩ := cells4 hx2
      have HX2 := Lib.hid hx2
      clear hx2 hb2 hI hbw
      by_cases hj0 : j = 0
      · have tj : ¬ 0 < j := by omega
        have hS2 := HS.out
        rw [if_pos hj0] at hln hS2
        clear HS hj0
        have HS := Lib.hid hS2
        clear hS2
        go_wp2_with fail
        rw [← hW2]
        clear hW2
        refine (hcall.out W2 HB2.out).mono ?_
        rintro e w4 ⟨rfl, hb4⟩
        have HI4 := Lib.hid (builder_below HI2.out hb4)
        have HB4 := Lib.hid (HB2.out.trans (hb4.mono HB2.out.size))
        clear hb4
        go_wp2_with fail
        refine (writeString_any _ _ _ (strB TX) w4 HI4.out (by rw [Lib.byteCells_length]; omega) HB4.out.size).mono ?_
        rintro e w5 ⟨rfl, h5, hb5, hk5⟩
        have H5 := Lib.hid (show Lib.IsBuilderF 94 5 w.heap.size w.heap.size (Lib.byteCells (listT T (la.take (j + 1)))) w5 by
          rw [HS.out, ← HPRE.out, ← HTX.out]
          have e : Lib.byteCells (pre) ++ Lib.strCells (strB TX) = Lib.byteCells (pre ++ ([] ++ TX)) := by rw [cells_str, strB_bs, ← Lib.byteCells_append]; rfl
          rw [e] at h5
          exact .inr h5)
        have HB5 := Lib.hid (HB4.out.trans hb5)
        clear h5 hb5 hk5
        go_wp2
        go_roundw
        case rel => exact ⟨j + 1, by omega, by go_num, H5.out, HB5.out⟩
        case measure => simp [intOf]; omega
      · have tj : 0 < j := by omega
        have hS2 := HS.out
        rw [if_neg hj0] at hln hS2
        clear HS hj0
        have HS := Lib.hid hS2
        clear hS2
        go_wp2_with fail
        rw [← hW2]
        clear hW2
        refine (writeString_any _ _ _ ⟨#[44, 32]⟩ W2 HI2.out (by rw [Lib.byteCells_length, show (⟨#[44, 32]⟩ : ByteArray).size = 2 from rfl]; omega) HB2.out.size).mono ?_
        rintro e w3 ⟨rfl, h3, hb3, hk3⟩
        have hx3 := kp_block ⟨hb3, hk3⟩ HX2.out hne (by decide)
        obtain ⟨k0, k1, k2, k3, -⟩ := cells4 hx3
        have HI3 := Lib.hid (show Lib.IsBuilderF 94 5 w.heap.size w.heap.size (Lib.byteCells (pre ++ [44, 32])) w3 by rw [Lib.byteCells_append]; exact .inr h3)
        have HB3 := Lib.hid (HB2.out.trans hb3)
        clear h3 hb3 hk3 hx3 f0 f1 f2 f3
        go_wp2_with (go_at_fn F; refine (hcall.out w3 HB3.out).mono ?_; rintro e w4 ⟨rfl, hb4⟩; have HI4 := Lib.hid (builder_below HI3.out hb4); have HB4 := Lib.hid (HB3.out.trans (hb4.mono HB3.out.size)); clear hb4)
        refine (writeString_any _ _ _ (strB TX) w4 HI4.out (by rw [Lib.byteCells_length]; simp only [List.length_append, List.length_cons, List.length_nil]; omega) HB4.out.size).mono ?_
        rintro e w5 ⟨rfl, h5, hb5, hk5⟩
        have H5 := Lib.hid (show Lib.IsBuilderF 94 5 w.heap.size w.heap.size (Lib.byteCells (listT T (la.take (j + 1)))) w5 by
          rw [HS.out, ← HPRE.out, ← HTX.out]
          have e : Lib.byteCells (pre ++ [44, 32]) ++ Lib.strCells (strB TX) = Lib.byteCells (pre ++ ([44, 32] ++ TX)) := by rw [cells_str, strB_bs, ← Lib.byteCells_append]; rw [List.append_assoc]
          rw [e] at h5
          exact .inr h5)
        have HB5 := Lib.hid (HB4.out.trans hb5)
        clear h5 hb5 hk5
        go_wp2
        go_roundw
        case rel => exact ⟨j + 1, by omega, by go_num, H5.out, HB5.out⟩
        case measure => simp [intOf]; omega
    · have t1 : decide ((j : Int) < la.length) = false := by simp; omega
      obtain rfl : j = la.length := by omega
      rw [List.take_length, ← HR.out] at hI
      have hs := Lib.hid (Tryz.Builder_String_any_k w.heap.size w.heap.size R wo hI hbw.size)
      go_wp2_with fail
      refine hs.out.mono ?_
      rintro e w1 ⟨rfl, -, hb1, -⟩
      have HB1 := Lib.hid (hbw.trans hb1)
      clear hb1
      go_wp2
      go_ret
      exact ⟨rfl, HB1.out⟩

set_option maxRecDepth 100000 in
set_option maxHeartbeats 4000000 in
theorem listOp_any (F : Nat) (hE : ∀ args w, (callFunc F args).run Tryz.prog w = .ok (.enter F args) w) (T : Op5 → List UInt8) (P : World → Op5 → Prop) (hPb : ∀ w w' x, P w x → Below w.heap.size w w' → P w' x)
    (w : World) (hF : ∀ x W, P W x → Below w.heap.size w W → (T x).length ≤ 100000000000000 → Calls Tryz.prog F #[opV x] W fun e w' => e = .returned (.string (strB (T x))) ∧ Below W.heap.size W w')
    (ha : Hd) (la : List Op5) (hA : Row w ha 4 la opC (P w)) (hlen : (listT T la).length ≤ 100000000000000) :
    Calls Tryz.prog 84 #[.slice ha.oa la.length ha.cap, .func (.func F) #[] #[]] w fun e w' => e = .returned (.string (strB (listT T la))) ∧ Below w.heap.size w w' := by
  obtain ⟨oa, capa⟩ := ha
  obtain ⟨ha1, ha2, ha3, ha4⟩ := hA
  dsimp only at ha1 ha2 ha3 ⊢
  unfold maxLen at ha2
  replace ha3 := Lib.hid ha3
  replace ha4 := Lib.hid ha4
  replace hF := Lib.hid hF
  replace hPb := Lib.hid hPb
  obtain ⟨R, hR⟩ : ∃ R, R = listT T la := ⟨_, rfl⟩
  rw [← hR] at hlen ⊢
  have hI := newBuilder w
  obtain ⟨W0, hW0⟩ : ∃ W, W = w.alloc (.cells #[.pointer none, .slice none 0 0] 94) := ⟨_, rfl⟩
  rw [← hW0] at hI
  have hb0 : Below w.heap.size w W0 := by rw [hW0]; exact alloc_below _ _
  have HI0 := Lib.hid hI
  have HB0 := Lib.hid hb0
  have HR := Lib.hid hR
  clear hI hb0 hR
  go_enter Tryz.func84, Tryz.ntmps84
  go_wp2_with fail
  rw [← hW0]
  clear hW0
  go_loopw [10] (fun u wr => ∃ j : Nat, j ≤ la.length ∧ u = .int .i64 j ∧ Lib.IsBuilderF 94 5 w.heap.size w.heap.size (Lib.byteCells (listT T (la.take j))) wr ∧ Below w.heap.size w wr) (fun u _ => la.length - (intOf u).toNat)
  case atStart => exact ⟨0, by omega, rfl, by simpa [listT] using HI0.out, HB0.out⟩
  case round =>
    clear HI0 HB0
    obtain ⟨j, hj, rfl, hI, hbw⟩ := hrel
    obtain ⟨wo, rfl⟩ : ∃ wo : World, wo = wr := ⟨_, rfl⟩
    by_cases hjl : j < la.length
    · have t1 : decide ((j : Int) < la.length) = true := by simp; omega
      obtain ⟨ba, offa, rfl, hxlt, hxc⟩ := ha3.out (by omega)
      obtain ⟨x, hx⟩ : ∃ x, la[j]? = some x := ⟨_, List.getElem?_eq_getElem hjl⟩
      have hln := listT_len T la j x hx
      rw [← HR.out] at hln
      have HS := Lib.hid (listT_snoc T la j x hx)
      have hmem := ha4.out x (List.mem_of_getElem? hx)
      have hcall : ∀ W, Below w.heap.size w W → Calls Tryz.prog F #[opV x] W fun e w' => e = .returned (.string (strB (T x))) ∧ Below W.heap.size W w' := fun W hW => hF.out x W (hPb.out _ _ _ hmem hW) hW (by omega)
      clear hmem
      obtain ⟨TX, hTX⟩ : ∃ t, t = T x := ⟨_, rfl⟩
      rw [← hTX] at hcall hln
      have HTX := Lib.hid hTX
      clear hTX
      have hszx : (strB TX).size = TX.length := strB_size TX
      obtain ⟨pre, hpre⟩ : ∃ p, p = listT T (la.take j) := ⟨_, rfl⟩
      rw [← hpre] at hI hln
      have HPRE := Lib.hid hpre
      clear hpre
      obtain ⟨on1, oi1, ⟨pn1, ph1, pp1⟩⟩ := x
      simp only [opV, opC, plC, List.cons_append, List.nil_append] at hcall
      replace hcall := Lib.hid hcall
      have gx0 : wo.cell? ⟨ba, offa + j * 4, none⟩ = some (.bool on1) := (hbw.cell (p := ⟨ba, offa + j * 4, none⟩) hxlt).trans (by simpa using hxc j _ hx 0 _ rfl)
      have gx1 : wo.cell? ⟨ba, offa + j * 4 + 1, none⟩ = some (.int .i64 oi1) := (hbw.cell (p := ⟨ba, offa + j * 4 + 1, none⟩) hxlt).trans (by simpa using hxc j _ hx 1 _ rfl)
      have gx2 : wo.cell? ⟨ba, offa + j * 4 + 2, none⟩ = some (.string pn1) := (hbw.cell (p := ⟨ba, offa + j * 4 + 2, none⟩) hxlt).trans (by simpa using hxc j _ hx 2 _ rfl)
      have gx3 : wo.cell? ⟨ba, offa + j * 4 + 3, none⟩ = some (.slice ph1.oa pp1.length ph1.cap) := (hbw.cell (p := ⟨ba, offa + j * 4 + 3, none⟩) hxlt).trans (by simpa using hxc j _ hx 3 _ rfl)
      clear hx hxc
      have hb2 := alloc_below wo (.cells #[.bool on1, .int .i64 oi1, .string pn1, .slice ph1.oa pp1.length ph1.cap] 41)
      have hx2 := heap_alloc_new wo (.cells #[.bool on1, .int .i64 oi1, .string pn1, .slice ph1.oa pp1.length ph1.cap] 41)
      have HI2 := Lib.hid (builder_below hI hb2)
      have hne : wo.heap.size ≠ w.heap.size := by have := isBuilder_lt hI; omega
      obtain ⟨W2, hW2⟩ : ∃ W, W = wo.alloc (.cells #[.bool on1, .int .i64 oi1, .string pn1, .slice ph1.oa pp1.length ph1.cap] 41) := ⟨_, rfl⟩
      rw [← hW2] at hb2 hx2 HI2
      have HB2 := Lib.hid (hbw.trans (hb2.mono hbw.size))
      obtain ⟨f0, f1, f2, f3, -⟩ := cells4 hx2
      have HX2 := Lib.hid hx2
      clear hx2 hb2 hI hbw
      by_cases hj0 : j = 0
      · have tj : ¬ 0 < j := by omega
        have hS2 := HS.out
        rw [if_pos hj0] at hln hS2
        clear HS hj0
        have HS := Lib.hid hS2
        clear hS2
        go_wp2_with fail
        rw [← hW2]
        clear hW2
        refine (hcall.out W2 HB2.out).mono ?_
        rintro e w4 ⟨rfl, hb4⟩
        have HI4 := Lib.hid (builder_below HI2.out hb4)
        have HB4 := Lib.hid (HB2.out.trans (hb4.mono HB2.out.size))
        clear hb4
        go_wp2_with fail
        refine (writeString_any _ _ _ (strB TX) w4 HI4.out (by rw [Lib.byteCells_length]; omega) HB4.out.size).mono ?_
        rintro e w5 ⟨rfl, h5, hb5, hk5⟩
        have H5 := Lib.hid (show Lib.IsBuilderF 94 5 w.heap.size w.heap.size (Lib.byteCells (listT T (la.take (j + 1)))) w5 by
          rw [HS.out, ← HPRE.out, ← HTX.out]
          have e : Lib.byteCells (pre) ++ Lib.strCells (strB TX) = Lib.byteCells (pre ++ ([] ++ TX)) := by rw [cells_str, strB_bs, ← Lib.byteCells_append]; rfl
          rw [e] at h5
          exact .inr h5)
        have HB5 := Lib.hid (HB4.out.trans hb5)
        clear h5 hb5 hk5
        go_wp2
        go_roundw
        case rel => exact ⟨j + 1, by omega, by go_num, H5.out, HB5.out⟩
        case measure => simp [intOf]; omega
      · have tj : 0 < j := by omega
        have hS2 := HS.out
        rw [if_neg hj0] at hln hS2
        clear HS hj0
        have HS := Lib.hid hS2
        clear hS2
        go_wp2_with fail
        rw [← hW2]
        clear hW2
        refine (writeString_any _ _ _ ⟨#[44, 32]⟩ W2 HI2.out (by rw [Lib.byteCells_length, show (⟨#[44, 32]⟩ : ByteArray).size = 2 from rfl]; omega) HB2.out.size).mono ?_
        rintro e w3 ⟨rfl, h3, hb3, hk3⟩
        have hx3 := kp_block ⟨hb3, hk3⟩ HX2.out hne (by decide)
        obtain ⟨k0, k1, k2, k3, -⟩ := cells4 hx3
        have HI3 := Lib.hid (show Lib.IsBuilderF 94 5 w.heap.size w.heap.size (Lib.byteCells (pre ++ [44, 32])) w3 by rw [Lib.byteCells_append]; exact .inr h3)
        have HB3 := Lib.hid (HB2.out.trans hb3)
        clear h3 hb3 hk3 hx3 f0 f1 f2 f3
        go_wp2_with (go_at_fn F; refine (hcall.out w3 HB3.out).mono ?_; rintro e w4 ⟨rfl, hb4⟩; have HI4 := Lib.hid (builder_below HI3.out hb4); have HB4 := Lib.hid (HB3.out.trans (hb4.mono HB3.out.size)); clear hb4)
        refine (writeString_any _ _ _ (strB TX) w4 HI4.out (by rw [Lib.byteCells_length]; simp only [List.length_append, List.length_cons, List.length_nil]; omega) HB4.out.size).mono ?_
        rintro e w5 ⟨rfl, h5, hb5, hk5⟩
        have H5 := Lib.hid (show Lib.IsBuilderF 94 5 w.heap.size w.heap.size (Lib.byteCells (listT T (la.take (j + 1)))) w5 by
          rw [HS.out, ← HPRE.out, ← HTX.out]
          have e : Lib.byteCells (pre ++ [44, 32]) ++ Lib.strCells (strB TX) = Lib.byteCells (pre ++ ([44, 32] ++ TX)) := by rw [cells_str, strB_bs, ← Lib.byteCells_append]; rw [List.append_assoc]
          rw [e] at h5
          exact .inr h5)
        have HB5 := Lib.hid (HB4.out.trans hb5)
        clear h5 hb5 hk5
        go_wp2
        go_roundw
        case rel => exact ⟨j + 1, by omega, by go_num, H5.out, HB5.out⟩
        case measure => simp [intOf]; omega
    · have t1 : decide ((j : Int) < la.length) = false := by simp; omega
      obtain rfl : j = la.length := by omega
      rw [List.take_length, ← HR.out] at hI
      have hs := Lib.hid (Tryz.Builder_String_any_k w.heap.size w.heap.size R wo hI hbw.size)
      go_wp2_with fail
      refine hs.out.mono ?_
      rintro e w1 ⟨rfl, -, hb1, -⟩
      have HB1 := Lib.hid (hbw.trans hb1)
      clear hb1
      go_wp2
      go_ret
      exact ⟨rfl, HB1.out⟩

end Go.Proofs.YtgogdcpgfmndnaaGreatDoor
