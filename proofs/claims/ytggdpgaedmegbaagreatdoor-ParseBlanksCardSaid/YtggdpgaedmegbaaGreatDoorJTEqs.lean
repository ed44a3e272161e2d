/-
  slices.EqualFunc at each type but statements. Conditions: the slices lie in the heap; the function that is handed over keeps its contract.
-/
import Derived.Test.YtggdpgaedmegbaaGreatDoorJPBox
namespace Go.Proofs.YtggdpgaedmegbaaGreatDoor
open Go.RowKit


set_option maxRecDepth 100000 in
set_option maxHeartbeats 4000000 in
theorem eqTy_any (F : Nat) (hE : ∀ args w, (callFunc F args).run Tryz.prog w = .ok (.enter F args) w) (g : Ty5 → Ty5 → Bool) (P : World → Ty5 → Prop) (hPb : ∀ w w' x, P w x → Below w.heap.size w w' → P w' x)
    (hF : ∀ x y w, P w x → P w y → Calls Tryz.prog F #[tyV x, tyV y] w fun e w' => e = .returned (.bool (g x y)) ∧ Below w.heap.size w w')
    (ha hb : Hd) (la lb : List Ty5) (w : World) (hA : Row w ha 3 la tyC (P w)) (hB : Row w hb 3 lb tyC (P w)) :
    Calls Tryz.prog 256 #[.slice ha.oa la.length ha.cap, .slice hb.oa lb.length hb.cap, .func (.func F) #[] #[]] w fun e w' => e = .returned (.bool (eqL g la lb)) ∧ Below w.heap.size w w' := by
  obtain ⟨oa, capa⟩ := ha
  obtain ⟨ob, capb⟩ := hb
  obtain ⟨ha1, ha2, ha3, ha4⟩ := hA
  obtain ⟨hb1, hb2, hb3, hb4⟩ := hB
  dsimp only at ha1 ha2 ha3 hb1 hb2 hb3 ⊢
  unfold maxLen at ha2 hb2
  replace ha3 := Lib.hid ha3
  replace ha4 := Lib.hid ha4
  replace hb3 := Lib.hid hb3
  replace hb4 := Lib.hid hb4
  replace hF := Lib.hid hF
  replace hPb := Lib.hid hPb
  obtain ⟨R, hR⟩ : ∃ R, R = eqL g la lb := ⟨_, rfl⟩
  rw [← hR]
  replace hR := Lib.hid hR
  by_cases hl : la.length = lb.length
  · have t0 : ((la.length : Int) != (lb.length : Int)) = false := by simp; omega
    have hll := Lib.hid hl
    have hl1 : la.length ≤ lb.length := by omega
    have hl2 : lb.length ≤ la.length := by omega
    clear hl
    go_enter Tryz.func256, Tryz.ntmps256
    go_wp2_with fail
    go_loopw [17] (fun u wr => ∃ j : Nat, j ≤ la.length ∧ u = .int .i64 j ∧ eqL g (la.drop j) (lb.drop j) = R ∧ Below w.heap.size w wr) (fun u _ => la.length - (intOf u).toNat)
    case atStart => exact ⟨0, by omega, rfl, by simpa using hR.out.symm, Below.refl _ _⟩
    case round =>
      obtain ⟨j, hj, rfl, hs, hbw⟩ := hrel
      have HS := Lib.hid hs
      clear hs
      by_cases hjl : j < la.length
      · have t1 : decide ((j : Int) < la.length) = true := by simp; omega
        obtain ⟨ba, offa, rfl, hxlt, hxc⟩ := ha3.out (by omega)
        obtain ⟨bb, offb, rfl, hylt, hyc⟩ := hb3.out (by omega)
        obtain ⟨x, hx⟩ : ∃ x, la[j]? = some x := ⟨_, List.getElem?_eq_getElem hjl⟩
        obtain ⟨y, hy⟩ : ∃ y, lb[j]? = some y := ⟨_, List.getElem?_eq_getElem (show j < lb.length by omega)⟩
        have hdx : la.drop j = x :: la.drop (j + 1) := by rw [List.drop_eq_getElem_cons hjl]; rw [List.getElem?_eq_getElem hjl] at hx; rw [Option.some.inj hx]
        have hdy : lb.drop j = y :: lb.drop (j + 1) := by
          have hjb : j < lb.length := by omega
          rw [List.drop_eq_getElem_cons hjb]; rw [List.getElem?_eq_getElem hjb] at hy; rw [Option.some.inj hy]
        have HD := Lib.hid (show (g x y && eqL g (la.drop (j + 1)) (lb.drop (j + 1))) = R by rw [← HS.out, hdx, hdy, eqL])
        have hpx := hPb.out _ _ _ (ha4.out x (List.mem_of_getElem? hx)) hbw
        have hpy := hPb.out _ _ _ (hb4.out y (List.mem_of_getElem? hy)) hbw
        have hcall : ∀ W, Below wr.heap.size wr W → Calls Tryz.prog F #[tyV x, tyV y] W fun e w' => e = .returned (.bool (g x y)) ∧ Below W.heap.size W w' := fun W hW => hF.out x y W (hPb.out _ _ _ hpx hW) (hPb.out _ _ _ hpy hW)
        clear hpx hpy hdx hdy
        obtain ⟨bv, hbv⟩ : ∃ b, b = g x y := ⟨_, rfl⟩
        rw [← hbv] at hcall HD
        clear hbv
        obtain ⟨k1, nm1, h1, l1⟩ := x
        obtain ⟨k2, nm2, h2, l2⟩ := y
        simp only [tyV, tyC] at hcall
        replace hcall := Lib.hid hcall
        have gx0 : wr.cell? ⟨ba, offa + j * 3, none⟩ = some (.int .i64 k1) := (hbw.cell (p := ⟨ba, offa + j * 3, none⟩) hxlt).trans (by simpa using hxc j _ hx 0 _ rfl)
        have gx1 : wr.cell? ⟨ba, offa + j * 3 + 1, none⟩ = some (.string nm1) := (hbw.cell (p := ⟨ba, offa + j * 3 + 1, none⟩) hxlt).trans (by simpa using hxc j _ hx 1 _ rfl)
        have gx2 : wr.cell? ⟨ba, offa + j * 3 + 2, none⟩ = some (.slice h1.oa l1.length h1.cap) := (hbw.cell (p := ⟨ba, offa + j * 3 + 2, none⟩) hxlt).trans (by simpa using hxc j _ hx 2 _ rfl)
        have gy0 : ∀ o, (wr.alloc o).cell? ⟨bb, offb + j * 3, none⟩ = some (.int .i64 k2) := fun o => (((alloc_below wr o).cell (p := ⟨bb, offb + j * 3, none⟩) (Nat.lt_of_lt_of_le hylt hbw.size)).trans (hbw.cell (p := ⟨bb, offb + j * 3, none⟩) hylt)).trans (by simpa using hyc j _ hy 0 _ rfl)
        have gy1 : ∀ o, (wr.alloc o).cell? ⟨bb, offb + j * 3 + 1, none⟩ = some (.string nm2) := fun o => (((alloc_below wr o).cell (p := ⟨bb, offb + j * 3 + 1, none⟩) (Nat.lt_of_lt_of_le hylt hbw.size)).trans (hbw.cell (p := ⟨bb, offb + j * 3 + 1, none⟩) hylt)).trans (by simpa using hyc j _ hy 1 _ rfl)
        have gy2 : ∀ o, (wr.alloc o).cell? ⟨bb, offb + j * 3 + 2, none⟩ = some (.slice h2.oa l2.length h2.cap) := fun o => (((alloc_below wr o).cell (p := ⟨bb, offb + j * 3 + 2, none⟩) (Nat.lt_of_lt_of_le hylt hbw.size)).trans (hbw.cell (p := ⟨bb, offb + j * 3 + 2, none⟩) hylt)).trans (by simpa using hyc j _ hy 2 _ rfl)
        clear hx hy hxc hyc
        have hsz := hbw.size
        cases bv with
        | true =>
          go_wp2_with (go_at_fn F; refine (hcall.out _ (((Below.refl _ _).alloc (Nat.le_refl _) _).alloc (by simp) _)).mono ?_; rintro e w1 ⟨rfl, hb1⟩; have B1 : Below wr.heap.size wr w1 := (((Below.refl _ _).alloc (Nat.le_refl _) _).alloc (by simp) _).trans (hb1.mono (by simp; omega)); clear hb1; replace B1 := Lib.hid B1)
          go_roundw
          case rel => exact ⟨j + 1, by omega, by go_num, by simpa using HD.out, hbw.trans (B1.out.mono hbw.size)⟩
          case measure => simp [intOf]; omega
        | false =>
          go_wp2_with (go_at_fn F; refine (hcall.out _ (((Below.refl _ _).alloc (Nat.le_refl _) _).alloc (by simp) _)).mono ?_; rintro e w1 ⟨rfl, hb1⟩; have B1 : Below wr.heap.size wr w1 := (((Below.refl _ _).alloc (Nat.le_refl _) _).alloc (by simp) _).trans (hb1.mono (by simp; omega)); clear hb1; replace B1 := Lib.hid B1)
          go_ret
          exact ⟨by rw [← HD.out]; first | done | rfl, hbw.trans (B1.out.mono hbw.size)⟩
      · have t1 : decide ((j : Int) < la.length) = false := by simp; omega
        obtain rfl : j = la.length := by omega
        have HZ := Lib.hid (show true = R by rw [← HS.out, List.drop_length, List.drop_eq_nil_of_le hl2]; rfl)
        go_wp2
        go_ret
        exact ⟨by rw [← HZ.out]; first | done | rfl, hbw⟩
  · have t0 : ((la.length : Int) != (lb.length : Int)) = true := by simp; omega
    have HZ := Lib.hid (show false = R by rw [hR.out, eqL_len g hl])
    clear hl
    go_enter Tryz.func256, Tryz.ntmps256
    go_wp2_with fail
    go_ret
    exact ⟨by rw [← HZ.out]; first | done | rfl, Below.refl _ _⟩



set_option maxRecDepth 100000 in
set_option maxHeartbeats 4000000 in
theorem eqSu_any (F : Nat) (hE : ∀ args w, (callFunc F args).run Tryz.prog w = .ok (.enter F args) w) (g : Su5 → Su5 → Bool) (P : World → Su5 → Prop) (hPb : ∀ w w' x, P w x → Below w.heap.size w w' → P w' x)
    (hF : ∀ x y w, P w x → P w y → Calls Tryz.prog F #[suV x, suV y] w fun e w' => e = .returned (.bool (g x y)) ∧ Below w.heap.size w w')
    (ha hb : Hd) (la lb : List Su5) (w : World) (hA : Row w ha 4 la suC (P w)) (hB : Row w hb 4 lb suC (P w)) :
    Calls Tryz.prog 47 #[.slice ha.oa la.length ha.cap, .slice hb.oa lb.length hb.cap, .func (.func F) #[] #[]] w fun e w' => e = .returned (.bool (eqL g la lb)) ∧ Below w.heap.size w w' := by
  obtain ⟨oa, capa⟩ := ha
  obtain ⟨ob, capb⟩ := hb
  obtain ⟨ha1, ha2, ha3, ha4⟩ := hA
  obtain ⟨hb1, hb2, hb3, hb4⟩ := hB
  dsimp only at ha1 ha2 ha3 hb1 hb2 hb3 ⊢
  unfold maxLen at ha2 hb2
  replace ha3 := Lib.hid ha3
  replace ha4 := Lib.hid ha4
  replace hb3 := Lib.hid hb3
  replace hb4 := Lib.hid hb4
  replace hF := Lib.hid hF
  replace hPb := Lib.hid hPb
  obtain ⟨R, hR⟩ : ∃ R, R = eqL g la lb := ⟨_, rfl⟩
  rw [← hR]
  replace hR := Lib.hid hR
  by_cases hl : la.length = lb.length
  · have t0 : ((la.length : Int) != (lb.length : Int)) = false := by simp; omega
    have hll := Lib.hid hl
    have hl1 : la.length ≤ lb.length := by omega
    have hl2 : lb.length ≤ la.length := by omega
    clear hl
    go_enter Tryz.func47, Tryz.ntmps47
    go_wp2_with fail
    go_loopw [17] (fun u wr => ∃ j : Nat, j ≤ la.length ∧ u = .int .i64 j ∧ eqL g (la.drop j) (lb.drop j) = R ∧ Below w.heap.size w wr) (fun u _ => la.length - (intOf u).toNat)
    case atStart => exact ⟨0, by omega, rfl, by simpa using hR.out.symm, Below.refl _ _⟩
    case round =>
      obtain ⟨j, hj, rfl, hs, hbw⟩ := hrel
      have HS := Lib.hid hs
      clear hs
      by_cases hjl : j < la.length
      · have t1 : decide ((j : Int) < la.length) = true := by simp; omega
        obtain ⟨ba, offa, rfl, hxlt, hxc⟩ := ha3.out (by omega)
        obtain ⟨bb, offb, rfl, hylt, hyc⟩ := hb3.out (by omega)
        obtain ⟨x, hx⟩ : ∃ x, la[j]? = some x := ⟨_, List.getElem?_eq_getElem hjl⟩
        obtain ⟨y, hy⟩ : ∃ y, lb[j]? = some y := ⟨_, List.getElem?_eq_getElem (show j < lb.length by omega)⟩
        have hdx : la.drop j = x :: la.drop (j + 1) := by rw [List.drop_eq_getElem_cons hjl]; rw [List.getElem?_eq_getElem hjl] at hx; rw [Option.some.inj hx]
        have hdy : lb.drop j = y :: lb.drop (j + 1) := by
          have hjb : j < lb.length := by omega
          rw [List.drop_eq_getElem_cons hjb]; rw [List.getElem?_eq_getElem hjb] at hy; rw [Option.some.inj hy]
        have HD := Lib.hid (show (g x y && eqL g (la.drop (j + 1)) (lb.drop (j + 1))) = R by rw [← HS.out, hdx, hdy, eqL])
        have hpx := hPb.out _ _ _ (ha4.out x (List.mem_of_getElem? hx)) hbw
        have hpy := hPb.out _ _ _ (hb4.out y (List.mem_of_getElem? hy)) hbw
        have hcall : ∀ W, Below wr.heap.size wr W → Calls Tryz.prog F #[suV x, suV y] W fun e w' => e = .returned (.bool (g x y)) ∧ Below W.heap.size W w' := fun W hW => hF.out x y W (hPb.out _ _ _ hpx hW) (hPb.out _ _ _ hpy hW)
        clear hpx hpy hdx hdy
        obtain ⟨bv, hbv⟩ : ∃ b, b = g x y := ⟨_, rfl⟩
        rw [← hbv] at hcall HD
        clear hbv
        obtain ⟨un1, ud1, uh1, uf1, up1⟩ := x
        obtain ⟨un2, ud2, uh2, uf2, up2⟩ := y
        simp only [suV, suC] at hcall
        replace hcall := Lib.hid hcall
        have gx0 : wr.cell? ⟨ba, offa + j * 4, none⟩ = some (.string un1) := (hbw.cell (p := ⟨ba, offa + j * 4, none⟩) hxlt).trans (by simpa using hxc j _ hx 0 _ rfl)
        have gx1 : wr.cell? ⟨ba, offa + j * 4 + 1, none⟩ = some (.bool ud1) := (hbw.cell (p := ⟨ba, offa + j * 4 + 1, none⟩) hxlt).trans (by simpa using hxc j _ hx 1 _ rfl)
        have gx2 : wr.cell? ⟨ba, offa + j * 4 + 2, none⟩ = some (.slice uh1.oa uf1.length uh1.cap) := (hbw.cell (p := ⟨ba, offa + j * 4 + 2, none⟩) hxlt).trans (by simpa using hxc j _ hx 2 _ rfl)
        have gx3 : wr.cell? ⟨ba, offa + j * 4 + 3, none⟩ = some (.int .i64 up1) := (hbw.cell (p := ⟨ba, offa + j * 4 + 3, none⟩) hxlt).trans (by simpa using hxc j _ hx 3 _ rfl)
        have gy0 : ∀ o, (wr.alloc o).cell? ⟨bb, offb + j * 4, none⟩ = some (.string un2) := fun o => (((alloc_below wr o).cell (p := ⟨bb, offb + j * 4, none⟩) (Nat.lt_of_lt_of_le hylt hbw.size)).trans (hbw.cell (p := ⟨bb, offb + j * 4, none⟩) hylt)).trans (by simpa using hyc j _ hy 0 _ rfl)
        have gy1 : ∀ o, (wr.alloc o).cell? ⟨bb, offb + j * 4 + 1, none⟩ = some (.bool ud2) := fun o => (((alloc_below wr o).cell (p := ⟨bb, offb + j * 4 + 1, none⟩) (Nat.lt_of_lt_of_le hylt hbw.size)).trans (hbw.cell (p := ⟨bb, offb + j * 4 + 1, none⟩) hylt)).trans (by simpa using hyc j _ hy 1 _ rfl)
        have gy2 : ∀ o, (wr.alloc o).cell? ⟨bb, offb + j * 4 + 2, none⟩ = some (.slice uh2.oa uf2.length uh2.cap) := fun o => (((alloc_below wr o).cell (p := ⟨bb, offb + j * 4 + 2, none⟩) (Nat.lt_of_lt_of_le hylt hbw.size)).trans (hbw.cell (p := ⟨bb, offb + j * 4 + 2, none⟩) hylt)).trans (by simpa using hyc j _ hy 2 _ rfl)
        have gy3 : ∀ o, (wr.alloc o).cell? ⟨bb, offb + j * 4 + 3, none⟩ = some (.int .i64 up2) := fun o => (((alloc_below wr o).cell (p := ⟨bb, offb + j * 4 + 3, none⟩) (Nat.lt_of_lt_of_le hylt hbw.size)).trans (hbw.cell (p := ⟨bb, offb + j * 4 + 3, none⟩) hylt)).trans (by simpa using hyc j _ hy 3 _ rfl)
        clear hx hy hxc hyc
        have hsz := hbw.size
        cases bv with
        | true =>
          go_wp2_with (go_at_fn F; refine (hcall.out _ (((Below.refl _ _).alloc (Nat.le_refl _) _).alloc (by simp) _)).mono ?_; rintro e w1 ⟨rfl, hb1⟩; have B1 : Below wr.heap.size wr w1 := (((Below.refl _ _).alloc (Nat.le_refl _) _).alloc (by simp) _).trans (hb1.mono (by simp; omega)); clear hb1; replace B1 := Lib.hid B1)
          go_roundw
          case rel => exact ⟨j + 1, by omega, by go_num, by simpa using HD.out, hbw.trans (B1.out.mono hbw.size)⟩
          case measure => simp [intOf]; omega
        | false =>
          go_wp2_with (go_at_fn F; refine (hcall.out _ (((Below.refl _ _).alloc (Nat.le_refl _) _).alloc (by simp) _)).mono ?_; rintro e w1 ⟨rfl, hb1⟩; have B1 : Below wr.heap.size wr w1 := (((Below.refl _ _).alloc (Nat.le_refl _) _).alloc (by simp) _).trans (hb1.mono (by simp; omega)); clear hb1; replace B1 := Lib.hid B1)
          go_ret
          exact ⟨by rw [← HD.out]; first | done | rfl, hbw.trans (B1.out.mono hbw.size)⟩
      · have t1 : decide ((j : Int) < la.length) = false := by simp; omega
        obtain rfl : j = la.length := by omega
        have HZ := Lib.hid (show true = R by rw [← HS.out, List.drop_length, List.drop_eq_nil_of_le hl2]; rfl)
        go_wp2
        go_ret
        exact ⟨by rw [← HZ.out]; first | done | rfl, hbw⟩
  · have t0 : ((la.length : Int) != (lb.length : Int)) = true := by simp; omega
    have HZ := Lib.hid (show false = R by rw [hR.out, eqL_len g hl])
    clear hl
    go_enter Tryz.func47, Tryz.ntmps47
    go_wp2_with fail
    go_ret
    exact ⟨by rw [← HZ.out]; first | done | rfl, Below.refl _ _⟩



set_option maxRecDepth 100000 in
set_option maxHeartbeats 4000000 in
theorem eqEn_any (F : Nat) (hE : ∀ args w, (callFunc F args).run Tryz.prog w = .ok (.enter F args) w) (g : En5 → En5 → Bool) (P : World → En5 → Prop) (hPb : ∀ w w' x, P w x → Below w.heap.size w w' → P w' x)
    (hF : ∀ x y w, P w x → P w y → Calls Tryz.prog F #[enV x, enV y] w fun e w' => e = .returned (.bool (g x y)) ∧ Below w.heap.size w w')
    (ha hb : Hd) (la lb : List En5) (w : World) (hA : Row w ha 3 la enC (P w)) (hB : Row w hb 3 lb enC (P w)) :
    Calls Tryz.prog 49 #[.slice ha.oa la.length ha.cap, .slice hb.oa lb.length hb.cap, .func (.func F) #[] #[]] w fun e w' => e = .returned (.bool (eqL g la lb)) ∧ Below w.heap.size w w' := by
  obtain ⟨oa, capa⟩ := ha
  obtain ⟨ob, capb⟩ := hb
  obtain ⟨ha1, ha2, ha3, ha4⟩ := hA
  obtain ⟨hb1, hb2, hb3, hb4⟩ := hB
  dsimp only at ha1 ha2 ha3 hb1 hb2 hb3 ⊢
  unfold maxLen at ha2 hb2
  replace ha3 := Lib.hid ha3
  replace ha4 := Lib.hid ha4
  replace hb3 := Lib.hid hb3
  replace hb4 := Lib.hid hb4
  replace hF := Lib.hid hF
  replace hPb := Lib.hid hPb
  obtain ⟨R, hR⟩ : ∃ R, R = eqL g la lb := ⟨_, rfl⟩
  rw [← hR]
  replace hR := Lib.hid hR
  by_cases hl : la.length = lb.length
  · have t0 : ((la.length : Int) != (lb.length : Int)) = false := by simp; omega
    have hll := Lib.hid hl
    have hl1 : la.length ≤ lb.length := by omega
    have hl2 : lb.length ≤ la.length := by omega
    clear hl
    go_enter Tryz.func49, Tryz.ntmps49
    go_wp2_with fail
    go_loopw [17] (fun u wr => ∃ j : Nat, j ≤ la.length ∧ u = .int .i64 j ∧ eqL g (la.drop j) (lb.drop j) = R ∧ Below w.heap.size w wr) (fun u _ => la.length - (intOf u).toNat)
    case atStart => exact ⟨0, by omega, rfl, by simpa using hR.out.symm, Below.refl _ _⟩
    case round =>
      obtain ⟨j, hj, rfl, hs, hbw⟩ := hrel
      have HS := Lib.hid hs
      clear hs
      by_cases hjl : j < la.length
      · have t1 : decide ((j : Int) < la.length) = true := by simp; omega
        obtain ⟨ba, offa, rfl, hxlt, hxc⟩ := ha3.out (by omega)
        obtain ⟨bb, offb, rfl, hylt, hyc⟩ := hb3.out (by omega)
        obtain ⟨x, hx⟩ : ∃ x, la[j]? = some x := ⟨_, List.getElem?_eq_getElem hjl⟩
        obtain ⟨y, hy⟩ : ∃ y, lb[j]? = some y := ⟨_, List.getElem?_eq_getElem (show j < lb.length by omega)⟩
        have hdx : la.drop j = x :: la.drop (j + 1) := by rw [List.drop_eq_getElem_cons hjl]; rw [List.getElem?_eq_getElem hjl] at hx; rw [Option.some.inj hx]
        have hdy : lb.drop j = y :: lb.drop (j + 1) := by
          have hjb : j < lb.length := by omega
          rw [List.drop_eq_getElem_cons hjb]; rw [List.getElem?_eq_getElem hjb] at hy; rw [Option.some.inj hy]
        have HD := Lib.hid (show (g x y && eqL g (la.drop (j + 1)) (lb.drop (j + 1))) = R by rw [← HS.out, hdx, hdy, eqL])
        have hpx := hPb.out _ _ _ (ha4.out x (List.mem_of_getElem? hx)) hbw
        have hpy := hPb.out _ _ _ (hb4.out y (List.mem_of_getElem? hy)) hbw
        have hcall : ∀ W, Below wr.heap.size wr W → Calls Tryz.prog F #[enV x, enV y] W fun e w' => e = .returned (.bool (g x y)) ∧ Below W.heap.size W w' := fun W hW => hF.out x y W (hPb.out _ _ _ hpx hW) (hPb.out _ _ _ hpy hW)
        clear hpx hpy hdx hdy
        obtain ⟨bv, hbv⟩ : ∃ b, b = g x y := ⟨_, rfl⟩
        rw [← hbv] at hcall HD
        clear hbv
        obtain ⟨en1, eh1, ev1, ep1⟩ := x
        obtain ⟨en2, eh2, ev2, ep2⟩ := y
        simp only [enV, enC] at hcall
        replace hcall := Lib.hid hcall
        have gx0 : wr.cell? ⟨ba, offa + j * 3, none⟩ = some (.string en1) := (hbw.cell (p := ⟨ba, offa + j * 3, none⟩) hxlt).trans (by simpa using hxc j _ hx 0 _ rfl)
        have gx1 : wr.cell? ⟨ba, offa + j * 3 + 1, none⟩ = some (.slice eh1.oa ev1.length eh1.cap) := (hbw.cell (p := ⟨ba, offa + j * 3 + 1, none⟩) hxlt).trans (by simpa using hxc j _ hx 1 _ rfl)
        have gx2 : wr.cell? ⟨ba, offa + j * 3 + 2, none⟩ = some (.int .i64 ep1) := (hbw.cell (p := ⟨ba, offa + j * 3 + 2, none⟩) hxlt).trans (by simpa using hxc j _ hx 2 _ rfl)
        have gy0 : ∀ o, (wr.alloc o).cell? ⟨bb, offb + j * 3, none⟩ = some (.string en2) := fun o => (((alloc_below wr o).cell (p := ⟨bb, offb + j * 3, none⟩) (Nat.lt_of_lt_of_le hylt hbw.size)).trans (hbw.cell (p := ⟨bb, offb + j * 3, none⟩) hylt)).trans (by simpa using hyc j _ hy 0 _ rfl)
        have gy1 : ∀ o, (wr.alloc o).cell? ⟨bb, offb + j * 3 + 1, none⟩ = some (.slice eh2.oa ev2.length eh2.cap) := fun o => (((alloc_below wr o).cell (p := ⟨bb, offb + j * 3 + 1, none⟩) (Nat.lt_of_lt_of_le hylt hbw.size)).trans (hbw.cell (p := ⟨bb, offb + j * 3 + 1, none⟩) hylt)).trans (by simpa using hyc j _ hy 1 _ rfl)
        have gy2 : ∀ o, (wr.alloc o).cell? ⟨bb, offb + j * 3 + 2, none⟩ = some (.int .i64 ep2) := fun o => (((alloc_below wr o).cell (p := ⟨bb, offb + j * 3 + 2, none⟩) (Nat.lt_of_lt_of_le hylt hbw.size)).trans (hbw.cell (p := ⟨bb, offb + j * 3 + 2, none⟩) hylt)).trans (by simpa using hyc j _ hy 2 _ rfl)
        clear hx hy hxc hyc
        have hsz := hbw.size
        cases bv with
        | true =>
          go_wp2_with (go_at_fn F; refine (hcall.out _ (((Below.refl _ _).alloc (Nat.le_refl _) _).alloc (by simp) _)).mono ?_; rintro e w1 ⟨rfl, hb1⟩; have B1 : Below wr.heap.size wr w1 := (((Below.refl _ _).alloc (Nat.le_refl _) _).alloc (by simp) _).trans (hb1.mono (by simp; omega)); clear hb1; replace B1 := Lib.hid B1)
          go_roundw
          case rel => exact ⟨j + 1, by omega, by go_num, by simpa using HD.out, hbw.trans (B1.out.mono hbw.size)⟩
          case measure => simp [intOf]; omega
        | false =>
          go_wp2_with (go_at_fn F; refine (hcall.out _ (((Below.refl _ _).alloc (Nat.le_refl _) _).alloc (by simp) _)).mono ?_; rintro e w1 ⟨rfl, hb1⟩; have B1 : Below wr.heap.size wr w1 := (((Below.refl _ _).alloc (Nat.le_refl _) _).alloc (by simp) _).trans (hb1.mono (by simp; omega)); clear hb1; replace B1 := Lib.hid B1)
          go_ret
          exact ⟨by rw [← HD.out]; first | done | rfl, hbw.trans (B1.out.mono hbw.size)⟩
      · have t1 : decide ((j : Int) < la.length) = false := by simp; omega
        obtain rfl : j = la.length := by omega
        have HZ := Lib.hid (show true = R by rw [← HS.out, List.drop_length, List.drop_eq_nil_of_le hl2]; rfl)
        go_wp2
        go_ret
        exact ⟨by rw [← HZ.out]; first | done | rfl, hbw⟩
  · have t0 : ((la.length : Int) != (lb.length : Int)) = true := by simp; omega
    have HZ := Lib.hid (show false = R by rw [hR.out, eqL_len g hl])
    clear hl
    go_enter Tryz.func49, Tryz.ntmps49
    go_wp2_with fail
    go_ret
    exact ⟨by rw [← HZ.out]; first | done | rfl, Below.refl _ _⟩



set_option maxRecDepth 100000 in
set_option maxHeartbeats 4000000 in
theorem eqFn_any (F : Nat) (hE : ∀ args w, (callFunc F args).run Tryz.prog w = .ok (.enter F args) w) (g : Fn5 → Fn5 → Bool) (P : World → Fn5 → Prop) (hPb : ∀ w w' x, P w x → Below w.heap.size w w' → P w' x)
    (hF : ∀ x y w, P w x → P w y → Calls Tryz.prog F #[fnV x, fnV y] w fun e w' => e = .returned (.bool (g x y)) ∧ Below w.heap.size w w')
    (ha hb : Hd) (la lb : List Fn5) (w : World) (hA : Row w ha 4 la fnC (P w)) (hB : Row w hb 4 lb fnC (P w)) :
    Calls Tryz.prog 51 #[.slice ha.oa la.length ha.cap, .slice hb.oa lb.length hb.cap, .func (.func F) #[] #[]] w fun e w' => e = .returned (.bool (eqL g la lb)) ∧ Below w.heap.size w w' := by
  obtain ⟨oa, capa⟩ := ha
  obtain ⟨ob, capb⟩ := hb
  obtain ⟨ha1, ha2, ha3, ha4⟩ := hA
  obtain ⟨hb1, hb2, hb3, hb4⟩ := hB
  dsimp only at ha1 ha2 ha3 hb1 hb2 hb3 ⊢
  unfold maxLen at ha2 hb2
  replace ha3 := Lib.hid ha3
  replace ha4 := Lib.hid ha4
  replace hb3 := Lib.hid hb3
  replace hb4 := Lib.hid hb4
  replace hF := Lib.hid hF
  replace hPb := Lib.hid hPb
  obtain ⟨R, hR⟩ : ∃ R, R = eqL g la lb := ⟨_, rfl⟩
  rw [← hR]
  replace hR := Lib.hid hR
  by_cases hl : la.length = lb.length
  · have t0 : ((la.length : Int) != (lb.length : Int)) = false := by simp; omega
    have hll := Lib.hid hl
    have hl1 : la.length ≤ lb.length := by omega
    have hl2 : lb.length ≤ la.length := by omega
    clear hl
    go_enter Tryz.func51, Tryz.ntmps51
    go_wp2_with fail
    go_loopw [17] (fun u wr => ∃ j : Nat, j ≤ la.length ∧ u = .int .i64 j ∧ eqL g (la.drop j) (lb.drop j) = R ∧ Below w.heap.size w wr) (fun u _ => la.length - (intOf u).toNat)
    case atStart => exact ⟨0, by omega, rfl, by simpa using hR.out.symm, Below.refl _ _⟩
    case round =>
      obtain ⟨j, hj, rfl, hs, hbw⟩ := hrel
      have HS := Lib.hid hs
      clear hs
      by_cases hjl : j < la.length
      · have t1 : decide ((j : Int) < la.length) = true := by simp; omega
        obtain ⟨ba, offa, rfl, hxlt, hxc⟩ := ha3.out (by omega)
        obtain ⟨bb, offb, rfl, hylt, hyc⟩ := hb3.out (by omega)
        obtain ⟨x, hx⟩ : ∃ x, la[j]? = some x := ⟨_, List.getElem?_eq_getElem hjl⟩
        obtain ⟨y, hy⟩ : ∃ y, lb[j]? = some y := ⟨_, List.getElem?_eq_getElem (show j < lb.length by omega)⟩
        have hdx : la.drop j = x :: la.drop (j + 1) := by rw [List.drop_eq_getElem_cons hjl]; rw [List.getElem?_eq_getElem hjl] at hx; rw [Option.some.inj hx]
        have hdy : lb.drop j = y :: lb.drop (j + 1) := by
          have hjb : j < lb.length := by omega
          rw [List.drop_eq_getElem_cons hjb]; rw [List.getElem?_eq_getElem hjb] at hy; rw [Option.some.inj hy]
        have HD := Lib.hid (show (g x y && eqL g (la.drop (j + 1)) (lb.drop (j + 1))) = R by rw [← HS.out, hdx, hdy, eqL])
        have hpx := hPb.out _ _ _ (ha4.out x (List.mem_of_getElem? hx)) hbw
        have hpy := hPb.out _ _ _ (hb4.out y (List.mem_of_getElem? hy)) hbw
        have hcall : ∀ W, Below wr.heap.size wr W → Calls Tryz.prog F #[fnV x, fnV y] W fun e w' => e = .returned (.bool (g x y)) ∧ Below W.heap.size W w' := fun W hW => hF.out x y W (hPb.out _ _ _ hpx hW) (hPb.out _ _ _ hpy hW)
        clear hpx hpy hdx hdy
        obtain ⟨bv, hbv⟩ : ∃ b, b = g x y := ⟨_, rfl⟩
        rw [← hbv] at hcall HD
        clear hbv
        obtain ⟨gn1, gh1, gp1, gi1, gb1, gq1⟩ := x
        obtain ⟨gn2, gh2, gp2, gi2, gb2, gq2⟩ := y
        simp only [fnV, fnC] at hcall
        replace hcall := Lib.hid hcall
        have gx0 : wr.cell? ⟨ba, offa + j * 4, none⟩ = some (.string gn1) := (hbw.cell (p := ⟨ba, offa + j * 4, none⟩) hxlt).trans (by simpa using hxc j _ hx 0 _ rfl)
        have gx1 : wr.cell? ⟨ba, offa + j * 4 + 1, none⟩ = some (.slice gh1.oa gp1.length gh1.cap) := (hbw.cell (p := ⟨ba, offa + j * 4 + 1, none⟩) hxlt).trans (by simpa using hxc j _ hx 1 _ rfl)
        have gx2 : wr.cell? ⟨ba, offa + j * 4 + 2, none⟩ = some (.slice gi1.oa gb1.length gi1.cap) := (hbw.cell (p := ⟨ba, offa + j * 4 + 2, none⟩) hxlt).trans (by simpa using hxc j _ hx 2 _ rfl)
        have gx3 : wr.cell? ⟨ba, offa + j * 4 + 3, none⟩ = some (.int .i64 gq1) := (hbw.cell (p := ⟨ba, offa + j * 4 + 3, none⟩) hxlt).trans (by simpa using hxc j _ hx 3 _ rfl)
        have gy0 : ∀ o, (wr.alloc o).cell? ⟨bb, offb + j * 4, none⟩ = some (.string gn2) := fun o => (((alloc_below wr o).cell (p := ⟨bb, offb + j * 4, none⟩) (Nat.lt_of_lt_of_le hylt hbw.size)).trans (hbw.cell (p := ⟨bb, offb + j * 4, none⟩) hylt)).trans (by simpa using hyc j _ hy 0 _ rfl)
        have gy1 : ∀ o, (wr.alloc o).cell? ⟨bb, offb + j * 4 + 1, none⟩ = some (.slice gh2.oa gp2.length gh2.cap) := fun o => (((alloc_below wr o).cell (p := ⟨bb, offb + j * 4 + 1, none⟩) (Nat.lt_of_lt_of_le hylt hbw.size)).trans (hbw.cell (p := ⟨bb, offb + j * 4 + 1, none⟩) hylt)).trans (by simpa using hyc j _ hy 1 _ rfl)
        have gy2 : ∀ o, (wr.alloc o).cell? ⟨bb, offb + j * 4 + 2, none⟩ = some (.slice gi2.oa gb2.length gi2.cap) := fun o => (((alloc_below wr o).cell (p := ⟨bb, offb + j * 4 + 2, none⟩) (Nat.lt_of_lt_of_le hylt hbw.size)).trans (hbw.cell (p := ⟨bb, offb + j * 4 + 2, none⟩) hylt)).trans (by simpa using hyc j _ hy 2 _ rfl)
        have gy3 : ∀ o, (wr.alloc o).cell? ⟨bb, offb + j * 4 + 3, none⟩ = some (.int .i64 gq2) := fun o => (((alloc_below wr o).cell (p := ⟨bb, offb + j * 4 + 3, none⟩) (Nat.lt_of_lt_of_le hylt hbw.size)).trans (hbw.cell (p := ⟨bb, offb + j * 4 + 3, none⟩) hylt)).trans (by simpa using hyc j _ hy 3 _ rfl)
        clear hx hy hxc hyc
        have hsz := hbw.size
        cases bv with
        | true =>
          go_wp2_with (go_at_fn F; refine (hcall.out _ (((Below.refl _ _).alloc (Nat.le_refl _) _).alloc (by simp) _)).mono ?_; rintro e w1 ⟨rfl, hb1⟩; have B1 : Below wr.heap.size wr w1 := (((Below.refl _ _).alloc (Nat.le_refl _) _).alloc (by simp) _).trans (hb1.mono (by simp; omega)); clear hb1; replace B1 := Lib.hid B1)
          go_roundw
          case rel => exact ⟨j + 1, by omega, by go_num, by simpa using HD.out, hbw.trans (B1.out.mono hbw.size)⟩
          case measure => simp [intOf]; omega
        | false =>
          go_wp2_with (go_at_fn F; refine (hcall.out _ (((Below.refl _ _).alloc (Nat.le_refl _) _).alloc (by simp) _)).mono ?_; rintro e w1 ⟨rfl, hb1⟩; have B1 : Below wr.heap.size wr w1 := (((Below.refl _ _).alloc (Nat.le_refl _) _).alloc (by simp) _).trans (hb1.mono (by simp; omega)); clear hb1; replace B1 := Lib.hid B1)
          go_ret
          exact ⟨by rw [← HD.out]; first | done | rfl, hbw.trans (B1.out.mono hbw.size)⟩
      · have t1 : decide ((j : Int) < la.length) = false := by simp; omega
        obtain rfl : j = la.length := by omega
        have HZ := Lib.hid (show true = R by rw [← HS.out, List.drop_length, List.drop_eq_nil_of_le hl2]; rfl)
        go_wp2
        go_ret
        exact ⟨by rw [← HZ.out]; first | done | rfl, hbw⟩
  · have t0 : ((la.length : Int) != (lb.length : Int)) = true := by simp; omega
    have HZ := Lib.hid (show false = R by rw [hR.out, eqL_len g hl])
    clear hl
    go_enter Tryz.func51, Tryz.ntmps51
    go_wp2_with fail
    go_ret
    exact ⟨by rw [← HZ.out]; first | done | rfl, Below.refl _ _⟩



set_option maxRecDepth 100000 in
set_option maxHeartbeats 4000000 in
theorem eqFd_any (F : Nat) (hE : ∀ args w, (callFunc F args).run Tryz.prog w = .ok (.enter F args) w) (g : Fd5 → Fd5 → Bool) (P : World → Fd5 → Prop) (hPb : ∀ w w' x, P w x → Below w.heap.size w w' → P w' x)
    (hF : ∀ x y w, P w x → P w y → Calls Tryz.prog F #[fdV x, fdV y] w fun e w' => e = .returned (.bool (g x y)) ∧ Below w.heap.size w w')
    (ha hb : Hd) (la lb : List Fd5) (w : World) (hA : Row w ha 4 la fdC (P w)) (hB : Row w hb 4 lb fdC (P w)) :
    Calls Tryz.prog 115 #[.slice ha.oa la.length ha.cap, .slice hb.oa lb.length hb.cap, .func (.func F) #[] #[]] w fun e w' => e = .returned (.bool (eqL g la lb)) ∧ Below w.heap.size w w' := by
  obtain ⟨oa, capa⟩ := ha
  obtain ⟨ob, capb⟩ := hb
  obtain ⟨ha1, ha2, ha3, ha4⟩ := hA
  obtain ⟨hb1, hb2, hb3, hb4⟩ := hB
  dsimp only at ha1 ha2 ha3 hb1 hb2 hb3 ⊢
  unfold maxLen at ha2 hb2
  replace ha3 := Lib.hid ha3
  replace ha4 := Lib.hid ha4
  replace hb3 := Lib.hid hb3
  replace hb4 := Lib.hid hb4
  replace hF := Lib.hid hF
  replace hPb := Lib.hid hPb
  obtain ⟨R, hR⟩ : ∃ R, R = eqL g la lb := ⟨_, rfl⟩
  rw [← hR]
  replace hR := Lib.hid hR
  by_cases hl : la.length = lb.length
  · have t0 : ((la.length : Int) != (lb.length : Int)) = false := by simp; omega
    have hll := Lib.hid hl
    have hl1 : la.length ≤ lb.length := by omega
    have hl2 : lb.length ≤ la.length := by omega
    clear hl
    go_enter Tryz.func115, Tryz.ntmps115
    go_wp2_with fail
    go_loopw [17] (fun u wr => ∃ j : Nat, j ≤ la.length ∧ u = .int .i64 j ∧ eqL g (la.drop j) (lb.drop j) = R ∧ Below w.heap.size w wr) (fun u _ => la.length - (intOf u).toNat)
    case atStart => exact ⟨0, by omega, rfl, by simpa using hR.out.symm, Below.refl _ _⟩
    case round =>
      obtain ⟨j, hj, rfl, hs, hbw⟩ := hrel
      have HS := Lib.hid hs
      clear hs
      by_cases hjl : j < la.length
      · have t1 : decide ((j : Int) < la.length) = true := by simp; omega
        obtain ⟨ba, offa, rfl, hxlt, hxc⟩ := ha3.out (by omega)
        obtain ⟨bb, offb, rfl, hylt, hyc⟩ := hb3.out (by omega)
        obtain ⟨x, hx⟩ : ∃ x, la[j]? = some x := ⟨_, List.getElem?_eq_getElem hjl⟩
        obtain ⟨y, hy⟩ : ∃ y, lb[j]? = some y := ⟨_, List.getElem?_eq_getElem (show j < lb.length by omega)⟩
        have hdx : la.drop j = x :: la.drop (j + 1) := by rw [List.drop_eq_getElem_cons hjl]; rw [List.getElem?_eq_getElem hjl] at hx; rw [Option.some.inj hx]
        have hdy : lb.drop j = y :: lb.drop (j + 1) := by
          have hjb : j < lb.length := by omega
          rw [List.drop_eq_getElem_cons hjb]; rw [List.getElem?_eq_getElem hjb] at hy; rw [Option.some.inj hy]
        have HD := Lib.hid (show (g x y && eqL g (la.drop (j + 1)) (lb.drop (j + 1))) = R by rw [← HS.out, hdx, hdy, eqL])
        have hpx := hPb.out _ _ _ (ha4.out x (List.mem_of_getElem? hx)) hbw
        have hpy := hPb.out _ _ _ (hb4.out y (List.mem_of_getElem? hy)) hbw
        have hcall : ∀ W, Below wr.heap.size wr W → Calls Tryz.prog F #[fdV x, fdV y] W fun e w' => e = .returned (.bool (g x y)) ∧ Below W.heap.size W w' := fun W hW => hF.out x y W (hPb.out _ _ _ hpx hW) (hPb.out _ _ _ hpy hW)
        clear hpx hpy hdx hdy
        obtain ⟨bv, hbv⟩ : ∃ b, b = g x y := ⟨_, rfl⟩
        rw [← hbv] at hcall HD
        clear hbv
        obtain ⟨fn1, ⟨k1, nm1, h1, l1⟩⟩ := x
        obtain ⟨fn2, ⟨k2, nm2, h2, l2⟩⟩ := y
        simp only [fdV, fdC, tyC] at hcall
        replace hcall := Lib.hid hcall
        have gx0 : wr.cell? ⟨ba, offa + j * 4, none⟩ = some (.string fn1) := (hbw.cell (p := ⟨ba, offa + j * 4, none⟩) hxlt).trans (by simpa using hxc j _ hx 0 _ rfl)
        have gx1 : wr.cell? ⟨ba, offa + j * 4 + 1, none⟩ = some (.int .i64 k1) := (hbw.cell (p := ⟨ba, offa + j * 4 + 1, none⟩) hxlt).trans (by simpa using hxc j _ hx 1 _ rfl)
        have gx2 : wr.cell? ⟨ba, offa + j * 4 + 2, none⟩ = some (.string nm1) := (hbw.cell (p := ⟨ba, offa + j * 4 + 2, none⟩) hxlt).trans (by simpa using hxc j _ hx 2 _ rfl)
        have gx3 : wr.cell? ⟨ba, offa + j * 4 + 3, none⟩ = some (.slice h1.oa l1.length h1.cap) := (hbw.cell (p := ⟨ba, offa + j * 4 + 3, none⟩) hxlt).trans (by simpa using hxc j _ hx 3 _ rfl)
        have gy0 : ∀ o, (wr.alloc o).cell? ⟨bb, offb + j * 4, none⟩ = some (.string fn2) := fun o => (((alloc_below wr o).cell (p := ⟨bb, offb + j * 4, none⟩) (Nat.lt_of_lt_of_le hylt hbw.size)).trans (hbw.cell (p := ⟨bb, offb + j * 4, none⟩) hylt)).trans (by simpa using hyc j _ hy 0 _ rfl)
        have gy1 : ∀ o, (wr.alloc o).cell? ⟨bb, offb + j * 4 + 1, none⟩ = some (.int .i64 k2) := fun o => (((alloc_below wr o).cell (p := ⟨bb, offb + j * 4 + 1, none⟩) (Nat.lt_of_lt_of_le hylt hbw.size)).trans (hbw.cell (p := ⟨bb, offb + j * 4 + 1, none⟩) hylt)).trans (by simpa using hyc j _ hy 1 _ rfl)
        have gy2 : ∀ o, (wr.alloc o).cell? ⟨bb, offb + j * 4 + 2, none⟩ = some (.string nm2) := fun o => (((alloc_below wr o).cell (p := ⟨bb, offb + j * 4 + 2, none⟩) (Nat.lt_of_lt_of_le hylt hbw.size)).trans (hbw.cell (p := ⟨bb, offb + j * 4 + 2, none⟩) hylt)).trans (by simpa using hyc j _ hy 2 _ rfl)
        have gy3 : ∀ o, (wr.alloc o).cell? ⟨bb, offb + j * 4 + 3, none⟩ = some (.slice h2.oa l2.length h2.cap) := fun o => (((alloc_below wr o).cell (p := ⟨bb, offb + j * 4 + 3, none⟩) (Nat.lt_of_lt_of_le hylt hbw.size)).trans (hbw.cell (p := ⟨bb, offb + j * 4 + 3, none⟩) hylt)).trans (by simpa using hyc j _ hy 3 _ rfl)
        clear hx hy hxc hyc
        have hsz := hbw.size
        cases bv with
        | true =>
          go_wp2_with (go_at_fn F; refine (hcall.out _ (((Below.refl _ _).alloc (Nat.le_refl _) _).alloc (by simp) _)).mono ?_; rintro e w1 ⟨rfl, hb1⟩; have B1 : Below wr.heap.size wr w1 := (((Below.refl _ _).alloc (Nat.le_refl _) _).alloc (by simp) _).trans (hb1.mono (by simp; omega)); clear hb1; replace B1 := Lib.hid B1)
          go_roundw
          case rel => exact ⟨j + 1, by omega, by go_num, by simpa using HD.out, hbw.trans (B1.out.mono hbw.size)⟩
          case measure => simp [intOf]; omega
        | false =>
          go_wp2_with (go_at_fn F; refine (hcall.out _ (((Below.refl _ _).alloc (Nat.le_refl _) _).alloc (by simp) _)).mono ?_; rintro e w1 ⟨rfl, hb1⟩; have B1 : Below wr.heap.size wr w1 := (((Below.refl _ _).alloc (Nat.le_refl _) _).alloc (by simp) _).trans (hb1.mono (by simp; omega)); clear hb1; replace B1 := Lib.hid B1)
          go_ret
          exact ⟨by rw [← HD.out]; first | done | rfl, hbw.trans (B1.out.mono hbw.size)⟩
      · have t1 : decide ((j : Int) < la.length) = false := by simp; omega
        obtain rfl : j = la.length := by omega
        have HZ := Lib.hid (show true = R by rw [← HS.out, List.drop_length, List.drop_eq_nil_of_le hl2]; rfl)
        go_wp2
        go_ret
        exact ⟨by rw [← HZ.out]; first | done | rfl, hbw⟩
  · have t0 : ((la.length : Int) != (lb.length : Int)) = true := by simp; omega
    have HZ := Lib.hid (show false = R by rw [hR.out, eqL_len g hl])
    clear hl
    go_enter Tryz.func115, Tryz.ntmps115
    go_wp2_with fail
    go_ret
    exact ⟨by rw [← HZ.out]; first | done | rfl, Below.refl _ _⟩



set_option maxRecDepth 100000 in
set_option maxHeartbeats 4000000 in
theorem eqVa_any (F : Nat) (hE : ∀ args w, (callFunc F args).run Tryz.prog w = .ok (.enter F args) w) (g : Fd5 → Fd5 → Bool) (P : World → Fd5 → Prop) (hPb : ∀ w w' x, P w x → Below w.heap.size w w' → P w' x)
    (hF : ∀ x y w, P w x → P w y → Calls Tryz.prog F #[fdV x, fdV y] w fun e w' => e = .returned (.bool (g x y)) ∧ Below w.heap.size w w')
    (ha hb : Hd) (la lb : List Fd5) (w : World) (hA : Row w ha 4 la fdC (P w)) (hB : Row w hb 4 lb fdC (P w)) :
    Calls Tryz.prog 117 #[.slice ha.oa la.length ha.cap, .slice hb.oa lb.length hb.cap, .func (.func F) #[] #[]] w fun e w' => e = .returned (.bool (eqL g la lb)) ∧ Below w.heap.size w w' := by
  obtain ⟨oa, capa⟩ := ha
  obtain ⟨ob, capb⟩ := hb
  obtain ⟨ha1, ha2, ha3, ha4⟩ := hA
  obtain ⟨hb1, hb2, hb3, hb4⟩ := hB
  dsimp only at ha1 ha2 ha3 hb1 hb2 hb3 ⊢
  unfold maxLen at ha2 hb2
  replace ha3 := Lib.hid ha3
  replace ha4 := Lib.hid ha4
  replace hb3 := Lib.hid hb3
  replace hb4 := Lib.hid hb4
  replace hF := Lib.hid hF
  replace hPb := Lib.hid hPb
  obtain ⟨R, hR⟩ : ∃ R, R = eqL g la lb := ⟨_, rfl⟩
  rw [← hR]
  replace hR := Lib.hid hR
  by_cases hl : la.length = lb.length
  · have t0 : ((la.length : Int) != (lb.length : Int)) = false := by simp; omega
    have hll := Lib.hid hl
    have hl1 : la.length ≤ lb.length := by omega
    have hl2 : lb.length ≤ la.length := by omega
    clear hl
    go_enter Tryz.func117, Tryz.ntmps117
    go_wp2_with fail
    go_loopw [17] (fun u wr => ∃ j : Nat, j ≤ la.length ∧ u = .int .i64 j ∧ eqL g (la.drop j) (lb.drop j) = R ∧ Below w.heap.size w wr) (fun u _ => la.length - (intOf u).toNat)
    case atStart => exact ⟨0, by omega, rfl, by simpa using hR.out.symm, Below.refl _ _⟩
    case round =>
      obtain ⟨j, hj, rfl, hs, hbw⟩ := hrel
      have HS := Lib.hid hs
      clear hs
      by_cases hjl : j < la.length
      · have t1 : decide ((j : Int) < la.length) = true := by simp; omega
        obtain ⟨ba, offa, rfl, hxlt, hxc⟩ := ha3.out (by omega)
        obtain ⟨bb, offb, rfl, hylt, hyc⟩ := hb3.out (by omega)
        obtain ⟨x, hx⟩ : ∃ x, la[j]? = some x := ⟨_, List.getElem?_eq_getElem hjl⟩
        obtain ⟨y, hy⟩ : ∃ y, lb[j]? = some y := ⟨_, List.getElem?_eq_getElem (show j < lb.length by omega)⟩
        have hdx : la.drop j = x :: la.drop (j + 1) := by rw [List.drop_eq_getElem_cons hjl]; rw [List.getElem?_eq_getElem hjl] at hx; rw [Option.some.inj hx]
        have hdy : lb.drop j = y :: lb.drop (j + 1) := by
          have hjb : j < lb.length := by omega
          rw [List.drop_eq_getElem_cons hjb]; rw [List.getElem?_eq_getElem hjb] at hy; rw [Option.some.inj hy]
        have HD := Lib.hid (show (g x y && eqL g (la.drop (j + 1)) (lb.drop (j + 1))) = R by rw [← HS.out, hdx, hdy, eqL])
        have hpx := hPb.out _ _ _ (ha4.out x (List.mem_of_getElem? hx)) hbw
        have hpy := hPb.out _ _ _ (hb4.out y (List.mem_of_getElem? hy)) hbw
        have hcall : ∀ W, Below wr.heap.size wr W → Calls Tryz.prog F #[fdV x, fdV y] W fun e w' => e = .returned (.bool (g x y)) ∧ Below W.heap.size W w' := fun W hW => hF.out x y W (hPb.out _ _ _ hpx hW) (hPb.out _ _ _ hpy hW)
        clear hpx hpy hdx hdy
        obtain ⟨bv, hbv⟩ : ∃ b, b = g x y := ⟨_, rfl⟩
        rw [← hbv] at hcall HD
        clear hbv
        obtain ⟨fn1, ⟨k1, nm1, h1, l1⟩⟩ := x
        obtain ⟨fn2, ⟨k2, nm2, h2, l2⟩⟩ := y
        simp only [fdV, fdC, tyC] at hcall
        replace hcall := Lib.hid hcall
        have gx0 : wr.cell? ⟨ba, offa + j * 4, none⟩ = some (.string fn1) := (hbw.cell (p := ⟨ba, offa + j * 4, none⟩) hxlt).trans (by simpa using hxc j _ hx 0 _ rfl)
        have gx1 : wr.cell? ⟨ba, offa + j * 4 + 1, none⟩ = some (.int .i64 k1) := (hbw.cell (p := ⟨ba, offa + j * 4 + 1, none⟩) hxlt).trans (by simpa using hxc j _ hx 1 _ rfl)
        have gx2 : wr.cell? ⟨ba, offa + j * 4 + 2, none⟩ = some (.string nm1) := (hbw.cell (p := ⟨ba, offa + j * 4 + 2, none⟩) hxlt).trans (by simpa using hxc j _ hx 2 _ rfl)
        have gx3 : wr.cell? ⟨ba, offa + j * 4 + 3, none⟩ = some (.slice h1.oa l1.length h1.cap) := (hbw.cell (p := ⟨ba, offa + j * 4 + 3, none⟩) hxlt).trans (by simpa using hxc j _ hx 3 _ rfl)
        have gy0 : ∀ o, (wr.alloc o).cell? ⟨bb, offb + j * 4, none⟩ = some (.string fn2) := fun o => (((alloc_below wr o).cell (p := ⟨bb, offb + j * 4, none⟩) (Nat.lt_of_lt_of_le hylt hbw.size)).trans (hbw.cell (p := ⟨bb, offb + j * 4, none⟩) hylt)).trans (by simpa using hyc j _ hy 0 _ rfl)
        have gy1 : ∀ o, (wr.alloc o).cell? ⟨bb, offb + j * 4 + 1, none⟩ = some (.int .i64 k2) := fun o => (((alloc_below wr o).cell (p := ⟨bb, offb + j * 4 + 1, none⟩) (Nat.lt_of_lt_of_le hylt hbw.size)).trans (hbw.cell (p := ⟨bb, offb + j * 4 + 1, none⟩) hylt)).trans (by simpa using hyc j _ hy 1 _ rfl)
        have gy2 : ∀ o, (wr.alloc o).cell? ⟨bb, offb + j * 4 + 2, none⟩ = some (.string nm2) := fun o => (((alloc_below wr o).cell (p := ⟨bb, offb + j * 4 + 2, none⟩) (Nat.lt_of_lt_of_le hylt hbw.size)).trans (hbw.cell (p := ⟨bb, offb + j * 4 + 2, none⟩) hylt)).trans (by simpa using hyc j _ hy 2 _ rfl)
        have gy3 : ∀ o, (wr.alloc o).cell? ⟨bb, offb + j * 4 + 3, none⟩ = some (.slice h2.oa l2.length h2.cap) := fun o => (((alloc_below wr o).cell (p := ⟨bb, offb + j * 4 + 3, none⟩) (Nat.lt_of_lt_of_le hylt hbw.size)).trans (hbw.cell (p := ⟨bb, offb + j * 4 + 3, none⟩) hylt)).trans (by simpa using hyc j _ hy 3 _ rfl)
        clear hx hy hxc hyc
        have hsz := hbw.size
        cases bv with
        | true =>
          go_wp2_with (go_at_fn F; refine (hcall.out _ (((Below.refl _ _).alloc (Nat.le_refl _) _).alloc (by simp) _)).mono ?_; rintro e w1 ⟨rfl, hb1⟩; have B1 : Below wr.heap.size wr w1 := (((Below.refl _ _).alloc (Nat.le_refl _) _).alloc (by simp) _).trans (hb1.mono (by simp; omega)); clear hb1; replace B1 := Lib.hid B1)
          go_roundw
          case rel => exact ⟨j + 1, by omega, by go_num, by simpa using HD.out, hbw.trans (B1.out.mono hbw.size)⟩
          case measure => simp [intOf]; omega
        | false =>
          go_wp2_with (go_at_fn F; refine (hcall.out _ (((Below.refl _ _).alloc (Nat.le_refl _) _).alloc (by simp) _)).mono ?_; rintro e w1 ⟨rfl, hb1⟩; have B1 : Below wr.heap.size wr w1 := (((Below.refl _ _).alloc (Nat.le_refl _) _).alloc (by simp) _).trans (hb1.mono (by simp; omega)); clear hb1; replace B1 := Lib.hid B1)
          go_ret
          exact ⟨by rw [← HD.out]; first | done | rfl, hbw.trans (B1.out.mono hbw.size)⟩
      · have t1 : decide ((j : Int) < la.length) = false := by simp; omega
        obtain rfl : j = la.length := by omega
        have HZ := Lib.hid (show true = R by rw [← HS.out, List.drop_length, List.drop_eq_nil_of_le hl2]; rfl)
        go_wp2
        go_ret
        exact ⟨by rw [← HZ.out]; first | done | rfl, hbw⟩
  · have t0 : ((la.length : Int) != (lb.length : Int)) = true := by simp; omega
    have HZ := Lib.hid (show false = R by rw [hR.out, eqL_len g hl])
    clear hl
    go_enter Tryz.func117, Tryz.ntmps117
    go_wp2_with fail
    go_ret
    exact ⟨by rw [← HZ.out]; first | done | rfl, Below.refl _ _⟩



set_option maxRecDepth 100000 in
set_option maxHeartbeats 4000000 in
theorem eqAr_any (F : Nat) (hE : ∀ args w, (callFunc F args).run Tryz.prog w = .ok (.enter F args) w) (g : Ar5 → Ar5 → Bool) (P : World → Ar5 → Prop) (hPb : ∀ w w' x, P w x → Below w.heap.size w w' → P w' x)
    (hF : ∀ x y w, P w x → P w y → Calls Tryz.prog F #[arV x, arV y] w fun e w' => e = .returned (.bool (g x y)) ∧ Below w.heap.size w w')
    (ha hb : Hd) (la lb : List Ar5) (w : World) (hA : Row w ha 3 la arC (P w)) (hB : Row w hb 3 lb arC (P w)) :
    Calls Tryz.prog 260 #[.slice ha.oa la.length ha.cap, .slice hb.oa lb.length hb.cap, .func (.func F) #[] #[]] w fun e w' => e = .returned (.bool (eqL g la lb)) ∧ Below w.heap.size w w' := by
  obtain ⟨oa, capa⟩ := ha
  obtain ⟨ob, capb⟩ := hb
  obtain ⟨ha1, ha2, ha3, ha4⟩ := hA
  obtain ⟨hb1, hb2, hb3, hb4⟩ := hB
  dsimp only at ha1 ha2 ha3 hb1 hb2 hb3 ⊢
  unfold maxLen at ha2 hb2
  replace ha3 := Lib.hid ha3
  replace ha4 := Lib.hid ha4
  replace hb3 := Lib.hid hb3
  replace hb4 := Lib.hid hb4
  replace hF := Lib.hid hF
  replace hPb := Lib.hid hPb
  obtain ⟨R, hR⟩ : ∃ R, R = eqL g la lb := ⟨_, rfl⟩
  rw [← hR]
  replace hR := Lib.hid hR
  by_cases hl : la.length = lb.length
  · have t0 : ((la.length : Int) != (lb.length : Int)) = false := by simp; omega
    have hll := Lib.hid hl
    have hl1 : la.length ≤ lb.length := by omega
    have hl2 : lb.length ≤ la.length := by omega
    clear hl
    go_enter Tryz.func260, Tryz.ntmps260
    go_wp2_with fail
    go_loopw [17] (fun u wr => ∃ j : Nat, j ≤ la.length ∧ u = .int .i64 j ∧ eqL g (la.drop j) (lb.drop j) = R ∧ Below w.heap.size w wr) (fun u _ => la.length - (intOf u).toNat)
    case atStart => exact ⟨0, by omega, rfl, by simpa using hR.out.symm, Below.refl _ _⟩
    case round =>
      obtain ⟨j, hj, rfl, hs, hbw⟩ := hrel
      have HS := Lib.hid hs
      clear hs
      by_cases hjl : j < la.length
      · have t1 : decide ((j : Int) < la.length) = true := by simp; omega
        obtain ⟨ba, offa, rfl, hxlt, hxc⟩ := ha3.out (by omega)
        obtain ⟨bb, offb, rfl, hylt, hyc⟩ := hb3.out (by omega)
        obtain ⟨x, hx⟩ : ∃ x, la[j]? = some x := ⟨_, List.getElem?_eq_getElem hjl⟩
        obtain ⟨y, hy⟩ : ∃ y, lb[j]? = some y := ⟨_, List.getElem?_eq_getElem (show j < lb.length by omega)⟩
        have hdx : la.drop j = x :: la.drop (j + 1) := by rw [List.drop_eq_getElem_cons hjl]; rw [List.getElem?_eq_getElem hjl] at hx; rw [Option.some.inj hx]
        have hdy : lb.drop j = y :: lb.drop (j + 1) := by
          have hjb : j < lb.length := by omega
          rw [List.drop_eq_getElem_cons hjb]; rw [List.getElem?_eq_getElem hjb] at hy; rw [Option.some.inj hy]
        have HD := Lib.hid (show (g x y && eqL g (la.drop (j + 1)) (lb.drop (j + 1))) = R by rw [← HS.out, hdx, hdy, eqL])
        have hpx := hPb.out _ _ _ (ha4.out x (List.mem_of_getElem? hx)) hbw
        have hpy := hPb.out _ _ _ (hb4.out y (List.mem_of_getElem? hy)) hbw
        have hcall : ∀ W, Below wr.heap.size wr W → Calls Tryz.prog F #[arV x, arV y] W fun e w' => e = .returned (.bool (g x y)) ∧ Below W.heap.size W w' := fun W hW => hF.out x y W (hPb.out _ _ _ hpx hW) (hPb.out _ _ _ hpy hW)
        clear hpx hpy hdx hdy
        obtain ⟨bv, hbv⟩ : ∃ b, b = g x y := ⟨_, rfl⟩
        rw [← hbv] at hcall HD
        clear hbv
        obtain ⟨av1, ab1, ah1, ay1⟩ := x
        obtain ⟨av2, ab2, ah2, ay2⟩ := y
        simp only [arV, arC] at hcall
        replace hcall := Lib.hid hcall
        have gx0 : wr.cell? ⟨ba, offa + j * 3, none⟩ = some (.string av1) := (hbw.cell (p := ⟨ba, offa + j * 3, none⟩) hxlt).trans (by simpa using hxc j _ hx 0 _ rfl)
        have gx1 : wr.cell? ⟨ba, offa + j * 3 + 1, none⟩ = some (.string ab1) := (hbw.cell (p := ⟨ba, offa + j * 3 + 1, none⟩) hxlt).trans (by simpa using hxc j _ hx 1 _ rfl)
        have gx2 : wr.cell? ⟨ba, offa + j * 3 + 2, none⟩ = some (.slice ah1.oa ay1.length ah1.cap) := (hbw.cell (p := ⟨ba, offa + j * 3 + 2, none⟩) hxlt).trans (by simpa using hxc j _ hx 2 _ rfl)
        have gy0 : ∀ o, (wr.alloc o).cell? ⟨bb, offb + j * 3, none⟩ = some (.string av2) := fun o => (((alloc_below wr o).cell (p := ⟨bb, offb + j * 3, none⟩) (Nat.lt_of_lt_of_le hylt hbw.size)).trans (hbw.cell (p := ⟨bb, offb + j * 3, none⟩) hylt)).trans (by simpa using hyc j _ hy 0 _ rfl)
        have gy1 : ∀ o, (wr.alloc o).cell? ⟨bb, offb + j * 3 + 1, none⟩ = some (.string ab2) := fun o => (((alloc_below wr o).cell (p := ⟨bb, offb + j * 3 + 1, none⟩) (Nat.lt_of_lt_of_le hylt hbw.size)).trans (hbw.cell (p := ⟨bb, offb + j * 3 + 1, none⟩) hylt)).trans (by simpa using hyc j _ hy 1 _ rfl)
        have gy2 : ∀ o, (wr.alloc o).cell? ⟨bb, offb + j * 3 + 2, none⟩ = some (.slice ah2.oa ay2.length ah2.cap) := fun o => (((alloc_below wr o).cell (p := ⟨bb, offb + j * 3 + 2, none⟩) (Nat.lt_of_lt_of_le hylt hbw.size)).trans (hbw.cell (p := ⟨bb, offb + j * 3 + 2, none⟩) hylt)).trans (by simpa using hyc j _ hy 2 _ rfl)
        clear hx hy hxc hyc
        have hsz := hbw.size
        cases bv with
        | true =>
          go_wp2_with (go_at_fn F; refine (hcall.out _ (((Below.refl _ _).alloc (Nat.le_refl _) _).alloc (by simp) _)).mono ?_; rintro e w1 ⟨rfl, hb1⟩; have B1 : Below wr.heap.size wr w1 := (((Below.refl _ _).alloc (Nat.le_refl _) _).alloc (by simp) _).trans (hb1.mono (by simp; omega)); clear hb1; replace B1 := Lib.hid B1)
          go_roundw
          case rel => exact ⟨j + 1, by omega, by go_num, by simpa using HD.out, hbw.trans (B1.out.mono hbw.size)⟩
          case measure => simp [intOf]; omega
        | false =>
          go_wp2_with (go_at_fn F; refine (hcall.out _ (((Below.refl _ _).alloc (Nat.le_refl _) _).alloc (by simp) _)).mono ?_; rintro e w1 ⟨rfl, hb1⟩; have B1 : Below wr.heap.size wr w1 := (((Below.refl _ _).alloc (Nat.le_refl _) _).alloc (by simp) _).trans (hb1.mono (by simp; omega)); clear hb1; replace B1 := Lib.hid B1)
          go_ret
          exact ⟨by rw [← HD.out]; first | done | rfl, hbw.trans (B1.out.mono hbw.size)⟩
      · have t1 : decide ((j : Int) < la.length) = false := by simp; omega
        obtain rfl : j = la.length := by omega
        have HZ := Lib.hid (show true = R by rw [← HS.out, List.drop_length, List.drop_eq_nil_of_le hl2]; rfl)
        go_wp2
        go_ret
        exact ⟨by rw [← HZ.out]; first | done | rfl, hbw⟩
  · have t0 : ((la.length : Int) != (lb.length : Int)) = true := by simp; omega
    have HZ := Lib.hid (show false = R by rw [hR.out, eqL_len g hl])
    clear hl
    go_enter Tryz.func260, Tryz.ntmps260
    go_wp2_with fail
    go_ret
    exact ⟨by rw [← HZ.out]; first | done | rfl, Below.refl _ _⟩



set_option maxRecDepth 100000 in
set_option maxHeartbeats 4000000 in
theorem eqOp_any (F : Nat) (hE : ∀ args w, (callFunc F args).run Tryz.prog w = .ok (.enter F args) w) (g : Op5 → Op5 → Bool) (P : World → Op5 → Prop) (hPb : ∀ w w' x, P w x → Below w.heap.size w w' → P w' x)
    (hF : ∀ x y w, P w x → P w y → Calls Tryz.prog F #[opV x, opV y] w fun e w' => e = .returned (.bool (g x y)) ∧ Below w.heap.size w w')
    (ha hb : Hd) (la lb : List Op5) (w : World) (hA : Row w ha 4 la opC (P w)) (hB : Row w hb 4 lb opC (P w)) :
    Calls Tryz.prog 302 #[.slice ha.oa la.length ha.cap, .slice hb.oa lb.length hb.cap, .func (.func F) #[] #[]] w fun e w' => e = .returned (.bool (eqL g la lb)) ∧ Below w.heap.size w w' := by
  obtain ⟨oa, capa⟩ := ha
  obtain ⟨ob, capb⟩ := hb
  obtain ⟨ha1, ha2, ha3, ha4⟩ := hA
  obtain ⟨hb1, hb2, hb3, hb4⟩ := hB
  dsimp only at ha1 ha2 ha3 hb1 hb2 hb3 ⊢
  unfold maxLen at ha2 hb2
  replace ha3 := Lib.hid ha3
  replace ha4 := Lib.hid ha4
  replace hb3 := Lib.hid hb3
  replace hb4 := Lib.hid hb4
  replace hF := Lib.hid hF
  replace hPb := Lib.hid hPb
  obtain ⟨R, hR⟩ : ∃ R, R = eqL g la lb := ⟨_, rfl⟩
  rw [← hR]
  replace hR := Lib.hid hR
  by_cases hl : la.length = lb.length
  · have t0 : ((la.length : Int) != (lb.length : Int)) = false := by simp; omega
    have hll := Lib.hid hl
    have hl1 : la.length ≤ lb.length := by omega
    have hl2 : lb.length ≤ la.length := by omega
    clear hl
    go_enter Tryz.func302, Tryz.ntmps302
    go_wp2_with fail
    go_loopw [17] (fun u wr => ∃ j : Nat, j ≤ la.length ∧ u = .int .i64 j ∧ eqL g (la.drop j) (lb.drop j) = R ∧ Below w.heap.size w wr) (fun u _ => la.length - (intOf u).toNat)
    case atStart => exact ⟨0, by omega, rfl, by simpa using hR.out.symm, Below.refl _ _⟩
    case round =>
      obtain ⟨j, hj, rfl, hs, hbw⟩ := hrel
      have HS := Lib.hid hs
      clear hs
      by_cases hjl : j < la.length
      · have t1 : decide ((j : Int) < la.length) = true := by simp; omega
        obtain ⟨ba, offa, rfl, hxlt, hxc⟩ := ha3.out (by omega)
        obtain ⟨bb, offb, rfl, hylt, hyc⟩ := hb3.out (by omega)
        obtain ⟨x, hx⟩ : ∃ x, la[j]? = some x := ⟨_, List.getElem?_eq_getElem hjl⟩
        obtain ⟨y, hy⟩ : ∃ y, lb[j]? = some y := ⟨_, List.getElem?_eq_getElem (show j < lb.length by omega)⟩
        have hdx : la.drop j = x :: la.drop (j + 1) := by rw [List.drop_eq_getElem_cons hjl]; rw [List.getElem?_eq_getElem hjl] at hx; rw [Option.some.inj hx]
        have hdy : lb.drop j = y :: lb.drop (j + 1) := by
          have hjb : j < lb.length := by omega
          rw [List.drop_eq_getElem_cons hjb]; rw [List.getElem?_eq_getElem hjb] at hy; rw [Option.some.inj hy]
        have HD := Lib.hid (show (g x y && eqL g (la.drop (j + 1)) (lb.drop (j + 1))) = R by rw [← HS.out, hdx, hdy, eqL])
        have hpx := hPb.out _ _ _ (ha4.out x (List.mem_of_getElem? hx)) hbw
        have hpy := hPb.out _ _ _ (hb4.out y (List.mem_of_getElem? hy)) hbw
        have hcall : ∀ W, Below wr.heap.size wr W → Calls Tryz.prog F #[opV x, opV y] W fun e w' => e = .returned (.bool (g x y)) ∧ Below W.heap.size W w' := fun W hW => hF.out x y W (hPb.out _ _ _ hpx hW) (hPb.out _ _ _ hpy hW)
        clear hpx hpy hdx hdy
        obtain ⟨bv, hbv⟩ : ∃ b, b = g x y := ⟨_, rfl⟩
        rw [← hbv] at hcall HD
        clear hbv
        obtain ⟨on1, oi1, ⟨pn1, ph1, pp1⟩⟩ := x
        obtain ⟨on2, oi2, ⟨pn2, ph2, pp2⟩⟩ := y
        simp only [opV, opC, plC, List.cons_append, List.nil_append] at hcall
        replace hcall := Lib.hid hcall
        have gx0 : wr.cell? ⟨ba, offa + j * 4, none⟩ = some (.bool on1) := (hbw.cell (p := ⟨ba, offa + j * 4, none⟩) hxlt).trans (by simpa using hxc j _ hx 0 _ rfl)
        have gx1 : wr.cell? ⟨ba, offa + j * 4 + 1, none⟩ = some (.int .i64 oi1) := (hbw.cell (p := ⟨ba, offa + j * 4 + 1, none⟩) hxlt).trans (by simpa using hxc j _ hx 1 _ rfl)
        have gx2 : wr.cell? ⟨ba, offa + j * 4 + 2, none⟩ = some (.string pn1) := (hbw.cell (p := ⟨ba, offa + j * 4 + 2, none⟩) hxlt).trans (by simpa using hxc j _ hx 2 _ rfl)
        have gx3 : wr.cell? ⟨ba, offa + j * 4 + 3, none⟩ = some (.slice ph1.oa pp1.length ph1.cap) := (hbw.cell (p := ⟨ba, offa + j * 4 + 3, none⟩) hxlt).trans (by simpa using hxc j _ hx 3 _ rfl)
        have gy0 : ∀ o, (wr.alloc o).cell? ⟨bb, offb + j * 4, none⟩ = some (.bool on2) := fun o => (((alloc_below wr o).cell (p := ⟨bb, offb + j * 4, none⟩) (Nat.lt_of_lt_of_le hylt hbw.size)).trans (hbw.cell (p := ⟨bb, offb + j * 4, none⟩) hylt)).trans (by simpa using hyc j _ hy 0 _ rfl)
        have gy1 : ∀ o, (wr.alloc o).cell? ⟨bb, offb + j * 4 + 1, none⟩ = some (.int .i64 oi2) := fun o => (((alloc_below wr o).cell (p := ⟨bb, offb + j * 4 + 1, none⟩) (Nat.lt_of_lt_of_le hylt hbw.size)).trans (hbw.cell (p := ⟨bb, offb + j * 4 + 1, none⟩) hylt)).trans (by simpa using hyc j _ hy 1 _ rfl)
        have gy2 : ∀ o, (wr.alloc o).cell? ⟨bb, offb + j * 4 + 2, none⟩ = some (.string pn2) := fun o => (((alloc_below wr o).cell (p := ⟨bb, offb + j * 4 + 2, none⟩) (Nat.lt_of_lt_of_le hylt hbw.size)).trans (hbw.cell (p := ⟨bb, offb + j * 4 + 2, none⟩) hylt)).trans (by simpa using hyc j _ hy 2 _ rfl)
        have gy3 : ∀ o, (wr.alloc o).cell? ⟨bb, offb + j * 4 + 3, none⟩ = some (.slice ph2.oa pp2.length ph2.cap) := fun o => (((alloc_below wr o).cell (p := ⟨bb, offb + j * 4 + 3, none⟩) (Nat.lt_of_lt_of_le hylt hbw.size)).trans (hbw.cell (p := ⟨bb, offb + j * 4 + 3, none⟩) hylt)).trans (by simpa using hyc j _ hy 3 _ rfl)
        clear hx hy hxc hyc
        have hsz := hbw.size
        cases bv with
        | true =>
          go_wp2_with (go_at_fn F; refine (hcall.out _ (((Below.refl _ _).alloc (Nat.le_refl _) _).alloc (by simp) _)).mono ?_; rintro e w1 ⟨rfl, hb1⟩; have B1 : Below wr.heap.size wr w1 := (((Below.refl _ _).alloc (Nat.le_refl _) _).alloc (by simp) _).trans (hb1.mono (by simp; omega)); clear hb1; replace B1 := Lib.hid B1)
          go_roundw
          case rel => exact ⟨j + 1, by omega, by go_num, by simpa using HD.out, hbw.trans (B1.out.mono hbw.size)⟩
          case measure => simp [intOf]; omega
        | false =>
          go_wp2_with (go_at_fn F; refine (hcall.out _ (((Below.refl _ _).alloc (Nat.le_refl _) _).alloc (by simp) _)).mono ?_; rintro e w1 ⟨rfl, hb1⟩; have B1 : Below wr.heap.size wr w1 := (((Below.refl _ _).alloc (Nat.le_refl _) _).alloc (by simp) _).trans (hb1.mono (by simp; omega)); clear hb1; replace B1 := Lib.hid B1)
          go_ret
          exact ⟨by rw [← HD.out]; first | done | rfl, hbw.trans (B1.out.mono hbw.size)⟩
      · have t1 : decide ((j : Int) < la.length) = false := by simp; omega
        obtain rfl : j = la.length := by omega
        have HZ := Lib.hid (show true = R by rw [← HS.out, List.drop_length, List.drop_eq_nil_of_le hl2]; rfl)
        go_wp2
        go_ret
        exact ⟨by rw [← HZ.out]; first | done | rfl, hbw⟩
  · have t0 : ((la.length : Int) != (lb.length : Int)) = true := by simp; omega
    have HZ := Lib.hid (show false = R by rw [hR.out, eqL_len g hl])
    clear hl
    go_enter Tryz.func302, Tryz.ntmps302
    go_wp2_with fail
    go_ret
    exact ⟨by rw [← HZ.out]; first | done | rfl, Below.refl _ _⟩

end Go.Proofs.YtggdpgaedmegbaaGreatDoor
