/-
  all of tree at each of its types. Conditions: the slice lies in the heap; the function that is handed over keeps its contract.
-/
import Derived.Test.YtgogdcpgfmndnaaGreatDoorTBox
namespace Go.Proofs.YtgogdcpgfmndnaaGreatDoor
open Go.RowKit


set_option maxRecDepth 100000 in
set_option maxHeartbeats 4000000 in
theorem allSu_any (F : Nat) (hE : ∀ args w, (callFunc F args).run Tryz.prog w = .ok (.enter F args) w) (g : Su5 → Bool) (P : World → Su5 → Prop) (hPb : ∀ w w' x, P w x → Below w.heap.size w w' → P w' x)
    (w : World) (hF : ∀ x W, P W x → Below w.heap.size w W → Calls Tryz.prog F #[suV x] W fun e w' => e = .returned (.bool (g x)) ∧ Below W.heap.size W w')
    (ha : Hd) (la : List Su5) (hA : Row w ha 4 la suC (P w)) :
    Calls Tryz.prog 40 #[.slice ha.oa la.length ha.cap, .func (.func F) #[] #[]] w fun e w' => e = .returned (.bool (la.all g)) ∧ Below w.heap.size w w' := by
  obtain ⟨oa, capa⟩ := ha
  obtain ⟨ha1, ha2, ha3, ha4⟩ := hA
  dsimp only at ha1 ha2 ha3 ⊢
  unfold maxLen at ha2
  replace ha3 := Lib.hid ha3
  replace ha4 := Lib.hid ha4
  replace hF := Lib.hid hF
  replace hPb := Lib.hid hPb
  obtain ⟨R, hR⟩ : ∃ R, R = la.all g := ⟨_, rfl⟩
  rw [← hR]
  replace hR := Lib.hid hR
  go_enter Tryz.func40, Tryz.ntmps40
  go_wp2_with fail
  go_loopw [9] (fun u wr => ∃ j : Nat, j ≤ la.length ∧ u = .int .i64 j ∧ (la.drop j).all g = R ∧ Below w.heap.size w wr) (fun u _ => la.length - (intOf u).toNat)
  case atStart => exact ⟨0, by omega, rfl, by simpa using hR.out.symm, Below.refl _ _⟩
  case round =>
    obtain ⟨j, hj, rfl, hs, hbw⟩ := hrel
    have HS := Lib.hid hs
    clear hs
    by_cases hjl : j < la.length
    · have t1 : decide ((j : Int) < la.length) = true := by simp; omega
      obtain ⟨ba, offa, rfl, hxlt, hxc⟩ := ha3.out (by omega)
      obtain ⟨x, hx⟩ : ∃ x, la[j]? = some x := ⟨_, List.getElem?_eq_getElem hjl⟩
      have hdx : la.drop j = x :: la.drop (j + 1) := by rw [List.drop_eq_getElem_cons hjl]; rw [List.getElem?_eq_getElem hjl] at hx; rw [Option.some.inj hx]
      have HD := Lib.hid (show (g x && (la.drop (j + 1)).all g) = R by rw [← HS.out, hdx, List.all_cons])
      have hpx := hPb.out _ _ _ (ha4.out x (List.mem_of_getElem? hx)) hbw
      have hcall : ∀ W, Below wr.heap.size wr W → Calls Tryz.prog F #[suV x] W fun e w' => e = .returned (.bool (g x)) ∧ Below W.heap.size W w' := fun W hW => hF.out x W (hPb.out _ _ _ hpx hW) (hbw.trans (hW.mono hbw.size))
      clear hpx hdx
      obtain ⟨bv, hbv⟩ : ∃ b, b = g x := ⟨_, rfl⟩
      rw [← hbv] at hcall HD
      clear hbv
      obtain ⟨un1, ud1, uh1, uf1, up1⟩ := x
      simp only [suV, suC] at hcall
      replace hcall := Lib.hid hcall
      have gx0 : wr.cell? ⟨ba, offa + j * 4, none⟩ = some (.string un1) := (hbw.cell (p := ⟨ba, offa + j * 4, none⟩) hxlt).trans (by simpa using hxc j _ hx 0 _ rfl)
      have gx1 : wr.cell? ⟨ba, offa + j * 4 + 1, none⟩ = some (.bool ud1) := (hbw.cell (p := ⟨ba, offa + j * 4 + 1, none⟩) hxlt).trans (by simpa using hxc j _ hx 1 _ rfl)
      have gx2 : wr.cell? ⟨ba, offa + j * 4 + 2, none⟩ = some (.slice uh1.oa uf1.length uh1.cap) := (hbw.cell (p := ⟨ba, offa + j * 4 + 2, none⟩) hxlt).trans (by simpa using hxc j _ hx 2 _ rfl)
      have gx3 : wr.cell? ⟨ba, offa + j * 4 + 3, none⟩ = some (.int .i64 up1) := (hbw.cell (p := ⟨ba, offa + j * 4 + 3, none⟩) hxlt).trans (by simpa using hxc j _ hx 3 _ rfl)
      clear hx hxc
      have hsz := hbw.size
      cases bv with
      | true =>
        go_wp2_with (go_at_fn F; refine (hcall.out _ ((Below.refl _ _).alloc (Nat.le_refl _) _)).mono ?_; rintro e w1 ⟨rfl, hb1⟩; have B1 : Below wr.heap.size wr w1 := ((Below.refl _ _).alloc (Nat.le_refl _) _).trans (hb1.mono (by simp)); clear hb1; replace B1 := Lib.hid B1)
        go_roundw
        case rel => exact ⟨j + 1, by omega, by go_num, by simpa using HD.out, hbw.trans (B1.out.mono hbw.size)⟩
        case measure => simp [intOf]; omega
      | false =>
        go_wp2_with (go_at_fn F; refine (hcall.out _ ((Below.refl _ _).alloc (Nat.le_refl _) _)).mono ?_; rintro e w1 ⟨rfl, hb1⟩; have B1 : Below wr.heap.size wr w1 := ((Below.refl _ _).alloc (Nat.le_refl _) _).trans (hb1.mono (by simp)); clear hb1; replace B1 := Lib.hid B1)
        go_ret
        exact ⟨by rw [← HD.out]; first | done | rfl, hbw.trans (B1.out.mono hbw.size)⟩
    · have t1 : decide ((j : Int) < la.length) = false := by simp; omega
      obtain rfl : j = la.length := by omega
      have HZ := Lib.hid (show true = R by rw [← HS.out, List.drop_length]; rfl)
      go_wp2
      go_ret
      exact ⟨by rw [← HZ.out]; first | done | rfl, hbw⟩



set_option maxRecDepth 100000 in
set_option maxHeartbeats 4000000 in
theorem allEn_any (F : Nat) (hE : ∀ args w, (callFunc F args).run Tryz.prog w = .ok (.enter F args) w) (g : En5 → Bool) (P : World → En5 → Prop) (hPb : ∀ w w' x, P w x → Below w.heap.size w w' → P w' x)
    (w : World) (hF : ∀ x W, P W x → Below w.heap.size w W → Calls Tryz.prog F #[enV x] W fun e w' => e = .returned (.bool (g x)) ∧ Below W.heap.size W w')
    (ha : Hd) (la : List En5) (hA : Row w ha 3 la enC (P w)) :
    Calls Tryz.prog 42 #[.slice ha.oa la.length ha.cap, .func (.func F) #[] #[]] w fun e w' => e = .returned (.bool (la.all g)) ∧ Below w.heap.size w w' := by
  obtain ⟨oa, capa⟩ := ha
  obtain ⟨ha1, ha2, ha3, ha4⟩ := hA
  dsimp only at ha1 ha2 ha3 ⊢
  unfold maxLen at ha2
  replace ha3 := Lib.hid ha3
  replace ha4 := Lib.hid ha4
  replace hF := Lib.hid hF
  replace hPb := Lib.hid hPb
  obtain ⟨R, hR⟩ : ∃ R, R = la.all g := ⟨_, rfl⟩
  rw [← hR]
  replace hR := Lib.hid hR
  go_enter Tryz.func42, Tryz.ntmps42
  go_wp2_with fail
  go_loopw [9] (fun u wr => ∃ j : Nat, j ≤ la.length ∧ u = .int .i64 j ∧ (la.drop j).all g = R ∧ Below w.heap.size w wr) (fun u _ => la.length - (intOf u).toNat)
  case atStart => exact ⟨0, by omega, rfl, by simpa using hR.out.symm, Below.refl _ _⟩
  case round =>
    obtain ⟨j, hj, rfl, hs, hbw⟩ := hrel
    have HS := Lib.hid hs
    clear hs
    by_cases hjl : j < la.length
    · have t1 : decide ((j : Int) < la.length) = true := by simp; omega
      obtain ⟨ba, offa, rfl, hxlt, hxc⟩ := ha3.out (by omega)
      obtain ⟨x, hx⟩ : ∃ x, la[j]? = some x := ⟨_, List.getElem?_eq_getElem hjl⟩
      have hdx : la.drop j = x :: la.drop (j + 1) := by rw [List.drop_eq_getElem_cons hjl]; rw [List.getElem?_eq_getElem hjl] at hx; rw [Option.some.inj hx]
      have HD := Lib.hid (show (g x && (la.drop (j + 1)).all g) = R by rw [← HS.out, hdx, List.all_cons])
      have hpx := hPb.out _ _ _ (ha4.out x (List.mem_of_getElem? hx)) hbw
      have hcall : ∀ W, Below wr.heap.size wr W → Calls Tryz.prog F #[enV x] W fun e w' => e = .returned (.bool (g x)) ∧ Below W.heap.size W w' := fun W hW => hF.out x W (hPb.out _ _ _ hpx hW) (hbw.trans (hW.mono hbw.size))
      clear hpx hdx
      obtain ⟨bv, hbv⟩ : ∃ b, b = g x := ⟨_, rfl⟩
      rw [← hbv] at hcall HD
      clear hbv
      obtain ⟨en1, eh1, ev1, ep1⟩ := x
      simp only [enV, enC] at hcall
      replace hcall := Lib.hid hcall
      have gx0 : wr.cell? ⟨ba, offa + j * 3, none⟩ = some (.string en1) := (hbw.cell (p := ⟨ba, offa + j * 3, none⟩) hxlt).trans (by simpa using hxc j _ hx 0 _ rfl)
      have gx1 : wr.cell? ⟨ba, offa + j * 3 + 1, none⟩ = some (.slice eh1.oa ev1.length eh1.cap) := (hbw.cell (p := ⟨ba, offa + j * 3 + 1, none⟩) hxlt).trans (by simpa using hxc j _ hx 1 _ rfl)
      have gx2 : wr.cell? ⟨ba, offa + j * 3 + 2, none⟩ = some (.int .i64 ep1) := (hbw.cell (p := ⟨ba, offa + j * 3 + 2, none⟩) hxlt).trans (by simpa using hxc j _ hx 2 _ rfl)
      clear hx hxc
      have hsz := hbw.size
      cases bv with
      | true =>
        go_wp2_with (go_at_fn F; refine (hcall.out _ ((Below.refl _ _).alloc (Nat.le_refl _) _)).mono ?_; rintro e w1 ⟨rfl, hb1⟩; have B1 : Below wr.heap.size wr w1 := ((Below.refl _ _).alloc (Nat.le_refl _) _).trans (hb1.mono (by simp)); clear hb1; replace B1 := Lib.hid B1)
        go_roundw
        case rel => exact ⟨j + 1, by omega, by go_num, by simpa using HD.out, hbw.trans (B1.out.mono hbw.size)⟩
        case measure => simp [intOf]; omega
      | false =>
        go_wp2_with (go_at_fn F; refine (hcall.out _ ((Below.refl _ _).alloc (Nat.le_refl _) _)).mono ?_; rintro e w1 ⟨rfl, hb1⟩; have B1 : Below wr.heap.size wr w1 := ((Below.refl _ _).alloc (Nat.le_refl _) _).trans (hb1.mono (by simp)); clear hb1; replace B1 := Lib.hid B1)
        go_ret
        exact ⟨by rw [← HD.out]; first | done | rfl, hbw.trans (B1.out.mono hbw.size)⟩
    · have t1 : decide ((j : Int) < la.length) = false := by simp; omega
      obtain rfl : j = la.length := by omega
      have HZ := Lib.hid (show true = R by rw [← HS.out, List.drop_length]; rfl)
      go_wp2
      go_ret
      exact ⟨by rw [← HZ.out]; first | done | rfl, hbw⟩



set_option maxRecDepth 100000 in
set_option maxHeartbeats 4000000 in
theorem allFn_any (F : Nat) (hE : ∀ args w, (callFunc F args).run Tryz.prog w = .ok (.enter F args) w) (g : Fn5 → Bool) (P : World → Fn5 → Prop) (hPb : ∀ w w' x, P w x → Below w.heap.size w w' → P w' x)
    (w : World) (hF : ∀ x W, P W x → Below w.heap.size w W → Calls Tryz.prog F #[fnV x] W fun e w' => e = .returned (.bool (g x)) ∧ Below W.heap.size W w')
    (ha : Hd) (la : List Fn5) (hA : Row w ha 4 la fnC (P w)) :
    Calls Tryz.prog 44 #[.slice ha.oa la.length ha.cap, .func (.func F) #[] #[]] w fun e w' => e = .returned (.bool (la.all g)) ∧ Below w.heap.size w w' := by
  obtain ⟨oa, capa⟩ := ha
  obtain ⟨ha1, ha2, ha3, ha4⟩ := hA
  dsimp only at ha1 ha2 ha3 ⊢
  unfold maxLen at ha2
  replace ha3 := Lib.hid ha3
  replace ha4 := Lib.hid ha4
  replace hF := Lib.hid hF
  replace hPb := Lib.hid hPb
  obtain ⟨R, hR⟩ : ∃ R, R = la.all g := ⟨_, rfl⟩
  rw [← hR]
  replace hR := Lib.hid hR
  go_enter Tryz.func44, Tryz.ntmps44
  go_wp2_with fail
  go_loopw [9] (fun u wr => ∃ j : Nat, j ≤ la.length ∧ u = .int .i64 j ∧ (la.drop j).all g = R ∧ Below w.heap.size w wr) (fun u _ => la.length - (intOf u).toNat)
  case atStart => exact ⟨0, by omega, rfl, by simpa using hR.out.symm, Below.refl _ _⟩
  case round =>
    obtain ⟨j, hj, rfl, hs, hbw⟩ := hrel
    have HS := Lib.hid hs
    clear hs
    by_cases hjl : j < la.length
    · have t1 : decide ((j : Int) < la.length) = true := by simp; omega
      obtain ⟨ba, offa, rfl, hxlt, hxc⟩ := ha3.out (by omega)
      obtain ⟨x, hx⟩ : ∃ x, la[j]? = some x := ⟨_, List.getElem?_eq_getElem hjl⟩
      have hdx : la.drop j = x :: la.drop (j + 1) := by rw [List.drop_eq_getElem_cons hjl]; rw [List.getElem?_eq_getElem hjl] at hx; rw [Option.some.inj hx]
      have HD := Lib.hid (show (g x && (la.drop (j + 1)).all g) = R by rw [← HS.out, hdx, List.all_cons])
      have hpx := hPb.out _ _ _ (ha4.out x (List.mem_of_getElem? hx)) hbw
      have hcall : ∀ W, Below wr.heap.size wr W → Calls Tryz.prog F #[fnV x] W fun e w' => e = .returned (.bool (g x)) ∧ Below W.heap.size W w' := fun W hW => hF.out x W (hPb.out _ _ _ hpx hW) (hbw.trans (hW.mono hbw.size))
      clear hpx hdx
      obtain ⟨bv, hbv⟩ : ∃ b, b = g x := ⟨_, rfl⟩
      rw [← hbv] at hcall HD
      clear hbv
      obtain ⟨gn1, gh1, gp1, gi1, gb1, gq1⟩ := x
      simp only [fnV, fnC] at hcall
      replace hcall := Lib.hid hcall
      have gx0 : wr.cell? ⟨ba, offa + j * 4, none⟩ = some (.string gn1) := (hbw.cell (p := ⟨ba, offa + j * 4, none⟩) hxlt).trans (by simpa using hxc j _ hx 0 _ rfl)
      have gx1 : wr.cell? ⟨ba, offa + j * 4 + 1, none⟩ = some (.slice gh1.oa gp1.length gh1.cap) := (hbw.cell (p := ⟨ba, offa + j * 4 + 1, none⟩) hxlt).trans (by simpa using hxc j _ hx 1 _ rfl)
      have gx2 : wr.cell? ⟨ba, offa + j * 4 + 2, none⟩ = some (.slice gi1.oa gb1.length gi1.cap) := (hbw.cell (p := ⟨ba, offa + j * 4 + 2, none⟩) hxlt).trans (by simpa using hxc j _ hx 2 _ rfl)
      have gx3 : wr.cell? ⟨ba, offa + j * 4 + 3, none⟩ = some (.int .i64 gq1) := (hbw.cell (p := ⟨ba, offa + j * 4 + 3, none⟩) hxlt).trans (by simpa using hxc j _ hx 3 _ rfl)
      clear hx hxc
      have hsz := hbw.size
      cases bv with
      | true =>
        go_wp2_with (go_at_fn F; refine (hcall.out _ ((Below.refl _ _).alloc (Nat.le_refl _) _)).mono ?_; rintro e w1 ⟨rfl, hb1⟩; have B1 : Below wr.heap.size wr w1 := ((Below.refl _ _).alloc (Nat.le_refl _) _).trans (hb1.mono (by simp)); clear hb1; replace B1 := Lib.hid B1)
        go_roundw
        case rel => exact ⟨j + 1, by omega, by go_num, by simpa using HD.out, hbw.trans (B1.out.mono hbw.size)⟩
        case measure => simp [intOf]; omega
      | false =>
        go_wp2_with (go_at_fn F; refine (hcall.out _ ((Below.refl _ _).alloc (Nat.le_refl _) _)).mono ?_; rintro e w1 ⟨rfl, hb1⟩; have B1 : Below wr.heap.size wr w1 := ((Below.refl _ _).alloc (Nat.le_refl _) _).trans (hb1.mono (by simp)); clear hb1; replace B1 := Lib.hid B1)
        go_ret
        exact ⟨by rw [← HD.out]; first | done | rfl, hbw.trans (B1.out.mono hbw.size)⟩
    · have t1 : decide ((j : Int) < la.length) = false := by simp; omega
      obtain rfl : j = la.length := by omega
      have HZ := Lib.hid (show true = R by rw [← HS.out, List.drop_length]; rfl)
      go_wp2
      go_ret
      exact ⟨by rw [← HZ.out]; first | done | rfl, hbw⟩



set_option maxRecDepth 100000 in
set_option maxHeartbeats 4000000 in
theorem allFd_any (F : Nat) (hE : ∀ args w, (callFunc F args).run Tryz.prog w = .ok (.enter F args) w) (g : Fd5 → Bool) (P : World → Fd5 → Prop) (hPb : ∀ w w' x, P w x → Below w.heap.size w w' → P w' x)
    (w : World) (hF : ∀ x W, P W x → Below w.heap.size w W → Calls Tryz.prog F #[fdV x] W fun e w' => e = .returned (.bool (g x)) ∧ Below W.heap.size W w')
    (ha : Hd) (la : List Fd5) (hA : Row w ha 4 la fdC (P w)) :
    Calls Tryz.prog 73 #[.slice ha.oa la.length ha.cap, .func (.func F) #[] #[]] w fun e w' => e = .returned (.bool (la.all g)) ∧ Below w.heap.size w w' := by
  obtain ⟨oa, capa⟩ := ha
  obtain ⟨ha1, ha2, ha3, ha4⟩ := hA
  dsimp only at ha1 ha2 ha3 ⊢
  unfold maxLen at ha2
  replace ha3 := Lib.hid ha3
  replace ha4 := Lib.hid ha4
  replace hF := Lib.hid hF
  replace hPb := Lib.hid hPb
  obtain ⟨R, hR⟩ : ∃ R, R = la.all g := ⟨_, rfl⟩
  rw [← hR]
  replace hR := Lib.hid hR
  go_enter Tryz.func73, Tryz.ntmps73
  go_wp2_with fail
  go_loopw [9] (fun u wr => ∃ j : Nat, j ≤ la.length ∧ u = .int .i64 j ∧ (la.drop j).all g = R ∧ Below w.heap.size w wr) (fun u _ => la.length - (intOf u).toNat)
  case atStart => exact ⟨0, by omega, rfl, by simpa using hR.out.symm, Below.refl _ _⟩
  case round =>
    obtain ⟨j, hj, rfl, hs, hbw⟩ := hrel
    have HS := Lib.hid hs
    clear hs
    by_cases hjl : j < la.length
    · have t1 : decide ((j : Int) < la.length) = true := by simp; omega
      obtain ⟨ba, offa, rfl, hxlt, hxc⟩ := ha3.out (by omega)
      obtain ⟨x, hx⟩ : ∃ x, la[j]? = some x := ⟨_, List.getElem?_eq_getElem hjl⟩
      have hdx : la.drop j = x :: la.drop (j + 1) := by rw [List.drop_eq_getElem_cons hjl]; rw [List.getElem?_eq_getElem hjl] at hx; rw [Option.some.inj hx]
      have HD := Lib.hid (show (g x && (la.drop (j + 1)).all g) = R by rw [← HS.out, hdx, List.all_cons])
      have hpx := hPb.out _ _ _ (ha4.out x (List.mem_of_getElem? hx)) hbw
      have hcall : ∀ W, Below wr.heap.size wr W → Calls Tryz.prog F #[fdV x] W fun e w' => e = .returned (.bool (g x)) ∧ Below W.heap.size W w' := fun W hW => hF.out x W (hPb.out _ _ _ hpx hW) (hbw.trans (hW.mono hbw.size))
      clear hpx hdx
      obtain ⟨bv, hbv⟩ : ∃ b, b = g x := ⟨_, rfl⟩
      rw [← hbv] at hcall HD
      clear hbv
      obtain ⟨fn1, ⟨k1, nm1, h1, l1⟩⟩ := x
      simp only [fdV, fdC, tyC] at hcall
      replace hcall := Lib.hid hcall
      have gx0 : wr.cell? ⟨ba, offa + j * 4, none⟩ = some (.string fn1) := (hbw.cell (p := ⟨ba, offa + j * 4, none⟩) hxlt).trans (by simpa using hxc j _ hx 0 _ rfl)
      have gx1 : wr.cell? ⟨ba, offa + j * 4 + 1, none⟩ = some (.int .i64 k1) := (hbw.cell (p := ⟨ba, offa + j * 4 + 1, none⟩) hxlt).trans (by simpa using hxc j _ hx 1 _ rfl)
      have gx2 : wr.cell? ⟨ba, offa + j * 4 + 2, none⟩ = some (.string nm1) := (hbw.cell (p := ⟨ba, offa + j * 4 + 2, none⟩) hxlt).trans (by simpa using hxc j _ hx 2 _ rfl)
      have gx3 : wr.cell? ⟨ba, offa + j * 4 + 3, none⟩ = some (.slice h1.oa l1.length h1.cap) := (hbw.cell (p := ⟨ba, offa + j * 4 + 3, none⟩) hxlt).trans (by simpa using hxc j _ hx 3 _ rfl)
      clear hx hxc
      have hsz := hbw.size
      cases bv with
      | true =>
        go_wp2_with (go_at_fn F; refine (hcall.out _ ((Below.refl _ _).alloc (Nat.le_refl _) _)).mono ?_; rintro e w1 ⟨rfl, hb1⟩; have B1 : Below wr.heap.size wr w1 := ((Below.refl _ _).alloc (Nat.le_refl _) _).trans (hb1.mono (by simp)); clear hb1; replace B1 := Lib.hid B1)
        go_roundw
        case rel => exact ⟨j + 1, by omega, by go_num, by simpa using HD.out, hbw.trans (B1.out.mono hbw.size)⟩
        case measure => simp [intOf]; omega
      | false =>
        go_wp2_with (go_at_fn F; refine (hcall.out _ ((Below.refl _ _).alloc (Nat.le_refl _) _)).mono ?_; rintro e w1 ⟨rfl, hb1⟩; have B1 : Below wr.heap.size wr w1 := ((Below.refl _ _).alloc (Nat.le_refl _) _).trans (hb1.mono (by simp)); clear hb1; replace B1 := Lib.hid B1)
        go_ret
        exact ⟨by rw [← HD.out]; first | done | rfl, hbw.trans (B1.out.mono hbw.size)⟩
    · have t1 : decide ((j : Int) < la.length) = false := by simp; omega
      obtain rfl : j = la.length := by omega
      have HZ := Lib.hid (show true = R by rw [← HS.out, List.drop_length]; rfl)
      go_wp2
      go_ret
      exact ⟨by rw [← HZ.out]; first | done | rfl, hbw⟩



set_option maxRecDepth 100000 in
set_option maxHeartbeats 4000000 in
theorem allVa_any (F : Nat) (hE : ∀ args w, (callFunc F args).run Tryz.prog w = .ok (.enter F args) w) (g : Fd5 → Bool) (P : World → Fd5 → Prop) (hPb : ∀ w w' x, P w x → Below w.heap.size w w' → P w' x)
    (w : World) (hF : ∀ x W, P W x → Below w.heap.size w W → Calls Tryz.prog F #[fdV x] W fun e w' => e = .returned (.bool (g x)) ∧ Below W.heap.size W w')
    (ha : Hd) (la : List Fd5) (hA : Row w ha 4 la fdC (P w)) :
    Calls Tryz.prog 75 #[.slice ha.oa la.length ha.cap, .func (.func F) #[] #[]] w fun e w' => e = .returned (.bool (la.all g)) ∧ Below w.heap.size w w' := by
  obtain ⟨oa, capa⟩ := ha
  obtain ⟨ha1, ha2, ha3, ha4⟩ := hA
  dsimp only at ha1 ha2 ha3 ⊢
  unfold maxLen at ha2
  replace ha3 := Lib.hid ha3
  replace ha4 := Lib.hid ha4
  replace hF := Lib.hid hF
  replace hPb := Lib.hid hPb
  obtain ⟨R, hR⟩ : ∃ R, R = la.all g := ⟨_, rfl⟩
  rw [← hR]
  replace hR := Lib.hid hR
  go_enter Tryz.func75, Tryz.ntmps75
  go_wp2_with fail
  go_loopw [9] (fun u wr => ∃ j : Nat, j ≤ la.length ∧ u = .int .i64 j ∧ (la.drop j).all g = R ∧ Below w.heap.size w wr) (fun u _ => la.length - (intOf u).toNat)
  case atStart => exact ⟨0, by omega, rfl, by simpa using hR.out.symm, Below.refl _ _⟩
  case round =>
    obtain ⟨j, hj, rfl, hs, hbw⟩ := hrel
    have HS := Lib.hid hs
    clear hs
    by_cases hjl : j < la.length
    · have t1 : decide ((j : Int) < la.length) = true := by simp; omega
      obtain ⟨ba, offa, rfl, hxlt, hxc⟩ := ha3.out (by omega)
      obtain ⟨x, hx⟩ : ∃ x, la[j]? = some x := ⟨_, List.getElem?_eq_getElem hjl⟩
      have hdx : la.drop j = x :: la.drop (j + 1) := by rw [List.drop_eq_getElem_cons hjl]; rw [List.getElem?_eq_getElem hjl] at hx; rw [Option.some.inj hx]
      have HD := Lib.hid (show (g x && (la.drop (j + 1)).all g) = R by rw [← HS.out, hdx, List.all_cons])
      have hpx := hPb.out _ _ _ (ha4.out x (List.mem_of_getElem? hx)) hbw
      have hcall : ∀ W, Below wr.heap.size wr W → Calls Tryz.prog F #[fdV x] W fun e w' => e = .returned (.bool (g x)) ∧ Below W.heap.size W w' := fun W hW => hF.out x W (hPb.out _ _ _ hpx hW) (hbw.trans (hW.mono hbw.size))
      clear hpx hdx
      obtain ⟨bv, hbv⟩ : ∃ b, b = g x := ⟨_, rfl⟩
      rw [← hbv] at hcall HD
      clear hbv
      obtain ⟨fn1, ⟨k1, nm1, h1, l1⟩⟩ := x
      simp only [fdV, fdC, tyC] at hcall
      replace hcall := Lib.hid hcall
      have gx0 : wr.cell? ⟨ba, offa + j * 4, none⟩ = some (.string fn1) := (hbw.cell (p := ⟨ba, offa + j * 4, none⟩) hxlt).trans (by simpa using hxc j _ hx 0 _ rfl)
      have gx1 : wr.cell? ⟨ba, offa + j * 4 + 1, none⟩ = some (.int .i64 k1) := (hbw.cell (p := ⟨ba, offa + j * 4 + 1, none⟩) hxlt).trans (by simpa using hxc j _ hx 1 _ rfl)
      have gx2 : wr.cell? ⟨ba, offa + j * 4 + 2, none⟩ = some (.string nm1) := (hbw.cell (p := ⟨ba, offa + j * 4 + 2, none⟩) hxlt).trans (by simpa using hxc j _ hx 2 _ rfl)
      have gx3 : wr.cell? ⟨ba, offa + j * 4 + 3, none⟩ = some (.slice h1.oa l1.length h1.cap) := (hbw.cell (p := ⟨ba, offa + j * 4 + 3, none⟩) hxlt).trans (by simpa using hxc j _ hx 3 _ rfl)
      clear hx hxc
      have hsz := hbw.size
      cases bv with
      | true =>
        go_wp2_with (go_at_fn F; refine (hcall.out _ ((Below.refl _ _).alloc (Nat.le_refl _) _)).mono ?_; rintro e w1 ⟨rfl, hb1⟩; have B1 : Below wr.heap.size wr w1 := ((Below.refl _ _).alloc (Nat.le_refl _) _).trans (hb1.mono (by simp)); clear hb1; replace B1 := Lib.hid B1)
        go_roundw
        case rel => exact ⟨j + 1, by omega, by go_num, by simpa using HD.out, hbw.trans (B1.out.mono hbw.size)⟩
        case measure => simp [intOf]; omega
      | false =>
        go_wp2_with (go_at_fn F; refine (hcall.out _ ((Below.refl _ _).alloc (Nat.le_refl _) _)).mono ?_; rintro e w1 ⟨rfl, hb1⟩; have B1 : Below wr.heap.size wr w1 := ((Below.refl _ _).alloc (Nat.le_refl _) _).trans (hb1.mono (by simp)); clear hb1; replace B1 := Lib.hid B1)
        go_ret
        exact ⟨by rw [← HD.out]; first | done | rfl, hbw.trans (B1.out.mono hbw.size)⟩
    · have t1 : decide ((j : Int) < la.length) = false := by simp; omega
      obtain rfl : j = la.length := by omega
      have HZ := Lib.hid (show true = R by rw [← HS.out, List.drop_length]; rfl)
      go_wp2
      go_ret
      exact ⟨by rw [← HZ.out]; first | done | rfl, hbw⟩



set_option maxRecDepth 100000 in
set_option maxHeartbeats 4000000 in
theorem allOp_any (F : Nat) (hE : ∀ args w, (callFunc F args).run Tryz.prog w = .ok (.enter F args) w) (g : Op5 → Bool) (P : World → Op5 → Prop) (hPb : ∀ w w' x, P w x → Below w.heap.size w w' → P w' x)
    (w : World) (hF : ∀ x W, P W x → Below w.heap.size w W → Calls Tryz.prog F #[opV x] W fun e w' => e = .returned (.bool (g x)) ∧ Below W.heap.size W w')
    (ha : Hd) (la : List Op5) (hA : Row w ha 4 la opC (P w)) :
    Calls Tryz.prog 140 #[.slice ha.oa la.length ha.cap, .func (.func F) #[] #[]] w fun e w' => e = .returned (.bool (la.all g)) ∧ Below w.heap.size w w' := by
  obtain ⟨oa, capa⟩ := ha
  obtain ⟨ha1, ha2, ha3, ha4⟩ := hA
  dsimp only at ha1 ha2 ha3 ⊢
  unfold maxLen at ha2
  replace ha3 := Lib.hid ha3
  replace ha4 := Lib.hid ha4
  replace hF := Lib.hid hF
  replace hPb := Lib.hid hPb
  obtain ⟨R, hR⟩ : ∃ R, R = la.all g := ⟨_, rfl⟩
  rw [← hR]
  replace hR := Lib.hid hR
  go_enter Tryz.func140, Tryz.ntmps140
  go_wp2_with fail
  go_loopw [9] (fun u wr => ∃ j : Nat, j ≤ la.length ∧ u = .int .i64 j ∧ (la.drop j).all g = R ∧ Below w.heap.size w wr) (fun u _ => la.length - (intOf u).toNat)
  case atStart => exact ⟨0, by omega, rfl, by simpa using hR.out.symm, Below.refl _ _⟩
  case round =>
    obtain ⟨j, hj, rfl, hs, hbw⟩ := hrel
    have HS := Lib.hid hs
    clear hs
    by_cases hjl : j < la.length
    · have t1 : decide ((j : Int) < la.length) = true := by simp; omega
      obtain ⟨ba, offa, rfl, hxlt, hxc⟩ := ha3.out (by omega)
      obtain ⟨x, hx⟩ : ∃ x, la[j]? = some x := ⟨_, List.getElem?_eq_getElem hjl⟩
      have hdx : la.drop j = x :: la.drop (j + 1) := by rw [List.drop_eq_getElem_cons hjl]; rw [List.getElem?_eq_getElem hjl] at hx; rw [Option.some.inj hx]
      have HD := Lib.hid (show (g x && (la.drop (j + 1)).all g) = R by rw [← HS.out, hdx, List.all_cons])
      have hpx := hPb.out _ _ _ (ha4.out x (List.mem_of_getElem? hx)) hbw
      have hcall : ∀ W, Below wr.heap.size wr W → Calls Tryz.prog F #[opV x] W fun e w' => e = .returned (.bool (g x)) ∧ Below W.heap.size W w' := fun W hW => hF.out x W (hPb.out _ _ _ hpx hW) (hbw.trans (hW.mono hbw.size))
      clear hpx hdx
      obtain ⟨bv, hbv⟩ : ∃ b, b = g x := ⟨_, rfl⟩
      rw [← hbv] at hcall HD
      clear hbv
      obtain ⟨on1, oi1, ⟨pn1, ph1, pp1⟩⟩ := x
      simp only [opV, opC, plC, List.cons_append, List.nil_append] at hcall
      replace hcall := Lib.hid hcall
      have gx0 : wr.cell? ⟨ba, offa + j * 4, none⟩ = some (.bool on1) := (hbw.cell (p := ⟨ba, offa + j * 4, none⟩) hxlt).trans (by simpa using hxc j _ hx 0 _ rfl)
      have gx1 : wr.cell? ⟨ba, offa + j * 4 + 1, none⟩ = some (.int .i64 oi1) := (hbw.cell (p := ⟨ba, offa + j * 4 + 1, none⟩) hxlt).trans (by simpa using hxc j _ hx 1 _ rfl)
      have gx2 : wr.cell? ⟨ba, offa + j * 4 + 2, none⟩ = some (.string pn1) := (hbw.cell (p := ⟨ba, offa + j * 4 + 2, none⟩) hxlt).trans (by simpa using hxc j _ hx 2 _ rfl)
      have gx3 : wr.cell? ⟨ba, offa + j * 4 + 3, none⟩ = some (.slice ph1.oa pp1.length ph1.cap) := (hbw.cell (p := ⟨ba, offa + j * 4 + 3, none⟩) hxlt).trans (by simpa using hxc j _ hx 3 _ rfl)
      clear hx hxc
      have hsz := hbw.size
      cases bv with
      | true =>
        go_wp2_with (go_at_fn F; refine (hcall.out _ ((Below.refl _ _).alloc (Nat.le_refl _) _)).mono ?_; rintro e w1 ⟨rfl, hb1⟩; have B1 : Below wr.heap.size wr w1 := ((Below.refl _ _).alloc (Nat.le_refl _) _).trans (hb1.mono (by simp)); clear hb1; replace B1 := Lib.hid B1)
        go_roundw
        case rel => exact ⟨j + 1, by omega, by go_num, by simpa using HD.out, hbw.trans (B1.out.mono hbw.size)⟩
        case measure => simp [intOf]; omega
      | false =>
        go_wp2_with (go_at_fn F; refine (hcall.out _ ((Below.refl _ _).alloc (Nat.le_refl _) _)).mono ?_; rintro e w1 ⟨rfl, hb1⟩; have B1 : Below wr.heap.size wr w1 := ((Below.refl _ _).alloc (Nat.le_refl _) _).trans (hb1.mono (by simp)); clear hb1; replace B1 := Lib.hid B1)
        go_ret
        exact ⟨by rw [← HD.out]; first | done | rfl, hbw.trans (B1.out.mono hbw.size)⟩
    · have t1 : decide ((j : Int) < la.length) = false := by simp; omega
      obtain rfl : j = la.length := by omega
      have HZ := Lib.hid (show true = R by rw [← HS.out, List.drop_length]; rfl)
      go_wp2
      go_ret
      exact ⟨by rw [← HZ.out]; first | done | rfl, hbw⟩



set_option maxRecDepth 100000 in
set_option maxHeartbeats 4000000 in
theorem allStep_any (F : Nat) (hE : ∀ args w, (callFunc F args).run Tryz.prog w = .ok (.enter F args) w) (g : ByteArray → Bool) (P : World → ByteArray → Prop) (hPb : ∀ w w' x, P w x → Below w.heap.size w w' → P w' x)
    (w : World) (hF : ∀ x W, P W x → Below w.heap.size w W → Calls Tryz.prog F #[stepV x] W fun e w' => e = .returned (.bool (g x)) ∧ Below W.heap.size W w')
    (ha : Hd) (la : List ByteArray) (hA : Row w ha 1 la stepC (P w)) :
    Calls Tryz.prog 142 #[.slice ha.oa la.length ha.cap, .func (.func F) #[] #[]] w fun e w' => e = .returned (.bool (la.all g)) ∧ Below w.heap.size w w' := by
  obtain ⟨oa, capa⟩ := ha
  obtain ⟨ha1, ha2, ha3, ha4⟩ := hA
  dsimp only at ha1 ha2 ha3 ⊢
  unfold maxLen at ha2
  replace ha3 := Lib.hid ha3
  replace ha4 := Lib.hid ha4
  replace hF := Lib.hid hF
  replace hPb := Lib.hid hPb
  obtain ⟨R, hR⟩ : ∃ R, R = la.all g := ⟨_, rfl⟩
  rw [← hR]
  replace hR := Lib.hid hR
  go_enter Tryz.func142, Tryz.ntmps142
  go_wp2_with fail
  go_loopw [9] (fun u wr => ∃ j : Nat, j ≤ la.length ∧ u = .int .i64 j ∧ (la.drop j).all g = R ∧ Below w.heap.size w wr) (fun u _ => la.length - (intOf u).toNat)
  case atStart => exact ⟨0, by omega, rfl, by simpa using hR.out.symm, Below.refl _ _⟩
  case round =>
    obtain ⟨j, hj, rfl, hs, hbw⟩ := hrel
    have HS := Lib.hid hs
    clear hs
    by_cases hjl : j < la.length
    · have t1 : decide ((j : Int) < la.length) = true := by simp; omega
      obtain ⟨ba, offa, rfl, hxlt, hxc⟩ := ha3.out (by omega)
      obtain ⟨x, hx⟩ : ∃ x, la[j]? = some x := ⟨_, List.getElem?_eq_getElem hjl⟩
      have hdx : la.drop j = x :: la.drop (j + 1) := by rw [List.drop_eq_getElem_cons hjl]; rw [List.getElem?_eq_getElem hjl] at hx; rw [Option.some.inj hx]
      have HD := Lib.hid (show (g x && (la.drop (j + 1)).all g) = R by rw [← HS.out, hdx, List.all_cons])
      have hpx := hPb.out _ _ _ (ha4.out x (List.mem_of_getElem? hx)) hbw
      have hcall : ∀ W, Below wr.heap.size wr W → Calls Tryz.prog F #[stepV x] W fun e w' => e = .returned (.bool (g x)) ∧ Below W.heap.size W w' := fun W hW => hF.out x W (hPb.out _ _ _ hpx hW) (hbw.trans (hW.mono hbw.size))
      clear hpx hdx
      obtain ⟨bv, hbv⟩ : ∃ b, b = g x := ⟨_, rfl⟩
      rw [← hbv] at hcall HD
      clear hbv
      obtain ⟨sn1, rfl⟩ : ∃ s, s = x := ⟨_, rfl⟩
      simp only [stepV, stepC] at hcall
      replace hcall := Lib.hid hcall
      have gx0 : wr.cell? ⟨ba, offa + j, none⟩ = some (.string sn1) := (hbw.cell (p := ⟨ba, offa + j, none⟩) hxlt).trans (by simpa using hxc j _ hx 0 _ rfl)
      clear hx hxc
      have hsz := hbw.size
      cases bv with
      | true =>
        go_wp2_with (go_at_fn F; refine (hcall.out _ ((Below.refl _ _).alloc (Nat.le_refl _) _)).mono ?_; rintro e w1 ⟨rfl, hb1⟩; have B1 : Below wr.heap.size wr w1 := ((Below.refl _ _).alloc (Nat.le_refl _) _).trans (hb1.mono (by simp)); clear hb1; replace B1 := Lib.hid B1)
        go_roundw
        case rel => exact ⟨j + 1, by omega, by go_num, by simpa using HD.out, hbw.trans (B1.out.mono hbw.size)⟩
        case measure => simp [intOf]; omega
      | false =>
        go_wp2_with (go_at_fn F; refine (hcall.out _ ((Below.refl _ _).alloc (Nat.le_refl _) _)).mono ?_; rintro e w1 ⟨rfl, hb1⟩; have B1 : Below wr.heap.size wr w1 := ((Below.refl _ _).alloc (Nat.le_refl _) _).trans (hb1.mono (by simp)); clear hb1; replace B1 := Lib.hid B1)
        go_ret
        exact ⟨by rw [← HD.out]; first | done | rfl, hbw.trans (B1.out.mono hbw.size)⟩
    · have t1 : decide ((j : Int) < la.length) = false := by simp; omega
      obtain rfl : j = la.length := by omega
      have HZ := Lib.hid (show true = R by rw [← HS.out, List.drop_length]; rfl)
      go_wp2
      go_ret
      exact ⟨by rw [← HZ.out]; first | done | rfl, hbw⟩



set_option maxRecDepth 100000 in
set_option maxHeartbeats 4000000 in
theorem allStC_any (F : Nat) (cv : Value) (hE : ∀ args w, (callFunc F args).run Tryz.prog w = .ok (.enter F args) w) (g : St5 → Bool) (P : World → St5 → Prop) (hPb : ∀ w w' x, P w x → Below w.heap.size w w' → P w' x)
    (w : World) (hF : ∀ x W, P W x → Below w.heap.size w W → Calls Tryz.prog F #[stV x, cv] W fun e w' => e = .returned (.bool (g x)) ∧ Below W.heap.size W w')
    (ha : Hd) (la : List St5) (hA : Row w ha 21 la stC (P w)) :
    Calls Tryz.prog 102 #[.slice ha.oa la.length ha.cap, .func (.func F) #[] #[cv]] w fun e w' => e = .returned (.bool (la.all g)) ∧ Below w.heap.size w w' := by
  obtain ⟨oa, capa⟩ := ha
  obtain ⟨ha1, ha2, ha3, ha4⟩ := hA
  dsimp only at ha1 ha2 ha3 ⊢
  unfold maxLen at ha2
  replace ha3 := Lib.hid ha3
  replace ha4 := Lib.hid ha4
  replace hF := Lib.hid hF
  replace hPb := Lib.hid hPb
  obtain ⟨R, hR⟩ : ∃ R, R = la.all g := ⟨_, rfl⟩
  rw [← hR]
  replace hR := Lib.hid hR
  go_enter Tryz.func102, Tryz.ntmps102
  go_wp2_with fail
  go_loopw [9] (fun u wr => ∃ j : Nat, j ≤ la.length ∧ u = .int .i64 j ∧ (la.drop j).all g = R ∧ Below w.heap.size w wr) (fun u _ => la.length - (intOf u).toNat)
  case atStart => exact ⟨0, by omega, rfl, by simpa using hR.out.symm, Below.refl _ _⟩
  case round =>
    obtain ⟨j, hj, rfl, hs, hbw⟩ := hrel
    have HS := Lib.hid hs
    clear hs
    by_cases hjl : j < la.length
    · have t1 : decide ((j : Int) < la.length) = true := by simp; omega
      obtain ⟨ba, offa, rfl, hxlt, hxc⟩ := ha3.out (by omega)
      obtain ⟨x, hx⟩ : ∃ x, la[j]? = some x := ⟨_, List.getElem?_eq_getElem hjl⟩
      have hdx : la.drop j = x :: la.drop (j + 1) := by rw [List.drop_eq_getElem_cons hjl]; rw [List.getElem?_eq_getElem hjl] at hx; rw [Option.some.inj hx]
      have HD := Lib.hid (show (g x && (la.drop (j + 1)).all g) = R by rw [← HS.out, hdx, List.all_cons])
      have hpx := hPb.out _ _ _ (ha4.out x (List.mem_of_getElem? hx)) hbw
      have hcall : ∀ W, Below wr.heap.size wr W → Calls Tryz.prog F #[stV x, cv] W fun e w' => e = .returned (.bool (g x)) ∧ Below W.heap.size W w' := fun W hW => hF.out x W (hPb.out _ _ _ hpx hW) (hbw.trans (hW.mono hbw.size))
      clear hpx hdx
      obtain ⟨bv, hbv⟩ : ∃ b, b = g x := ⟨_, rfl⟩
      rw [← hbv] at hcall HD
      clear hbv
      replace hcall := Lib.hid hcall
      have gx : wr.rangeAt ba (offa + j * 21) (stC x) := fun i v hv => (hbw.cell (p := ⟨ba, offa + j * 21 + i, none⟩) hxlt).trans (hxc j x hx i v hv)
      replace gx := Lib.hid gx
      clear hx hxc
      have hsz := hbw.size
      cases bv with
      | true =>
        go_wp2_with (first
          | (refine wpList_load_mid rfl 52 (.tmp 11) rfl ba (offa + j * 21) rfl (stC x) _ gx.out Tryz.underlying52 rfl (stC_info x) ?_)
          | (refine wpList_store_new rfl 52 (.tmp 6) (.tmp 12) rfl wr _ _ rfl (stC x) rfl (by rw [stC_len]; exact Nat.le_refl _) (stC_info x) (stC_one x) ?_; intro W1 hW1 hr1 hs1; replace hr1 := Lib.hid hr1; have HW1 := Lib.hid hW1; clear hW1; have hsz1 : wr.heap.size < W1.heap.size := (by omega); replace hs1 := Lib.hid hs1)
          | (refine wpList_load_mid rfl 52 (.tmp 6) rfl wr.heap.size 0 rfl (stC x) _ hr1.out Tryz.underlying52 rfl (stC_info x) ?_)
          | (go_at_fn F; refine (hcall.out _ HW1.out).mono ?_; rintro e w1 ⟨rfl, hb1⟩; have B1 : Below wr.heap.size wr w1 := HW1.out.trans (hb1.mono HW1.out.size); clear hb1; replace B1 := Lib.hid B1))
        go_roundw
        case rel => exact ⟨j + 1, by omega, by go_num, by simpa using HD.out, hbw.trans (B1.out.mono hbw.size)⟩
        case measure => simp [intOf]; omega
      | false =>
        go_wp2_with (first
          | (refine wpList_load_mid rfl 52 (.tmp 11) rfl ba (offa + j * 21) rfl (stC x) _ gx.out Tryz.underlying52 rfl (stC_info x) ?_)
          | (refine wpList_store_new rfl 52 (.tmp 6) (.tmp 12) rfl wr _ _ rfl (stC x) rfl (by rw [stC_len]; exact Nat.le_refl _) (stC_info x) (stC_one x) ?_; intro W1 hW1 hr1 hs1; replace hr1 := Lib.hid hr1; have HW1 := Lib.hid hW1; clear hW1; have hsz1 : wr.heap.size < W1.heap.size := (by omega); replace hs1 := Lib.hid hs1)
          | (refine wpList_load_mid rfl 52 (.tmp 6) rfl wr.heap.size 0 rfl (stC x) _ hr1.out Tryz.underlying52 rfl (stC_info x) ?_)
          | (go_at_fn F; refine (hcall.out _ HW1.out).mono ?_; rintro e w1 ⟨rfl, hb1⟩; have B1 : Below wr.heap.size wr w1 := HW1.out.trans (hb1.mono HW1.out.size); clear hb1; replace B1 := Lib.hid B1))
        go_ret
        exact ⟨by rw [← HD.out]; first | done | rfl, hbw.trans (B1.out.mono hbw.size)⟩
    · have t1 : decide ((j : Int) < la.length) = false := by simp; omega
      obtain rfl : j = la.length := by omega
      have HZ := Lib.hid (show true = R by rw [← HS.out, List.drop_length]; rfl)
      go_wp2
      go_ret
      exact ⟨by rw [← HZ.out]; first | done | rfl, hbw⟩



set_option maxRecDepth 100000 in
set_option maxHeartbeats 4000000 in
theorem allArC_any (F : Nat) (cv : Value) (hE : ∀ args w, (callFunc F args).run Tryz.prog w = .ok (.enter F args) w) (g : Ar5 → Bool) (P : World → Ar5 → Prop) (hPb : ∀ w w' x, P w x → Below w.heap.size w w' → P w' x)
    (w : World) (hF : ∀ x W, P W x → Below w.heap.size w W → Calls Tryz.prog F #[arV x, cv] W fun e w' => e = .returned (.bool (g x)) ∧ Below W.heap.size W w')
    (ha : Hd) (la : List Ar5) (hA : Row w ha 3 la arC (P w)) :
    Calls Tryz.prog 126 #[.slice ha.oa la.length ha.cap, .func (.func F) #[] #[cv]] w fun e w' => e = .returned (.bool (la.all g)) ∧ Below w.heap.size w w' := by
  obtain ⟨oa, capa⟩ := ha
  obtain ⟨ha1, ha2, ha3, ha4⟩ := hA
  dsimp only at ha1 ha2 ha3 ⊢
  unfold maxLen at ha2
  replace ha3 := Lib.hid ha3
  replace ha4 := Lib.hid ha4
  replace hF := Lib.hid hF
  replace hPb := Lib.hid hPb
  obtain ⟨R, hR⟩ : ∃ R, R = la.all g := ⟨_, rfl⟩
  rw [← hR]
  replace hR := Lib.hid hR
  go_enter Tryz.func126, Tryz.ntmps126
  go_wp2_with fail
  go_loopw [9] (fun u wr => ∃ j : Nat, j ≤ la.length ∧ u = .int .i64 j ∧ (la.drop j).all g = R ∧ Below w.heap.size w wr) (fun u _ => la.length - (intOf u).toNat)
  case atStart => exact ⟨0, by omega, rfl, by simpa using hR.out.symm, Below.refl _ _⟩
  case round =>
    obtain ⟨j, hj, rfl, hs, hbw⟩ := hrel
    have HS := Lib.hid hs
    clear hs
    by_cases hjl : j < la.length
    · have t1 : decide ((j : Int) < la.length) = true := by simp; omega
      obtain ⟨ba, offa, rfl, hxlt, hxc⟩ := ha3.out (by omega)
      obtain ⟨x, hx⟩ : ∃ x, la[j]? = some x := ⟨_, List.getElem?_eq_getElem hjl⟩
      have hdx : la.drop j = x :: la.drop (j + 1) := by rw [List.drop_eq_getElem_cons hjl]; rw [List.getElem?_eq_getElem hjl] at hx; rw [Option.some.inj hx]
      have HD := Lib.hid (show (g x && (la.drop (j + 1)).all g) = R by rw [← HS.out, hdx, List.all_cons])
      have hpx := hPb.out _ _ _ (ha4.out x (List.mem_of_getElem? hx)) hbw
      have hcall : ∀ W, Below wr.heap.size wr W → Calls Tryz.prog F #[arV x, cv] W fun e w' => e = .returned (.bool (g x)) ∧ Below W.heap.size W w' := fun W hW => hF.out x W (hPb.out _ _ _ hpx hW) (hbw.trans (hW.mono hbw.size))
      clear hpx hdx
      obtain ⟨bv, hbv⟩ : ∃ b, b = g x := ⟨_, rfl⟩
      rw [← hbv] at hcall HD
      clear hbv
      obtain ⟨av1, ab1, ah1, ay1⟩ := x
      simp only [arV, arC] at hcall
      replace hcall := Lib.hid hcall
      have gx0 : wr.cell? ⟨ba, offa + j * 3, none⟩ = some (.string av1) := (hbw.cell (p := ⟨ba, offa + j * 3, none⟩) hxlt).trans (by simpa using hxc j _ hx 0 _ rfl)
      have gx1 : wr.cell? ⟨ba, offa + j * 3 + 1, none⟩ = some (.string ab1) := (hbw.cell (p := ⟨ba, offa + j * 3 + 1, none⟩) hxlt).trans (by simpa using hxc j _ hx 1 _ rfl)
      have gx2 : wr.cell? ⟨ba, offa + j * 3 + 2, none⟩ = some (.slice ah1.oa ay1.length ah1.cap) := (hbw.cell (p := ⟨ba, offa + j * 3 + 2, none⟩) hxlt).trans (by simpa using hxc j _ hx 2 _ rfl)
      clear hx hxc
      have hsz := hbw.size
      cases bv with
      | true =>
        go_wp2_with (go_at_fn F; refine (hcall.out _ ((Below.refl _ _).alloc (Nat.le_refl _) _)).mono ?_; rintro e w1 ⟨rfl, hb1⟩; have B1 : Below wr.heap.size wr w1 := ((Below.refl _ _).alloc (Nat.le_refl _) _).trans (hb1.mono (by simp)); clear hb1; replace B1 := Lib.hid B1)
        go_roundw
        case rel => exact ⟨j + 1, by omega, by go_num, by simpa using HD.out, hbw.trans (B1.out.mono hbw.size)⟩
        case measure => simp [intOf]; omega
      | false =>
        go_wp2_with (go_at_fn F; refine (hcall.out _ ((Below.refl _ _).alloc (Nat.le_refl _) _)).mono ?_; rintro e w1 ⟨rfl, hb1⟩; have B1 : Below wr.heap.size wr w1 := ((Below.refl _ _).alloc (Nat.le_refl _) _).trans (hb1.mono (by simp)); clear hb1; replace B1 := Lib.hid B1)
        go_ret
        exact ⟨by rw [← HD.out]; first | done | rfl, hbw.trans (B1.out.mono hbw.size)⟩
    · have t1 : decide ((j : Int) < la.length) = false := by simp; omega
      obtain rfl : j = la.length := by omega
      have HZ := Lib.hid (show true = R by rw [← HS.out, List.drop_length]; rfl)
      go_wp2
      go_ret
      exact ⟨by rw [← HZ.out]; first | done | rfl, hbw⟩

end Go.Proofs.YtgogdcpgfmndnaaGreatDoor
