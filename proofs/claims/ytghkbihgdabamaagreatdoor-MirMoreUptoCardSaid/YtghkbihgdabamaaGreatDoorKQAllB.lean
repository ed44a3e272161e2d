/-
  Several texts of the proof in one: QAllI, QAllN, QEnd, QAllL, QAllB. No conditions of their own: each lemma states its own.
-/
import Derived.Test.YtghkbihgdabamaaGreatDoorKBModel
import Derived.Test.YtghkbihgdabamaaGreatDoorKPRules
import Derived.Test.YtghkbihgdabamaaGreatDoorKQIntoA
import Derived.Shelf.Abstract
import Derived.Test.YtghkbihgdabamaaGreatDoorKQWays
import Derived.Test.YtghkbihgdabamaaGreatDoorKQStep
import Derived.Test.YtghkbihgdabamaaGreatDoorKQSett
import Derived.Test.YtghkbihgdabamaaGreatDoorKQSpot
namespace Go.Proofs.YtghkbihgdabamaaGreatDoor
open Go.RowKit

theorem info_allI : (Tryz.prog.info? 84).map (·.size) = some 15 := by kernel_rfl
set_option maxRecDepth 100000 in
set_option maxHeartbeats 4000000 in
theorem idxI_any (F : Nat) (c : Nat) (hE : ∀ args w, (callFunc F args).run Tryz.prog w = .ok (.enter F args) w) (g : Si → Bool) (P : World → Si → Prop) (hPb : ∀ w w' x, P w x → Below w.heap.size w w' → P w' x)
    (w : World) (hF : ∀ x W, P W x → Below w.heap.size w W → Calls Tryz.prog F #[(siV x), .pointer (some ⟨c, 0, none⟩)] W fun e w' => e = .returned (.bool (g x)) ∧ Below W.heap.size W w')
    (ha : Hd) (la : List Si) (hA : Row w ha 15 la siC (P w)) :
    Calls Tryz.prog 124 #[.slice ha.oa la.length ha.cap, .func (.func F) #[] #[.pointer (some ⟨c, 0, none⟩)]] w fun e w' => e = .returned (.int .i64 (fiO g la 0)) ∧ Below w.heap.size w w' := by
  obtain ⟨oa, capa⟩ := ha
  obtain ⟨ha1, ha2, ha3, ha4⟩ := hA
  dsimp only at ha1 ha2 ha3 ⊢
  unfold maxLen at ha2
  replace ha3 := Lib.hid ha3
  replace ha4 := Lib.hid ha4
  replace hF := Lib.hid hF
  replace hPb := Lib.hid hPb
  obtain ⟨R, hR⟩ : ∃ R, R = fiO g la 0 := ⟨_, rfl⟩
  rw [← hR]
  replace hR := Lib.hid hR
  go_enter Tryz.func124, Tryz.ntmps124
  go_wp2_with fail
  go_loopw [8] (fun u wr => ∃ j : Nat, j ≤ la.length ∧ u = .int .i64 j ∧ fiO g (la.drop j) j = R ∧ Below w.heap.size w wr) (fun u _ => la.length - (intOf u).toNat)
  case atStart => exact ⟨0, by omega, rfl, by simpa using hR.out.symm, Below.refl _ _⟩
  case round =>
    obtain ⟨j, hj, rfl, hs, hbw⟩ := hrel
    have HS := Lib.hid hs
    clear hs
    by_cases hjl : j < la.length
    · have t1 : decide ((j : Int) < la.length) = true := by simp; omega
      obtain ⟨ba, offa, rfl, hxlt, hxc⟩ := ha3.out (by omega)
      obtain ⟨x, hx⟩ : ∃ x, la[j]? = some x := ⟨_, List.getElem?_eq_getElem hjl⟩
      have hdx : la.drop j = x :: la.drop (j + 1) := by rw [List.drop_eq_getElem_cons hjl]; rw [List.getElem?_eq_getElem hjl] at hx; rw [Option.some.inj hx]
      have HD := Lib.hid (show fiO g (x :: la.drop (j + 1)) j = R by rw [← HS.out, hdx])
      have hpx := hPb.out _ _ _ (ha4.out x (List.mem_of_getElem? hx)) hbw
      have hcall : ∀ W, Below wr.heap.size wr W → Calls Tryz.prog F #[(siV x), .pointer (some ⟨c, 0, none⟩)] W fun e w' => e = .returned (.bool (g x)) ∧ Below W.heap.size W w' := fun W hW => hF.out x W (hPb.out _ _ _ hpx hW) (hbw.trans (hW.mono hbw.size))
      clear hpx hdx
      have gx : wr.rangeAt ba (offa + j * 15) (siC x) := fun i v hv => (hbw.cell (p := ⟨ba, offa + j * 15 + i, none⟩) hxlt).trans (hxc j x hx i v hv)
      obtain ⟨cl, hcl⟩ : ∃ cl, cl = siC x := ⟨_, rfl⟩
      have hV : siV x = .agg cl.toArray := by rw [hcl]; rfl
      have hci : (Tryz.prog.info? 84).map (·.size) = some cl.length := by rw [hcl, siC_len]; exact info_allI
      rw [← hcl] at gx
      rw [hV] at hcall
      have GX := Lib.hid gx
      have HCI := Lib.hid hci
      clear hx hxc hcl hV gx hci
      have hsz := hbw.size
      cases hbv : g x with
      | true =>
        have HR := Lib.hid (show (j : Int) = R by rw [← HD.out, fiO_yes hbv])
        rw [hbv] at hcall
        clear hbv
        replace hcall := Lib.hid hcall
        go_wp2_with (first | (go_loud (refine wpList_load_mid rfl 84 (.tmp 14) rfl ba (offa + j * 15) rfl cl _ GX.out Tryz.underlying84 rfl HCI.out ?_)) | (go_at_fn F; refine (hcall.out _ (Below.refl _ _)).mono ?_; rintro e w1 ⟨rfl, hb1⟩; have B1 := Lib.hid hb1; clear hb1))
        go_ret
        exact ⟨by rw [← HR.out]; rfl, hbw.trans (B1.out.mono hbw.size)⟩
      | false =>
        have HR := Lib.hid (show fiO g (la.drop (j + 1)) (j + 1) = R by rw [← HD.out, fiO_no hbv])
        rw [hbv] at hcall
        clear hbv
        replace hcall := Lib.hid hcall
        go_wp2_with (first | (go_loud (refine wpList_load_mid rfl 84 (.tmp 14) rfl ba (offa + j * 15) rfl cl _ GX.out Tryz.underlying84 rfl HCI.out ?_)) | (go_at_fn F; refine (hcall.out _ (Below.refl _ _)).mono ?_; rintro e w1 ⟨rfl, hb1⟩; have B1 := Lib.hid hb1; clear hb1))
        go_roundw
        case rel => exact ⟨j + 1, by omega, by go_num, HR.out, hbw.trans (B1.out.mono hbw.size)⟩
        case measure => simp [intOf]; omega
    · have t1 : decide ((j : Int) < la.length) = false := by simp; omega
      obtain rfl : j = la.length := by omega
      have HZ := Lib.hid (show (-1 : Int) = R by rw [← HS.out, List.drop_length]; rfl)
      go_wp2
      go_ret
      exact ⟨by rw [← HZ.out]; first | done | rfl, hbw⟩

set_option maxRecDepth 100000 in
set_option maxHeartbeats 4000000 in
theorem contI_any (F : Nat) (c : Nat) (hE : ∀ args w, (callFunc F args).run Tryz.prog w = .ok (.enter F args) w) (g : Si → Bool) (P : World → Si → Prop) (hPb : ∀ w w' x, P w x → Below w.heap.size w w' → P w' x)
    (w : World) (hF : ∀ x W, P W x → Below w.heap.size w W → Calls Tryz.prog F #[(siV x), .pointer (some ⟨c, 0, none⟩)] W fun e w' => e = .returned (.bool (g x)) ∧ Below W.heap.size W w')
    (ha : Hd) (la : List Si) (hA : Row w ha 15 la siC (P w)) :
    Calls Tryz.prog 96 #[.slice ha.oa la.length ha.cap, .func (.func F) #[] #[.pointer (some ⟨c, 0, none⟩)]] w fun e w' => e = .returned (.bool (la.any g)) ∧ Below w.heap.size w w' := by
  have hc := idxI_any F c hE g P hPb w hF ha la hA
  obtain ⟨R, hR⟩ : ∃ R, R = fiO g la 0 := ⟨_, rfl⟩
  rw [← hR] at hc
  have HC := Lib.hid hc
  clear hc hF hPb hE
  have hs := fiO_spec (g := g) la 0
  rw [← hR] at hs
  rcases hs with ⟨h1, h2⟩ | ⟨i, x, h1, h2, h3, -⟩
  · have hz : la.any g = false := by
      rw [List.any_eq_false]
      intro x hx
      rw [h2 x hx]
      decide
    rw [hz]
    clear h2 hz hR hA
    rw [h1] at HC
    clear h1
    go_enter Tryz.func96, Tryz.ntmps96
    go_wp2_with (go_at_call 124; refine HC.out.mono ?_; rintro e w1 ⟨rfl, hb1⟩; have HB1 := Lib.hid hb1; clear hb1)
    go_ret
    exact ⟨rfl, HB1.out⟩
  · have hz : la.any g = true := by
      rw [List.any_eq_true]
      exact ⟨x, List.mem_of_getElem? h1, h2⟩
    rw [hz]
    obtain ⟨j, hj⟩ : ∃ j : Nat, 0 + i = j := ⟨_, rfl⟩
    rw [hj] at h3
    rw [h3] at HC
    have t1 : decide ((j : Int) ≥ 0) = true := by simp
    clear h1 h2 h3 hz hR hA hj
    go_enter Tryz.func96, Tryz.ntmps96
    go_wp2_with (go_at_call 124; refine HC.out.mono ?_; rintro e w1 ⟨rfl, hb1⟩; have HB1 := Lib.hid hb1; clear hb1)
    go_ret
    exact ⟨rfl, HB1.out⟩
theorem entersAllI : ∀ args w, (callFunc 97 args).run Tryz.prog w = .ok (.enter 97 args) w := enters_of Tryz.func97 (by kernel_rfl) rfl
set_option maxRecDepth 100000 in
set_option maxHeartbeats 4000000 in
theorem all1I_any (c v : Nat) (x : Si) (gx : Bool) (w : World) (hc : w.cell? ⟨c, 0, none⟩ = some (.func (.func 64) #[.pointer (some ⟨v, 0, none⟩)] #[])) (hF : ∀ W, Below w.heap.size w W → Calls Tryz.prog 64 #[.pointer (some ⟨v, 0, none⟩), (siV x)] W fun e w' => e = .returned (.bool gx) ∧ Below W.heap.size W w') :
    Calls Tryz.prog 97 #[siV x, .pointer (some ⟨c, 0, none⟩)] w fun e w' => e = .returned (.bool !gx) ∧ Below w.heap.size w w' := by
  obtain ⟨cl, hcl⟩ : ∃ cl, cl = siC x := ⟨_, rfl⟩
  have hV : siV x = .agg cl.toArray := by rw [hcl]; rfl
  have hci : (Tryz.prog.info? 84).map (·.size) = some cl.length := by rw [hcl, siC_len]; exact info_allI
  rw [hV] at hF ⊢
  clear hcl hV
  obtain ⟨W1, hW⟩ : ∃ W, W = w.alloc (.cells cl.toArray 84) := ⟨_, rfl⟩
  have hb1 : Below w.heap.size w W1 := by rw [hW]; exact alloc_below _ _
  have GX := Lib.hid (show W1.rangeAt w.heap.size 0 cl by rw [hW]; exact rangeAt_box w cl _)
  have hc1 : W1.cell? ⟨c, 0, none⟩ = some (.func (.func 64) #[.pointer (some ⟨v, 0, none⟩)] #[]) := (hb1.cell (World.block_lt_of_cell? w _ hc)).trans hc
  have HF := Lib.hid (And.intro hb1 (hF W1 hb1))
  have HCI := Lib.hid hci
  clear hF hb1 hc hci
  go_enter Tryz.func97, Tryz.ntmps97
  go_upto_region 1 with fail
  rw [← hW]
  clear hW
  go_wp2_with
    (first
      | (go_loud (refine wpList_load_mid rfl 84 (.tmp 2) rfl w.heap.size 0 rfl cl _ GX.out Tryz.underlying84 rfl HCI.out ?_))
      | (go_loud (go_at_call 64; refine HF.out.2.mono ?_; rintro e w1 ⟨rfl, hb1⟩; have HB1 := Lib.hid hb1; clear hb1)))
  go_ret
  exact ⟨rfl, HF.out.1.trans (HB1.out.mono HF.out.1.size)⟩
set_option maxRecDepth 100000 in
set_option maxHeartbeats 4000000 in
theorem allI_any (v : Nat) (g : Si → Bool) (P : World → Si → Prop) (hPb : ∀ w w' x, P w x → Below w.heap.size w w' → P w' x)
    (w : World) (hF : ∀ x W, P W x → Below w.heap.size w W → Calls Tryz.prog 64 #[.pointer (some ⟨v, 0, none⟩), (siV x)] W fun e w' => e = .returned (.bool (g x)) ∧ Below W.heap.size W w')
    (ha : Hd) (la : List Si) (hA : Row w ha 15 la siC (P w)) :
    Calls Tryz.prog 63 #[.slice ha.oa la.length ha.cap, (.func (.func 64) #[.pointer (some ⟨v, 0, none⟩)] #[])] w fun e w' => e = .returned (.bool (la.all g)) ∧ Below w.heap.size w w' := by
  obtain ⟨W1, hW⟩ : ∃ W, W = w.alloc (.cells #[(.func (.func 64) #[.pointer (some ⟨v, 0, none⟩)] #[])] 143) := ⟨_, rfl⟩
  have hb1 : Below w.heap.size w W1 := by rw [hW]; exact alloc_below _ _
  have hcx : W1.cell? ⟨w.heap.size, 0, none⟩ = some (.func (.func 64) #[.pointer (some ⟨v, 0, none⟩)] #[]) := by rw [hW]; exact new_cell _ _ _ rfl
  have hcon := contI_any 97 w.heap.size entersAllI (fun x => !g x) P hPb W1 (fun x W hP hW => all1I_any w.heap.size v x (g x) W ((hW.cell (World.block_lt_of_cell? _ _ hcx)).trans hcx) (fun V hV => hF x V (hPb _ _ _ hP hV) (hb1.trans ((hW.trans (hV.mono hW.size)).mono hb1.size)))) ha la (Row.below hA hb1 fun _ _ h => hPb _ _ _ h hb1)
  have hall : (!la.any fun x => !g x) = la.all g := by rw [List.not_any_eq_all_not]; simp
  rw [← hall]
  obtain ⟨R, hR⟩ : ∃ R, (la.any fun x => !g x) = R := ⟨_, rfl⟩
  rw [hR] at hcon ⊢
  have HC := Lib.hid (And.intro hb1 hcon)
  clear hF hPb hcon hb1 hcx hall hR hA
  go_enter Tryz.func63, Tryz.ntmps63
  go_upto_region 1 with fail
  rw [← hW]
  clear hW
  go_wp2_with (go_loud (go_at_call 96; refine HC.out.2.mono ?_; rintro e w1 ⟨rfl, hb1⟩; have HB1 := Lib.hid hb1; clear hb1))
  go_ret
  exact ⟨rfl, HC.out.1.trans (HB1.out.mono HC.out.1.size)⟩

end Go.Proofs.YtghkbihgdabamaaGreatDoor

namespace Go.Proofs.YtghkbihgdabamaaGreatDoor
open Go.RowKit

set_option maxRecDepth 100000 in
set_option maxHeartbeats 4000000 in
theorem idxN_any (F : Nat) (c : Nat) (hE : ∀ args w, (callFunc F args).run Tryz.prog w = .ok (.enter F args) w) (g : Int → Bool) (P : World → Int → Prop) (hPb : ∀ w w' x, P w x → Below w.heap.size w w' → P w' x)
    (w : World) (hF : ∀ x W, P W x → Below w.heap.size w W → Calls Tryz.prog F #[(.int .i64 x), .pointer (some ⟨c, 0, none⟩)] W fun e w' => e = .returned (.bool (g x)) ∧ Below W.heap.size W w')
    (ha : Hd) (la : List Int) (hA : Row w ha 1 la intC (P w)) :
    Calls Tryz.prog 145 #[.slice ha.oa la.length ha.cap, .func (.func F) #[] #[.pointer (some ⟨c, 0, none⟩)]] w fun e w' => e = .returned (.int .i64 (fiO g la 0)) ∧ Below w.heap.size w w' := by
  obtain ⟨oa, capa⟩ := ha
  obtain ⟨ha1, ha2, ha3, ha4⟩ := hA
  dsimp only at ha1 ha2 ha3 ⊢
  unfold maxLen at ha2
  replace ha3 := Lib.hid ha3
  replace ha4 := Lib.hid ha4
  replace hF := Lib.hid hF
  replace hPb := Lib.hid hPb
  obtain ⟨R, hR⟩ : ∃ R, R = fiO g la 0 := ⟨_, rfl⟩
  rw [← hR]
  replace hR := Lib.hid hR
  go_enter Tryz.func145, Tryz.ntmps145
  go_wp2_with fail
  go_loopw [8] (fun u wr => ∃ j : Nat, j ≤ la.length ∧ u = .int .i64 j ∧ fiO g (la.drop j) j = R ∧ Below w.heap.size w wr) (fun u _ => la.length - (intOf u).toNat)
  case atStart => exact ⟨0, by omega, rfl, by simpa using hR.out.symm, Below.refl _ _⟩
  case round =>
    obtain ⟨j, hj, rfl, hs, hbw⟩ := hrel
    have HS := Lib.hid hs
    clear hs
    by_cases hjl : j < la.length
    · have t1 : decide ((j : Int) < la.length) = true := by simp; omega
      obtain ⟨ba, offa, rfl, hxlt, hxc⟩ := ha3.out (by omega)
      obtain ⟨x, hx⟩ : ∃ x, la[j]? = some x := ⟨_, List.getElem?_eq_getElem hjl⟩
      have hdx : la.drop j = x :: la.drop (j + 1) := by rw [List.drop_eq_getElem_cons hjl]; rw [List.getElem?_eq_getElem hjl] at hx; rw [Option.some.inj hx]
      have HD := Lib.hid (show fiO g (x :: la.drop (j + 1)) j = R by rw [← HS.out, hdx])
      have hpx := hPb.out _ _ _ (ha4.out x (List.mem_of_getElem? hx)) hbw
      have hcall : ∀ W, Below wr.heap.size wr W → Calls Tryz.prog F #[(.int .i64 x), .pointer (some ⟨c, 0, none⟩)] W fun e w' => e = .returned (.bool (g x)) ∧ Below W.heap.size W w' := fun W hW => hF.out x W (hPb.out _ _ _ hpx hW) (hbw.trans (hW.mono hbw.size))
      clear hpx hdx
      have gx0 : wr.cell? ⟨ba, offa + j, none⟩ = some (.int .i64 x) := (hbw.cell (p := ⟨ba, offa + j, none⟩) hxlt).trans (by simpa using hxc j _ hx 0 _ rfl)
      clear hx hxc
      have hsz := hbw.size
      cases hbv : g x with
      | true =>
        have HR := Lib.hid (show (j : Int) = R by rw [← HD.out, fiO_yes hbv])
        rw [hbv] at hcall
        clear hbv
        replace hcall := Lib.hid hcall
        go_wp2_with (go_at_fn F; refine (hcall.out _ (Below.refl _ _)).mono ?_; rintro e w1 ⟨rfl, hb1⟩; have B1 := Lib.hid hb1; clear hb1)
        go_ret
        exact ⟨by rw [← HR.out]; rfl, hbw.trans (B1.out.mono hbw.size)⟩
      | false =>
        have HR := Lib.hid (show fiO g (la.drop (j + 1)) (j + 1) = R by rw [← HD.out, fiO_no hbv])
        rw [hbv] at hcall
        clear hbv
        replace hcall := Lib.hid hcall
        go_wp2_with (go_at_fn F; refine (hcall.out _ (Below.refl _ _)).mono ?_; rintro e w1 ⟨rfl, hb1⟩; have B1 := Lib.hid hb1; clear hb1)
        go_roundw
        case rel => exact ⟨j + 1, by omega, by go_num, HR.out, hbw.trans (B1.out.mono hbw.size)⟩
        case measure => simp [intOf]; omega
    · have t1 : decide ((j : Int) < la.length) = false := by simp; omega
      obtain rfl : j = la.length := by omega
      have HZ := Lib.hid (show (-1 : Int) = R by rw [← HS.out, List.drop_length]; rfl)
      go_wp2
      go_ret
      exact ⟨by rw [← HZ.out]; first | done | rfl, hbw⟩

set_option maxRecDepth 100000 in
set_option maxHeartbeats 4000000 in
theorem contN_any (F : Nat) (c : Nat) (hE : ∀ args w, (callFunc F args).run Tryz.prog w = .ok (.enter F args) w) (g : Int → Bool) (P : World → Int → Prop) (hPb : ∀ w w' x, P w x → Below w.heap.size w w' → P w' x)
    (w : World) (hF : ∀ x W, P W x → Below w.heap.size w W → Calls Tryz.prog F #[(.int .i64 x), .pointer (some ⟨c, 0, none⟩)] W fun e w' => e = .returned (.bool (g x)) ∧ Below W.heap.size W w')
    (ha : Hd) (la : List Int) (hA : Row w ha 1 la intC (P w)) :
    Calls Tryz.prog 129 #[.slice ha.oa la.length ha.cap, .func (.func F) #[] #[.pointer (some ⟨c, 0, none⟩)]] w fun e w' => e = .returned (.bool (la.any g)) ∧ Below w.heap.size w w' := by
  have hc := idxN_any F c hE g P hPb w hF ha la hA
  obtain ⟨R, hR⟩ : ∃ R, R = fiO g la 0 := ⟨_, rfl⟩
  rw [← hR] at hc
  have HC := Lib.hid hc
  clear hc hF hPb hE
  have hs := fiO_spec (g := g) la 0
  rw [← hR] at hs
  rcases hs with ⟨h1, h2⟩ | ⟨i, x, h1, h2, h3, -⟩
  · have hz : la.any g = false := by
      rw [List.any_eq_false]
      intro x hx
      rw [h2 x hx]
      decide
    rw [hz]
    clear h2 hz hR hA
    rw [h1] at HC
    clear h1
    go_enter Tryz.func129, Tryz.ntmps129
    go_wp2_with (go_at_call 145; refine HC.out.mono ?_; rintro e w1 ⟨rfl, hb1⟩; have HB1 := Lib.hid hb1; clear hb1)
    go_ret
    exact ⟨rfl, HB1.out⟩
  · have hz : la.any g = true := by
      rw [List.any_eq_true]
      exact ⟨x, List.mem_of_getElem? h1, h2⟩
    rw [hz]
    obtain ⟨j, hj⟩ : ∃ j : Nat, 0 + i = j := ⟨_, rfl⟩
    rw [hj] at h3
    rw [h3] at HC
    have t1 : decide ((j : Int) ≥ 0) = true := by simp
    clear h1 h2 h3 hz hR hA hj
    go_enter Tryz.func129, Tryz.ntmps129
    go_wp2_with (go_at_call 145; refine HC.out.mono ?_; rintro e w1 ⟨rfl, hb1⟩; have HB1 := Lib.hid hb1; clear hb1)
    go_ret
    exact ⟨rfl, HB1.out⟩
theorem entersAllN : ∀ args w, (callFunc 130 args).run Tryz.prog w = .ok (.enter 130 args) w := enters_of Tryz.func130 (by kernel_rfl) rfl
set_option maxRecDepth 100000 in
set_option maxHeartbeats 4000000 in
theorem all1N_any (c v : Nat) (x : Int) (gx : Bool) (w : World) (hc : w.cell? ⟨c, 0, none⟩ = some (.func (.func 105) #[] #[.pointer (some ⟨v, 0, none⟩)])) (hF : Calls Tryz.prog 105 #[(.int .i64 x), .pointer (some ⟨v, 0, none⟩)] w fun e w' => e = .returned (.bool gx) ∧ Below w.heap.size w w') :
    Calls Tryz.prog 130 #[.int .i64 x, .pointer (some ⟨c, 0, none⟩)] w fun e w' => e = .returned (.bool !gx) ∧ Below w.heap.size w w' := by
  have HF := Lib.hid hF
  clear hF
  go_enter Tryz.func130, Tryz.ntmps130
  go_wp2_with (go_loud (go_at_call 105; refine HF.out.mono ?_; rintro e w1 ⟨rfl, hb1⟩; have HB1 := Lib.hid hb1; clear hb1))
  go_ret
  exact ⟨rfl, HB1.out⟩
set_option maxRecDepth 100000 in
set_option maxHeartbeats 4000000 in
theorem allN_any (v : Nat) (g : Int → Bool) (P : World → Int → Prop) (hPb : ∀ w w' x, P w x → Below w.heap.size w w' → P w' x)
    (w : World) (hF : ∀ x W, P W x → Below w.heap.size w W → Calls Tryz.prog 105 #[(.int .i64 x), .pointer (some ⟨v, 0, none⟩)] W fun e w' => e = .returned (.bool (g x)) ∧ Below W.heap.size W w')
    (ha : Hd) (la : List Int) (hA : Row w ha 1 la intC (P w)) :
    Calls Tryz.prog 107 #[.slice ha.oa la.length ha.cap, (.func (.func 105) #[] #[.pointer (some ⟨v, 0, none⟩)])] w fun e w' => e = .returned (.bool (la.all g)) ∧ Below w.heap.size w w' := by
  obtain ⟨W1, hW⟩ : ∃ W, W = w.alloc (.cells #[(.func (.func 105) #[] #[.pointer (some ⟨v, 0, none⟩)])] 165) := ⟨_, rfl⟩
  have hb1 : Below w.heap.size w W1 := by rw [hW]; exact alloc_below _ _
  have hcx : W1.cell? ⟨w.heap.size, 0, none⟩ = some (.func (.func 105) #[] #[.pointer (some ⟨v, 0, none⟩)]) := by rw [hW]; exact new_cell _ _ _ rfl
  have hcon := contN_any 130 w.heap.size entersAllN (fun x => !g x) P hPb W1 (fun x W hP hW => all1N_any w.heap.size v x (g x) W ((hW.cell (World.block_lt_of_cell? _ _ hcx)).trans hcx) (hF x W hP (hb1.trans (hW.mono hb1.size)))) ha la (Row.below hA hb1 fun _ _ h => hPb _ _ _ h hb1)
  have hall : (!la.any fun x => !g x) = la.all g := by rw [List.not_any_eq_all_not]; simp
  rw [← hall]
  obtain ⟨R, hR⟩ : ∃ R, (la.any fun x => !g x) = R := ⟨_, rfl⟩
  rw [hR] at hcon ⊢
  have HC := Lib.hid (And.intro hb1 hcon)
  clear hF hPb hcon hb1 hcx hall hR hA
  go_enter Tryz.func107, Tryz.ntmps107
  go_upto_region 1 with fail
  rw [← hW]
  clear hW
  go_wp2_with (go_loud (go_at_call 129; refine HC.out.2.mono ?_; rintro e w1 ⟨rfl, hb1⟩; have HB1 := Lib.hid hb1; clear hb1))
  go_ret
  exact ⟨rfl, HC.out.1.trans (HB1.out.mono HC.out.1.size)⟩

end Go.Proofs.YtghkbihgdabamaaGreatDoor

namespace Go.Proofs.YtghkbihgdabamaaGreatDoor
open Go.RowKit

set_option maxRecDepth 100000 in
set_option maxHeartbeats 4000000 in
theorem end1_any (s : So5) (b : Bo) (z : Int) (c v : Nat) (w : World) (hc : w.cell? ⟨c, 0, none⟩ = some (.pointer (some ⟨v, 0, none⟩))) (hv : ViewAt w v s b) :
    Calls Tryz.prog 105 #[.int .i64 z, .pointer (some ⟨c, 0, none⟩)] w fun e w' => e = .returned (.bool (plB z b.blocks.length)) ∧ Below w.heap.size w w' := by
  have hpl := fun W => isPlace_any z (b.blocks.length : Int) W
  obtain ⟨nb, hnb⟩ : ∃ n, b.blocks.length = n := ⟨_, rfl⟩
  obtain ⟨B, hB⟩ : ∃ B, plB z (nb : Int) = B := ⟨_, rfl⟩
  unfold ViewAt at hv
  simp only [hnb, hB] at hpl hv ⊢
  have HPL := Lib.hid hpl
  obtain ⟨v0, v1, v2, v3, v4, v5, v6, vl⟩ := cells7 hv
  clear hv hpl hnb hB v0 v1 v2 v3 v4 v5
  go_enter Tryz.func105, Tryz.ntmps105
  go_wp2_with (go_loud (go_at_call 48; refine (HPL.out _).mono ?_; rintro e W1 ⟨rfl, hw1⟩; rw [hw1]; clear hw1))
  go_ret
  exact ⟨rfl, Below.refl _ _⟩

def mendB (s : So5) (n : Nat) (b : Bo) (x : Tn) : Bool := (waysR s n b x).2 && (((x.to.length : Int) == (waysR s n b x).1) && x.to.all fun z => plB z b.blocks.length)
theorem info_tm : (Tryz.prog.info? 57).map (·.size) = some 16 := by kernel_rfl
set_option maxRecDepth 100000 in
set_option maxHeartbeats 40000000 in
theorem end_any (n : Nat) (s : So5) (b : Bo) (v : Nat) (x : Tn) (w : World) (hs : SoH n w s) (hsn : SoN s) (hv : ViewAt w v s b) (hb : BoH n w b) (hx : TnH w x) (hen : EnOk s n b) :
    Calls Tryz.prog 65 #[.pointer (some ⟨v, 0, none⟩), tnV x] w fun e w' => e = .returned (.bool (mendB s n b x)) ∧ Below w.heap.size w w' := by
  unfold mendB
  have hwy := fun W h1 => ways_any n s b v x W (SoH.below hs h1) hsn (hv.below h1) (BoH.below hb h1) (TnH.below hx h1) hen
  have hal := fun (c : Nat) W (h1 : Below w.heap.size w W) (hc : W.cell? ⟨c, 0, none⟩ = some (.pointer (some ⟨v, 0, none⟩))) => allN_any c (fun z => plB z b.blocks.length) (fun _ z => I64 z) (fun _ _ _ h _ => h) W (fun z V _ hV => end1_any s b z c v V ((hV.cell (World.block_lt_of_cell? _ _ hc)).trans hc) (hv.below (h1.trans (hV.mono h1.size)))) x.h x.to (Row.below hx.2.2.2.2.2 h1 fun _ _ h => h)
  obtain ⟨R, hR⟩ : ∃ R, waysR s n b x = R := ⟨_, rfl⟩
  obtain ⟨AB, hAB⟩ : ∃ R, (x.to.all fun z => plB z b.blocks.length) = R := ⟨_, rfl⟩
  simp only [hR] at hwy ⊢
  simp only [hAB] at hal ⊢
  obtain ⟨R1, R2⟩ := R
  obtain ⟨cl, hcl⟩ : ∃ cl, cl = tnC x := ⟨_, rfl⟩
  obtain ⟨nt, hnt⟩ : ∃ n, x.to.length = n := ⟨_, rfl⟩
  obtain ⟨o4, c4, hh4⟩ : ∃ o c, x.h = ⟨o, c⟩ := ⟨_, _, rfl⟩
  have hV : tnV x = .agg cl.toArray := by rw [hcl]; rfl
  have hcn : cl.length = 16 := by rw [hcl]; exact tnC_len x
  have hci : (Tryz.prog.info? 57).map (·.size) = some cl.length := by rw [hcn]; exact info_tm
  have h15 : cl[15]? = some (.slice o4 nt c4) := by
    rw [hcl]
    obtain ⟨k, pos, ⟨a, bq, c⟩, ⟨d, e, f, ⟨a2, b2, c2⟩, g, h⟩, ⟨i, j, l, ⟨a3, b3, c3⟩⟩, hh, tos⟩ := x
    dsimp only at hh4 hnt
    rw [hh4, ← hnt]
    rfl
  rw [hV] at hwy ⊢
  simp only [hnt, hh4] at hal ⊢
  have HWY := Lib.hid hwy
  have HAL := Lib.hid hal
  have HCI := Lib.hid hci
  clear hs hsn hv hb hen hwy hal hci hR hAB hcl hnt hh4 hV
  obtain ⟨W0, hW⟩ : ∃ W, W = (w.alloc (.cells #[.pointer (some ⟨v, 0, none⟩)] 85)).alloc (.cells cl.toArray 57) := ⟨_, rfl⟩
  obtain ⟨hb0, hx0, hx1⟩ := pal2 w (.cells #[.pointer (some ⟨v, 0, none⟩)] 85) (.cells cl.toArray 57)
  rw [← hW] at hb0 hx0 hx1
  obtain ⟨N, hN⟩ : ∃ N, N = w.heap.size := ⟨_, rfl⟩
  rw [← hN] at hx0 hx1
  have GX := Lib.hid (rangeAt_of_box hx1)
  have HB0 := Lib.hid (And.intro hb0 (And.intro hx0 hx1))
  have H15 := Lib.hid h15
  obtain ⟨p0, pl⟩ := cells1p hx0
  clear hb0 hx0 hx1 h15 hcn
  go_enter Tryz.func65, Tryz.ntmps65
  go_upto_region 1 with fail
  rw [← hW]
  clear hW
  try simp only [← hN]
  clear hN
  go_upto_region 3 with
    (first
      | (go_loud (refine wpList_load_mid rfl 57 (.tmp 3) rfl (N + 1) 0 rfl cl _ GX.out Tryz.underlying57 rfl HCI.out ?_))
      | (go_loud (go_at_call 106; refine (HWY.out W0 HB0.out.1).mono ?_; rintro e W1 ⟨rfl, hb1⟩; have HX1 := Lib.hid (And.intro (HB0.out.1.trans (hb1.mono HB0.out.1.size)) (And.intro ((hb1.block N (blk_lt HB0.out.2.1)).trans HB0.out.2.1) ((hb1.block (N + 1) (blk_lt HB0.out.2.2)).trans HB0.out.2.2))); clear hb1)))
  clear p0 pl
  have q15 : W1.cell? ⟨N + 1, 15, none⟩ = some (.slice o4 nt c4) := by
    have h := rangeAt_of_box HX1.out.2.2 15 _ H15.out
    simpa using h
  obtain ⟨p0, pl⟩ := cells1p HX1.out.2.1
  cases R2 with
  | false =>
    go_wp2
    go_ret
    exact ⟨rfl, HX1.out.1⟩
  | true =>
    cases e1 : ((nt : Int) == R1) with
    | false =>
      go_wp2
      go_ret
      exact ⟨by first | done | rfl | (rw [e1]; rfl), HX1.out.1⟩
    | true =>
      have HA := Lib.hid (HAL.out N W1 HX1.out.1 p0)
      go_wp2_with (go_loud (go_at_call 107; refine HA.out.mono ?_; rintro e W2 ⟨rfl, hb2⟩; have HB2 := Lib.hid hb2; clear hb2))
      go_ret
      exact ⟨by first | done | rfl | (rw [e1]; rfl), HX1.out.1.trans (HB2.out.mono HX1.out.1.size)⟩

def blockB (s : So5) (n : Nat) (b : Bo) (x : Bl) : Bool := x.ins.all (stepB s n b) && mendB s n b x.tm
set_option maxRecDepth 100000 in
set_option maxHeartbeats 40000000 in
theorem block_any (n : Nat) (s : So5) (b : Bo) (v : Nat) (x : Bl) (w : World) (hs : SoH n w s) (hsn : SoN s) (hv : ViewAt w v s b) (hb : BoH n w b) (hx : BlH w x) (hen : EnOk s n b) :
    Calls Tryz.prog 37 #[.pointer (some ⟨v, 0, none⟩), blV x] w fun e w' => e = .returned (.bool (blockB s n b x)) ∧ Below w.heap.size w w' := by
  unfold blockB
  have hwy := fun W h1 => end_any n s b v x.tm W (SoH.below hs h1) hsn (hv.below h1) (BoH.below hb h1) (TnH.below hx.2 h1) hen
  have hal := fun W (h1 : Below w.heap.size w W) => allI_any v (stepB s n b) SiH (fun _ _ _ h hb => SiH.below h hb) W (fun z V hz hV => step_any n s b v z V (SoH.below hs (h1.trans (hV.mono h1.size))) hsn (hv.below (h1.trans (hV.mono h1.size))) (BoH.below hb (h1.trans (hV.mono h1.size))) hz hen) x.h x.ins (Row.below hx.1 h1 fun _ _ h => SiH.below h h1)
  obtain ⟨R2, hR⟩ : ∃ R, mendB s n b x.tm = R := ⟨_, rfl⟩
  obtain ⟨AB, hAB⟩ : ∃ R, x.ins.all (stepB s n b) = R := ⟨_, rfl⟩
  simp only [hR] at hwy ⊢
  simp only [hAB] at hal ⊢
  obtain ⟨⟨oh, ch⟩, ins, tm⟩ := x
  obtain ⟨nt, hnt⟩ : ∃ n, ins.length = n := ⟨_, rfl⟩
  obtain ⟨cl, hcl⟩ : ∃ cl, cl = tnC tm := ⟨_, rfl⟩
  have hci : (Tryz.prog.info? 57).map (·.size) = some cl.length := by rw [hcl, tnC_len]; exact info_tm
  have hT : tnV tm = .agg cl.toArray := by rw [hcl]; rfl
  have hV : blV ⟨⟨oh, ch⟩, ins, tm⟩ = .agg (Value.slice oh nt ch :: cl).toArray := by rw [hcl, ← hnt]; rfl
  dsimp only at hwy hal
  rw [hT] at hwy
  rw [hV]
  simp only [hnt] at hal ⊢
  have HWY := Lib.hid hwy
  have HAL := Lib.hid hal
  have HCI := Lib.hid hci
  clear hs hsn hv hb hen hwy hal hci hR hAB hcl hnt hV hT hx
  obtain ⟨W0, hW⟩ : ∃ W, W = w.alloc (.cells (Value.slice oh nt ch :: cl).toArray 60) := ⟨_, rfl⟩
  have hb0 : Below w.heap.size w W0 := by rw [hW]; exact alloc_below _ _
  have hx0 : W0.heap[w.heap.size]? = some (.cells (Value.slice oh nt ch :: cl).toArray 60) := by rw [hW]; exact heap_alloc_new _ _
  obtain ⟨N, hN⟩ : ∃ N, N = w.heap.size := ⟨_, rfl⟩
  rw [← hN] at hx0
  have hq0 : ∀ W : World, W.heap[N]? = some (.cells (Value.slice oh nt ch :: cl).toArray 60) → W.cell? ⟨N, 0, none⟩ = some (.slice oh nt ch) ∧ W.rangeAt N 1 cl := fun W h => ⟨rangeAt_of_box h 0 _ rfl, fun j u hu => by
    have h2 := rangeAt_of_box h (1 + j) u (by rw [Nat.add_comm]; exact hu)
    rw [Nat.zero_add] at h2
    exact h2⟩
  have HQ0 := Lib.hid hq0
  have HB0 := Lib.hid (And.intro hb0 hx0)
  obtain ⟨p0, -⟩ := hq0 W0 hx0
  clear hb0 hx0 hq0
  go_enter Tryz.func37, Tryz.ntmps37
  go_upto_region 1 with fail
  rw [← hW]
  clear hW
  try simp only [← hN]
  clear hN
  cases AB with
  | false =>
    go_wp2_with (go_loud (go_at_call 63; refine (HAL.out W0 HB0.out.1).mono ?_; rintro e W1 ⟨rfl, hb1⟩; have HB1 := Lib.hid (HB0.out.1.trans (hb1.mono HB0.out.1.size)); clear hb1))
    go_ret
    exact ⟨rfl, HB1.out⟩
  | true =>
    go_wp2_with
      (first
        | (go_loud (go_at_call 63; refine (HAL.out W0 HB0.out.1).mono ?_; rintro e W1 ⟨rfl, hb1⟩; have HB1 := Lib.hid (And.intro (HB0.out.1.trans (hb1.mono HB0.out.1.size)) ((hb1.block N (blk_lt HB0.out.2)).trans HB0.out.2)); clear hb1))
        | (go_loud (refine wpList_load_midW (by rfl) 57 (.tmp 12) rfl N 1 rfl cl _ (HQ0.out W1 HB1.out.2).2 Tryz.underlying57 rfl HCI.out ?_))
        | (go_loud (go_at_call 65; refine (HWY.out W1 HB1.out.1).mono ?_; rintro e W2 ⟨rfl, hb2⟩; have HB2 := Lib.hid (HB1.out.1.trans (hb2.mono HB1.out.1.size)); clear hb2)))
    go_ret
    exact ⟨rfl, HB2.out⟩

def tyLs : Ty5 → List Ty5
  | .mk _ _ _ l => l
def localB (s : So5) (n : Nat) (x : Lo) : Bool := isOfB s n x.ty x.ty && !((tyLs x.ty).any holdsT)
set_option maxRecDepth 100000 in
set_option maxHeartbeats 40000000 in
theorem local_any (n : Nat) (s : So5) (b : Bo) (v : Nat) (x : Lo) (w : World) (hs : SoH n w s) (hv : ViewAt w v s b) (hx : LoH n w x) (hxn : tyN x.ty ≤ 1000000) :
    Calls Tryz.prog 60 #[.pointer (some ⟨v, 0, none⟩), loV x] w fun e w' => e = .returned (.bool (localB s n x)) ∧ Below w.heap.size w w' := by
  unfold localB
  have hof := fun W h1 => isOf_any n n n s b v x.ty x.ty W (SoH.below hs h1) (hv.below h1) (TyH.below n hx h1) (TyH.below n hx h1) hxn
  obtain ⟨nm, ⟨k, tn, ⟨oh, ch⟩, tl⟩⟩ := x
  unfold LoH at hx
  obtain ⟨m, hm⟩ : ∃ m, n = m + 1 := by
    cases n with
    | zero => exact hx.elim
    | succ m => exact ⟨m, rfl⟩
  have hrow : ∀ W, Below w.heap.size w W → Row W ⟨oh, ch⟩ 3 tl tyC (TyH m W) := fun W h1 => by
    have hx2 : TyH (m + 1) w (.mk k tn ⟨oh, ch⟩ tl) := by rw [← hm]; exact hx
    exact Row.below hx2.2 h1 fun _ _ h => TyH.below m h h1
  have hco := fun W h1 => contTy_any 94 entersHo holdsT (fun V => TyH m V) (fun _ _ _ h hb => TyH.below m h hb) W (fun y V hy _ => holds_any m y V hy) ⟨oh, ch⟩ tl (hrow W h1)
  obtain ⟨B1, hB1⟩ : ∃ R, isOfB s n (.mk k tn ⟨oh, ch⟩ tl) (.mk k tn ⟨oh, ch⟩ tl) = R := ⟨_, rfl⟩
  obtain ⟨B2, hB2⟩ : ∃ R, tl.any holdsT = R := ⟨_, rfl⟩
  dsimp only at hof hco
  simp only [hB1] at hof ⊢
  simp only [hB2] at hco
  have hB2' : (tyLs (.mk k tn ⟨oh, ch⟩ tl)).any holdsT = B2 := hB2
  rw [hB2']
  obtain ⟨nt, hnt⟩ : ∃ n, tl.length = n := ⟨_, rfl⟩
  simp only [loV, loC, tyV, tyC, hnt] at hof hco ⊢
  have HOF := Lib.hid hof
  have HCO := Lib.hid hco
  clear hs hv hx hxn hof hrow hco hB1 hB2 hB2' hnt hm
  obtain ⟨W0, hW⟩ : ∃ W, W = w.alloc (.cells #[.string nm, .int .i64 k, .string tn, .slice oh nt ch] 66) := ⟨_, rfl⟩
  have hb0 : Below w.heap.size w W0 := by rw [hW]; exact alloc_below _ _
  have hx0 : W0.heap[w.heap.size]? = some (.cells #[.string nm, .int .i64 k, .string tn, .slice oh nt ch] 66) := by rw [hW]; exact heap_alloc_new _ _
  obtain ⟨N, hN⟩ : ∃ N, N = w.heap.size := ⟨_, rfl⟩
  rw [← hN] at hx0
  have hq : ∀ W : World, W.heap[N]? = some (.cells #[.string nm, .int .i64 k, .string tn, .slice oh nt ch] 66) → W.cell? ⟨N, 0, none⟩ = some (.string nm) ∧ W.cell? ⟨N, 1, none⟩ = some (.int .i64 k) ∧ W.cell? ⟨N, 1 + 1, none⟩ = some (.string tn) ∧ W.cell? ⟨N, 1 + 2, none⟩ = some (.slice oh nt ch) := fun W h => by
    refine ⟨?_, ?_, ?_, ?_⟩ <;> simp [World.cell?, h]
  have HQ := Lib.hid hq
  have HB0 := Lib.hid (And.intro hb0 hx0)
  obtain ⟨p0, p1, p2, p3⟩ := hq W0 hx0
  clear hb0 hx0 hq
  go_enter Tryz.func60, Tryz.ntmps60
  go_upto_region 1 with fail
  rw [← hW]
  clear hW
  try simp only [← hN]
  clear hN
  cases B1 with
  | false =>
    go_wp2_with (go_loud (go_at_call 92; refine (HOF.out W0 HB0.out.1).mono ?_; rintro e W1 ⟨rfl, hb1⟩; have HB1 := Lib.hid (HB0.out.1.trans (hb1.mono HB0.out.1.size)); clear hb1))
    go_ret
    exact ⟨rfl, HB1.out⟩
  | true =>
    go_wp2_with
      (first
        | (go_loud (go_at_call 92; refine (HOF.out W0 HB0.out.1).mono ?_; rintro e W1 ⟨rfl, hb1⟩; have HB1 := Lib.hid (And.intro (HB0.out.1.trans (hb1.mono HB0.out.1.size)) ((hb1.block N (blk_lt HB0.out.2)).trans HB0.out.2)); obtain ⟨r0, r1, r2, r3⟩ := HQ.out W1 HB1.out.2; clear hb1))
        | (go_loud (go_at_call 93; refine (HCO.out W1 HB1.out.1).mono ?_; rintro e W2 ⟨rfl, hb2⟩; have HB2 := Lib.hid (HB1.out.1.trans (hb2.mono HB1.out.1.size)); clear hb2)))
    go_ret
    exact ⟨rfl, HB2.out⟩

end Go.Proofs.YtghkbihgdabamaaGreatDoor

namespace Go.Proofs.YtghkbihgdabamaaGreatDoor
open Go.RowKit

theorem info_allL : (Tryz.prog.info? 66).map (·.size) = some 4 := by kernel_rfl
set_option maxRecDepth 100000 in
set_option maxHeartbeats 4000000 in
theorem idxL_any (F : Nat) (c : Nat) (hE : ∀ args w, (callFunc F args).run Tryz.prog w = .ok (.enter F args) w) (g : Lo → Bool) (P : World → Lo → Prop) (hPb : ∀ w w' x, P w x → Below w.heap.size w w' → P w' x)
    (w : World) (hF : ∀ x W, P W x → Below w.heap.size w W → Calls Tryz.prog F #[(loV x), .pointer (some ⟨c, 0, none⟩)] W fun e w' => e = .returned (.bool (g x)) ∧ Below W.heap.size W w')
    (ha : Hd) (la : List Lo) (hA : Row w ha 4 la loC (P w)) :
    Calls Tryz.prog 121 #[.slice ha.oa la.length ha.cap, .func (.func F) #[] #[.pointer (some ⟨c, 0, none⟩)]] w fun e w' => e = .returned (.int .i64 (fiO g la 0)) ∧ Below w.heap.size w w' := by
  obtain ⟨oa, capa⟩ := ha
  obtain ⟨ha1, ha2, ha3, ha4⟩ := hA
  dsimp only at ha1 ha2 ha3 ⊢
  unfold maxLen at ha2
  replace ha3 := Lib.hid ha3
  replace ha4 := Lib.hid ha4
  replace hF := Lib.hid hF
  replace hPb := Lib.hid hPb
  obtain ⟨R, hR⟩ : ∃ R, R = fiO g la 0 := ⟨_, rfl⟩
  rw [← hR]
  replace hR := Lib.hid hR
  go_enter Tryz.func121, Tryz.ntmps121
  go_wp2_with fail
  go_loopw [8] (fun u wr => ∃ j : Nat, j ≤ la.length ∧ u = .int .i64 j ∧ fiO g (la.drop j) j = R ∧ Below w.heap.size w wr) (fun u _ => la.length - (intOf u).toNat)
  case atStart => exact ⟨0, by omega, rfl, by simpa using hR.out.symm, Below.refl _ _⟩
  case round =>
    obtain ⟨j, hj, rfl, hs, hbw⟩ := hrel
    have HS := Lib.hid hs
    clear hs
    by_cases hjl : j < la.length
    · have t1 : decide ((j : Int) < la.length) = true := by simp; omega
      obtain ⟨ba, offa, rfl, hxlt, hxc⟩ := ha3.out (by omega)
      obtain ⟨x, hx⟩ : ∃ x, la[j]? = some x := ⟨_, List.getElem?_eq_getElem hjl⟩
      have hdx : la.drop j = x :: la.drop (j + 1) := by rw [List.drop_eq_getElem_cons hjl]; rw [List.getElem?_eq_getElem hjl] at hx; rw [Option.some.inj hx]
      have HD := Lib.hid (show fiO g (x :: la.drop (j + 1)) j = R by rw [← HS.out, hdx])
      have hpx := hPb.out _ _ _ (ha4.out x (List.mem_of_getElem? hx)) hbw
      have hcall : ∀ W, Below wr.heap.size wr W → Calls Tryz.prog F #[(loV x), .pointer (some ⟨c, 0, none⟩)] W fun e w' => e = .returned (.bool (g x)) ∧ Below W.heap.size W w' := fun W hW => hF.out x W (hPb.out _ _ _ hpx hW) (hbw.trans (hW.mono hbw.size))
      clear hpx hdx
      have gx : wr.rangeAt ba (offa + j * 4) (loC x) := fun i v hv => (hbw.cell (p := ⟨ba, offa + j * 4 + i, none⟩) hxlt).trans (hxc j x hx i v hv)
      obtain ⟨cl, hcl⟩ : ∃ cl, cl = loC x := ⟨_, rfl⟩
      have hV : loV x = .agg cl.toArray := by rw [hcl]; rfl
      have hci : (Tryz.prog.info? 66).map (·.size) = some cl.length := by rw [hcl, loC_len]; exact info_allL
      rw [← hcl] at gx
      rw [hV] at hcall
      have GX := Lib.hid gx
      have HCI := Lib.hid hci
      clear hx hxc hcl hV gx hci
      have hsz := hbw.size
      cases hbv : g x with
      | true =>
        have HR := Lib.hid (show (j : Int) = R by rw [← HD.out, fiO_yes hbv])
        rw [hbv] at hcall
        clear hbv
        replace hcall := Lib.hid hcall
        go_wp2_with (first | (go_loud (refine wpList_load_mid rfl 66 (.tmp 14) rfl ba (offa + j * 4) rfl cl _ GX.out Tryz.underlying66 rfl HCI.out ?_)) | (go_at_fn F; refine (hcall.out _ (Below.refl _ _)).mono ?_; rintro e w1 ⟨rfl, hb1⟩; have B1 := Lib.hid hb1; clear hb1))
        go_ret
        exact ⟨by rw [← HR.out]; rfl, hbw.trans (B1.out.mono hbw.size)⟩
      | false =>
        have HR := Lib.hid (show fiO g (la.drop (j + 1)) (j + 1) = R by rw [← HD.out, fiO_no hbv])
        rw [hbv] at hcall
        clear hbv
        replace hcall := Lib.hid hcall
        go_wp2_with (first | (go_loud (refine wpList_load_mid rfl 66 (.tmp 14) rfl ba (offa + j * 4) rfl cl _ GX.out Tryz.underlying66 rfl HCI.out ?_)) | (go_at_fn F; refine (hcall.out _ (Below.refl _ _)).mono ?_; rintro e w1 ⟨rfl, hb1⟩; have B1 := Lib.hid hb1; clear hb1))
        go_roundw
        case rel => exact ⟨j + 1, by omega, by go_num, HR.out, hbw.trans (B1.out.mono hbw.size)⟩
        case measure => simp [intOf]; omega
    · have t1 : decide ((j : Int) < la.length) = false := by simp; omega
      obtain rfl : j = la.length := by omega
      have HZ := Lib.hid (show (-1 : Int) = R by rw [← HS.out, List.drop_length]; rfl)
      go_wp2
      go_ret
      exact ⟨by rw [← HZ.out]; first | done | rfl, hbw⟩

set_option maxRecDepth 100000 in
set_option maxHeartbeats 4000000 in
theorem contL_any (F : Nat) (c : Nat) (hE : ∀ args w, (callFunc F args).run Tryz.prog w = .ok (.enter F args) w) (g : Lo → Bool) (P : World → Lo → Prop) (hPb : ∀ w w' x, P w x → Below w.heap.size w w' → P w' x)
    (w : World) (hF : ∀ x W, P W x → Below w.heap.size w W → Calls Tryz.prog F #[(loV x), .pointer (some ⟨c, 0, none⟩)] W fun e w' => e = .returned (.bool (g x)) ∧ Below W.heap.size W w')
    (ha : Hd) (la : List Lo) (hA : Row w ha 4 la loC (P w)) :
    Calls Tryz.prog 90 #[.slice ha.oa la.length ha.cap, .func (.func F) #[] #[.pointer (some ⟨c, 0, none⟩)]] w fun e w' => e = .returned (.bool (la.any g)) ∧ Below w.heap.size w w' := by
  have hc := idxL_any F c hE g P hPb w hF ha la hA
  obtain ⟨R, hR⟩ : ∃ R, R = fiO g la 0 := ⟨_, rfl⟩
  rw [← hR] at hc
  have HC := Lib.hid hc
  clear hc hF hPb hE
  have hs := fiO_spec (g := g) la 0
  rw [← hR] at hs
  rcases hs with ⟨h1, h2⟩ | ⟨i, x, h1, h2, h3, -⟩
  · have hz : la.any g = false := by
      rw [List.any_eq_false]
      intro x hx
      rw [h2 x hx]
      decide
    rw [hz]
    clear h2 hz hR hA
    rw [h1] at HC
    clear h1
    go_enter Tryz.func90, Tryz.ntmps90
    go_wp2_with (go_at_call 121; refine HC.out.mono ?_; rintro e w1 ⟨rfl, hb1⟩; have HB1 := Lib.hid hb1; clear hb1)
    go_ret
    exact ⟨rfl, HB1.out⟩
  · have hz : la.any g = true := by
      rw [List.any_eq_true]
      exact ⟨x, List.mem_of_getElem? h1, h2⟩
    rw [hz]
    obtain ⟨j, hj⟩ : ∃ j : Nat, 0 + i = j := ⟨_, rfl⟩
    rw [hj] at h3
    rw [h3] at HC
    have t1 : decide ((j : Int) ≥ 0) = true := by simp
    clear h1 h2 h3 hz hR hA hj
    go_enter Tryz.func90, Tryz.ntmps90
    go_wp2_with (go_at_call 121; refine HC.out.mono ?_; rintro e w1 ⟨rfl, hb1⟩; have HB1 := Lib.hid hb1; clear hb1)
    go_ret
    exact ⟨rfl, HB1.out⟩
theorem entersAllL : ∀ args w, (callFunc 91 args).run Tryz.prog w = .ok (.enter 91 args) w := enters_of Tryz.func91 (by kernel_rfl) rfl
set_option maxRecDepth 100000 in
set_option maxHeartbeats 4000000 in
theorem all1L_any (c v : Nat) (x : Lo) (gx : Bool) (w : World) (hc : w.cell? ⟨c, 0, none⟩ = some (.func (.func 60) #[.pointer (some ⟨v, 0, none⟩)] #[])) (hF : ∀ W, Below w.heap.size w W → Calls Tryz.prog 60 #[.pointer (some ⟨v, 0, none⟩), (loV x)] W fun e w' => e = .returned (.bool gx) ∧ Below W.heap.size W w') :
    Calls Tryz.prog 91 #[loV x, .pointer (some ⟨c, 0, none⟩)] w fun e w' => e = .returned (.bool !gx) ∧ Below w.heap.size w w' := by
  obtain ⟨cl, hcl⟩ : ∃ cl, cl = loC x := ⟨_, rfl⟩
  have hV : loV x = .agg cl.toArray := by rw [hcl]; rfl
  have hci : (Tryz.prog.info? 66).map (·.size) = some cl.length := by rw [hcl, loC_len]; exact info_allL
  rw [hV] at hF ⊢
  clear hcl hV
  obtain ⟨W1, hW⟩ : ∃ W, W = w.alloc (.cells cl.toArray 66) := ⟨_, rfl⟩
  have hb1 : Below w.heap.size w W1 := by rw [hW]; exact alloc_below _ _
  have GX := Lib.hid (show W1.rangeAt w.heap.size 0 cl by rw [hW]; exact rangeAt_box w cl _)
  have hc1 : W1.cell? ⟨c, 0, none⟩ = some (.func (.func 60) #[.pointer (some ⟨v, 0, none⟩)] #[]) := (hb1.cell (World.block_lt_of_cell? w _ hc)).trans hc
  have HF := Lib.hid (And.intro hb1 (hF W1 hb1))
  have HCI := Lib.hid hci
  clear hF hb1 hc hci
  go_enter Tryz.func91, Tryz.ntmps91
  go_upto_region 1 with fail
  rw [← hW]
  clear hW
  go_wp2_with
    (first
      | (go_loud (refine wpList_load_mid rfl 66 (.tmp 2) rfl w.heap.size 0 rfl cl _ GX.out Tryz.underlying66 rfl HCI.out ?_))
      | (go_loud (go_at_call 60; refine HF.out.2.mono ?_; rintro e w1 ⟨rfl, hb1⟩; have HB1 := Lib.hid hb1; clear hb1)))
  go_ret
  exact ⟨rfl, HF.out.1.trans (HB1.out.mono HF.out.1.size)⟩
set_option maxRecDepth 100000 in
set_option maxHeartbeats 4000000 in
theorem allL_any (v : Nat) (g : Lo → Bool) (P : World → Lo → Prop) (hPb : ∀ w w' x, P w x → Below w.heap.size w w' → P w' x)
    (w : World) (hF : ∀ x W, P W x → Below w.heap.size w W → Calls Tryz.prog 60 #[.pointer (some ⟨v, 0, none⟩), (loV x)] W fun e w' => e = .returned (.bool (g x)) ∧ Below W.heap.size W w')
    (ha : Hd) (la : List Lo) (hA : Row w ha 4 la loC (P w)) :
    Calls Tryz.prog 59 #[.slice ha.oa la.length ha.cap, (.func (.func 60) #[.pointer (some ⟨v, 0, none⟩)] #[])] w fun e w' => e = .returned (.bool (la.all g)) ∧ Below w.heap.size w w' := by
  obtain ⟨W1, hW⟩ : ∃ W, W = w.alloc (.cells #[(.func (.func 60) #[.pointer (some ⟨v, 0, none⟩)] #[])] 141) := ⟨_, rfl⟩
  have hb1 : Below w.heap.size w W1 := by rw [hW]; exact alloc_below _ _
  have hcx : W1.cell? ⟨w.heap.size, 0, none⟩ = some (.func (.func 60) #[.pointer (some ⟨v, 0, none⟩)] #[]) := by rw [hW]; exact new_cell _ _ _ rfl
  have hcon := contL_any 91 w.heap.size entersAllL (fun x => !g x) P hPb W1 (fun x W hP hW => all1L_any w.heap.size v x (g x) W ((hW.cell (World.block_lt_of_cell? _ _ hcx)).trans hcx) (fun V hV => hF x V (hPb _ _ _ hP hV) (hb1.trans ((hW.trans (hV.mono hW.size)).mono hb1.size)))) ha la (Row.below hA hb1 fun _ _ h => hPb _ _ _ h hb1)
  have hall : (!la.any fun x => !g x) = la.all g := by rw [List.not_any_eq_all_not]; simp
  rw [← hall]
  obtain ⟨R, hR⟩ : ∃ R, (la.any fun x => !g x) = R := ⟨_, rfl⟩
  rw [hR] at hcon ⊢
  have HC := Lib.hid (And.intro hb1 hcon)
  clear hF hPb hcon hb1 hcx hall hR hA
  go_enter Tryz.func59, Tryz.ntmps59
  go_upto_region 1 with fail
  rw [← hW]
  clear hW
  go_wp2_with (go_loud (go_at_call 90; refine HC.out.2.mono ?_; rintro e w1 ⟨rfl, hb1⟩; have HB1 := Lib.hid hb1; clear hb1))
  go_ret
  exact ⟨rfl, HC.out.1.trans (HB1.out.mono HC.out.1.size)⟩

end Go.Proofs.YtghkbihgdabamaaGreatDoor

namespace Go.Proofs.YtghkbihgdabamaaGreatDoor
open Go.RowKit

theorem info_allB : (Tryz.prog.info? 60).map (·.size) = some 17 := by kernel_rfl
set_option maxRecDepth 100000 in
set_option maxHeartbeats 4000000 in
theorem idxB_any (F : Nat) (c : Nat) (hE : ∀ args w, (callFunc F args).run Tryz.prog w = .ok (.enter F args) w) (g : Bl → Bool) (P : World → Bl → Prop) (hPb : ∀ w w' x, P w x → Below w.heap.size w w' → P w' x)
    (w : World) (hF : ∀ x W, P W x → Below w.heap.size w W → Calls Tryz.prog F #[(blV x), .pointer (some ⟨c, 0, none⟩)] W fun e w' => e = .returned (.bool (g x)) ∧ Below W.heap.size W w')
    (ha : Hd) (la : List Bl) (hA : Row w ha 17 la blC (P w)) :
    Calls Tryz.prog 95 #[.slice ha.oa la.length ha.cap, .func (.func F) #[] #[.pointer (some ⟨c, 0, none⟩)]] w fun e w' => e = .returned (.int .i64 (fiO g la 0)) ∧ Below w.heap.size w w' := by
  obtain ⟨oa, capa⟩ := ha
  obtain ⟨ha1, ha2, ha3, ha4⟩ := hA
  dsimp only at ha1 ha2 ha3 ⊢
  unfold maxLen at ha2
  replace ha3 := Lib.hid ha3
  replace ha4 := Lib.hid ha4
  replace hF := Lib.hid hF
  replace hPb := Lib.hid hPb
  obtain ⟨R, hR⟩ : ∃ R, R = fiO g la 0 := ⟨_, rfl⟩
  rw [← hR]
  replace hR := Lib.hid hR
  go_enter Tryz.func95, Tryz.ntmps95
  go_wp2_with fail
  go_loopw [8] (fun u wr => ∃ j : Nat, j ≤ la.length ∧ u = .int .i64 j ∧ fiO g (la.drop j) j = R ∧ Below w.heap.size w wr) (fun u _ => la.length - (intOf u).toNat)
  case atStart => exact ⟨0, by omega, rfl, by simpa using hR.out.symm, Below.refl _ _⟩
  case round =>
    obtain ⟨j, hj, rfl, hs, hbw⟩ := hrel
    have HS := Lib.hid hs
    clear hs
    by_cases hjl : j < la.length
    · have t1 : decide ((j : Int) < la.length) = true := by simp; omega
      obtain ⟨ba, offa, rfl, hxlt, hxc⟩ := ha3.out (by omega)
      obtain ⟨x, hx⟩ : ∃ x, la[j]? = some x := ⟨_, List.getElem?_eq_getElem hjl⟩
      have hdx : la.drop j = x :: la.drop (j + 1) := by rw [List.drop_eq_getElem_cons hjl]; rw [List.getElem?_eq_getElem hjl] at hx; rw [Option.some.inj hx]
      have HD := Lib.hid (show fiO g (x :: la.drop (j + 1)) j = R by rw [← HS.out, hdx])
      have hpx := hPb.out _ _ _ (ha4.out x (List.mem_of_getElem? hx)) hbw
      have hcall : ∀ W, Below wr.heap.size wr W → Calls Tryz.prog F #[(blV x), .pointer (some ⟨c, 0, none⟩)] W fun e w' => e = .returned (.bool (g x)) ∧ Below W.heap.size W w' := fun W hW => hF.out x W (hPb.out _ _ _ hpx hW) (hbw.trans (hW.mono hbw.size))
      clear hpx hdx
      have gx : wr.rangeAt ba (offa + j * 17) (blC x) := fun i v hv => (hbw.cell (p := ⟨ba, offa + j * 17 + i, none⟩) hxlt).trans (hxc j x hx i v hv)
      obtain ⟨cl, hcl⟩ : ∃ cl, cl = blC x := ⟨_, rfl⟩
      have hV : blV x = .agg cl.toArray := by rw [hcl]; rfl
      have hci : (Tryz.prog.info? 60).map (·.size) = some cl.length := by rw [hcl, blC_len]; exact info_allB
      rw [← hcl] at gx
      rw [hV] at hcall
      have GX := Lib.hid gx
      have HCI := Lib.hid hci
      clear hx hxc hcl hV gx hci
      have hsz := hbw.size
      cases hbv : g x with
      | true =>
        have HR := Lib.hid (show (j : Int) = R by rw [← HD.out, fiO_yes hbv])
        rw [hbv] at hcall
        clear hbv
        replace hcall := Lib.hid hcall
        go_wp2_with (first | (go_loud (refine wpList_load_mid rfl 60 (.tmp 14) rfl ba (offa + j * 17) rfl cl _ GX.out Tryz.underlying60 rfl HCI.out ?_)) | (go_at_fn F; refine (hcall.out _ (Below.refl _ _)).mono ?_; rintro e w1 ⟨rfl, hb1⟩; have B1 := Lib.hid hb1; clear hb1))
        go_ret
        exact ⟨by rw [← HR.out]; rfl, hbw.trans (B1.out.mono hbw.size)⟩
      | false =>
        have HR := Lib.hid (show fiO g (la.drop (j + 1)) (j + 1) = R by rw [← HD.out, fiO_no hbv])
        rw [hbv] at hcall
        clear hbv
        replace hcall := Lib.hid hcall
        go_wp2_with (first | (go_loud (refine wpList_load_mid rfl 60 (.tmp 14) rfl ba (offa + j * 17) rfl cl _ GX.out Tryz.underlying60 rfl HCI.out ?_)) | (go_at_fn F; refine (hcall.out _ (Below.refl _ _)).mono ?_; rintro e w1 ⟨rfl, hb1⟩; have B1 := Lib.hid hb1; clear hb1))
        go_roundw
        case rel => exact ⟨j + 1, by omega, by go_num, HR.out, hbw.trans (B1.out.mono hbw.size)⟩
        case measure => simp [intOf]; omega
    · have t1 : decide ((j : Int) < la.length) = false := by simp; omega
      obtain rfl : j = la.length := by omega
      have HZ := Lib.hid (show (-1 : Int) = R by rw [← HS.out, List.drop_length]; rfl)
      go_wp2
      go_ret
      exact ⟨by rw [← HZ.out]; first | done | rfl, hbw⟩

set_option maxRecDepth 100000 in
set_option maxHeartbeats 4000000 in
theorem contB_any (F : Nat) (c : Nat) (hE : ∀ args w, (callFunc F args).run Tryz.prog w = .ok (.enter F args) w) (g : Bl → Bool) (P : World → Bl → Prop) (hPb : ∀ w w' x, P w x → Below w.heap.size w w' → P w' x)
    (w : World) (hF : ∀ x W, P W x → Below w.heap.size w W → Calls Tryz.prog F #[(blV x), .pointer (some ⟨c, 0, none⟩)] W fun e w' => e = .returned (.bool (g x)) ∧ Below W.heap.size W w')
    (ha : Hd) (la : List Bl) (hA : Row w ha 17 la blC (P w)) :
    Calls Tryz.prog 61 #[.slice ha.oa la.length ha.cap, .func (.func F) #[] #[.pointer (some ⟨c, 0, none⟩)]] w fun e w' => e = .returned (.bool (la.any g)) ∧ Below w.heap.size w w' := by
  have hc := idxB_any F c hE g P hPb w hF ha la hA
  obtain ⟨R, hR⟩ : ∃ R, R = fiO g la 0 := ⟨_, rfl⟩
  rw [← hR] at hc
  have HC := Lib.hid hc
  clear hc hF hPb hE
  have hs := fiO_spec (g := g) la 0
  rw [← hR] at hs
  rcases hs with ⟨h1, h2⟩ | ⟨i, x, h1, h2, h3, -⟩
  · have hz : la.any g = false := by
      rw [List.any_eq_false]
      intro x hx
      rw [h2 x hx]
      decide
    rw [hz]
    clear h2 hz hR hA
    rw [h1] at HC
    clear h1
    go_enter Tryz.func61, Tryz.ntmps61
    go_wp2_with (go_at_call 95; refine HC.out.mono ?_; rintro e w1 ⟨rfl, hb1⟩; have HB1 := Lib.hid hb1; clear hb1)
    go_ret
    exact ⟨rfl, HB1.out⟩
  · have hz : la.any g = true := by
      rw [List.any_eq_true]
      exact ⟨x, List.mem_of_getElem? h1, h2⟩
    rw [hz]
    obtain ⟨j, hj⟩ : ∃ j : Nat, 0 + i = j := ⟨_, rfl⟩
    rw [hj] at h3
    rw [h3] at HC
    have t1 : decide ((j : Int) ≥ 0) = true := by simp
    clear h1 h2 h3 hz hR hA hj
    go_enter Tryz.func61, Tryz.ntmps61
    go_wp2_with (go_at_call 95; refine HC.out.mono ?_; rintro e w1 ⟨rfl, hb1⟩; have HB1 := Lib.hid hb1; clear hb1)
    go_ret
    exact ⟨rfl, HB1.out⟩
theorem entersAllB : ∀ args w, (callFunc 62 args).run Tryz.prog w = .ok (.enter 62 args) w := enters_of Tryz.func62 (by kernel_rfl) rfl
set_option maxRecDepth 100000 in
set_option maxHeartbeats 4000000 in
theorem all1B_any (c v : Nat) (x : Bl) (gx : Bool) (w : World) (hc : w.cell? ⟨c, 0, none⟩ = some (.func (.func 37) #[.pointer (some ⟨v, 0, none⟩)] #[])) (hF : ∀ W, Below w.heap.size w W → Calls Tryz.prog 37 #[.pointer (some ⟨v, 0, none⟩), (blV x)] W fun e w' => e = .returned (.bool gx) ∧ Below W.heap.size W w') :
    Calls Tryz.prog 62 #[blV x, .pointer (some ⟨c, 0, none⟩)] w fun e w' => e = .returned (.bool !gx) ∧ Below w.heap.size w w' := by
  obtain ⟨cl, hcl⟩ : ∃ cl, cl = blC x := ⟨_, rfl⟩
  have hV : blV x = .agg cl.toArray := by rw [hcl]; rfl
  have hci : (Tryz.prog.info? 60).map (·.size) = some cl.length := by rw [hcl, blC_len]; exact info_allB
  rw [hV] at hF ⊢
  clear hcl hV
  obtain ⟨W1, hW⟩ : ∃ W, W = w.alloc (.cells cl.toArray 60) := ⟨_, rfl⟩
  have hb1 : Below w.heap.size w W1 := by rw [hW]; exact alloc_below _ _
  have GX := Lib.hid (show W1.rangeAt w.heap.size 0 cl by rw [hW]; exact rangeAt_box w cl _)
  have hc1 : W1.cell? ⟨c, 0, none⟩ = some (.func (.func 37) #[.pointer (some ⟨v, 0, none⟩)] #[]) := (hb1.cell (World.block_lt_of_cell? w _ hc)).trans hc
  have HF := Lib.hid (And.intro hb1 (hF W1 hb1))
  have HCI := Lib.hid hci
  clear hF hb1 hc hci
  go_enter Tryz.func62, Tryz.ntmps62
  go_upto_region 1 with fail
  rw [← hW]
  clear hW
  go_wp2_with
    (first
      | (go_loud (refine wpList_load_mid rfl 60 (.tmp 2) rfl w.heap.size 0 rfl cl _ GX.out Tryz.underlying60 rfl HCI.out ?_))
      | (go_loud (go_at_call 37; refine HF.out.2.mono ?_; rintro e w1 ⟨rfl, hb1⟩; have HB1 := Lib.hid hb1; clear hb1)))
  go_ret
  exact ⟨rfl, HF.out.1.trans (HB1.out.mono HF.out.1.size)⟩
set_option maxRecDepth 100000 in
set_option maxHeartbeats 4000000 in
theorem allB_any (v : Nat) (g : Bl → Bool) (P : World → Bl → Prop) (hPb : ∀ w w' x, P w x → Below w.heap.size w w' → P w' x)
    (w : World) (hF : ∀ x W, P W x → Below w.heap.size w W → Calls Tryz.prog 37 #[.pointer (some ⟨v, 0, none⟩), (blV x)] W fun e w' => e = .returned (.bool (g x)) ∧ Below W.heap.size W w')
    (ha : Hd) (la : List Bl) (hA : Row w ha 17 la blC (P w)) :
    Calls Tryz.prog 36 #[.slice ha.oa la.length ha.cap, (.func (.func 37) #[.pointer (some ⟨v, 0, none⟩)] #[])] w fun e w' => e = .returned (.bool (la.all g)) ∧ Below w.heap.size w w' := by
  obtain ⟨W1, hW⟩ : ∃ W, W = w.alloc (.cells #[(.func (.func 37) #[.pointer (some ⟨v, 0, none⟩)] #[])] 101) := ⟨_, rfl⟩
  have hb1 : Below w.heap.size w W1 := by rw [hW]; exact alloc_below _ _
  have hcx : W1.cell? ⟨w.heap.size, 0, none⟩ = some (.func (.func 37) #[.pointer (some ⟨v, 0, none⟩)] #[]) := by rw [hW]; exact new_cell _ _ _ rfl
  have hcon := contB_any 62 w.heap.size entersAllB (fun x => !g x) P hPb W1 (fun x W hP hW => all1B_any w.heap.size v x (g x) W ((hW.cell (World.block_lt_of_cell? _ _ hcx)).trans hcx) (fun V hV => hF x V (hPb _ _ _ hP hV) (hb1.trans ((hW.trans (hV.mono hW.size)).mono hb1.size)))) ha la (Row.below hA hb1 fun _ _ h => hPb _ _ _ h hb1)
  have hall : (!la.any fun x => !g x) = la.all g := by rw [List.not_any_eq_all_not]; simp
  rw [← hall]
  obtain ⟨R, hR⟩ : ∃ R, (la.any fun x => !g x) = R := ⟨_, rfl⟩
  rw [hR] at hcon ⊢
  have HC := Lib.hid (And.intro hb1 hcon)
  clear hF hPb hcon hb1 hcx hall hR hA
  go_enter Tryz.func36, Tryz.ntmps36
  go_upto_region 1 with fail
  rw [← hW]
  clear hW
  go_wp2_with (go_loud (go_at_call 61; refine HC.out.2.mono ?_; rintro e w1 ⟨rfl, hb1⟩; have HB1 := Lib.hid hb1; clear hb1))
  go_ret
  exact ⟨rfl, HC.out.1.trans (HB1.out.mono HC.out.1.size)⟩

end Go.Proofs.YtghkbihgdabamaaGreatDoor
