/-
  validStmt of tree: small lemmas, the two closures. Conditions: the statement lies in the heap.
-/
import Derived.Test.YtgogdcpgfmndnaaGreatDoorTValB
import Derived.Test.YtgogdcpgfmndnaaGreatDoorTBox2
import Derived.Test.YtgogdcpgfmndnaaGreatDoorTSameS
import Derived.Test.YtgogdcpgfmndnaaGreatDoorTAlls
namespace Go.Proofs.YtgogdcpgfmndnaaGreatDoor
open Go.RowKit

theorem splLen : ∀ (vs : List Value) (l : List Value) (o : Nat), (splL l o vs).length = l.length
  | [], _, _ => rfl
  | v :: vs, l, o => by rw [splL, splLen vs]; simp
theorem nilRow {α : Type} (w : World) (sz : Nat) (C : α → List Value) (P : α → Prop) : Row w z0 sz [] C P := ⟨Nat.le_refl _, Nat.zero_le _, fun h => absurd h (Nat.lt_irrefl _), fun _ h => by cases h⟩
theorem opZ_H (w : World) : OpH w opZ := ⟨⟨by decide, by decide⟩, plZ_H w⟩
theorem rvZ_H (w : World) : RvH w rvZ := ⟨⟨by decide, by decide⟩, nilRow _ _ _ _, plZ_H w⟩
theorem stZ_H (m : Nat) (k : Int) (hk : I64 k) (w : World) : StH (m + 1 + 1) w (stZ k) := ⟨hk, tyZ_H m w, plZ_H w, rvZ_H w, opZ_H w, nilRow _ _ _ _, nilRow _ _ _ _, nilRow _ _ _ _⟩
theorem StAr.same : ∀ (n : Nat), (∀ (x y : St5) (w : World), StH n w x → StH n w y → Calls Tryz.prog 98 #[stV x, stV y] w fun e w' => e = .returned (.bool (stEq x y)) ∧ Below w.heap.size w w') ∧
    (∀ (x y : Ar5) (w : World), ArH n w x → ArH n w y → Calls Tryz.prog 117 #[arV x, arV y] w fun e w' => e = .returned (.bool (arEq x y)) ∧ Below w.heap.size w w')
  | 0 => ⟨by intro _ _ _ h; unfold StH at h; exact h.elim, by intro _ _ _ h; unfold ArH at h; exact h.elim⟩
  | n + 1 => by
    obtain ⟨i1, i2⟩ := StAr.same n
    exact ⟨fun x y w hx hy => sameStmt_step n i1 i2 x y w hx hy, fun x y w hx hy => sameArm_step n i1 x y w hx hy⟩
theorem sameStmt_any (n : Nat) (x y : St5) (w : World) (hx : StH n w x) (hy : StH n w y) : Calls Tryz.prog 98 #[stV x, stV y] w fun e w' => e = .returned (.bool (stEq x y)) ∧ Below w.heap.size w w' := (StAr.same n).1 x y w hx hy
theorem enters127 (args : Array Value) (w : World) : (callFunc 127 args).run Tryz.prog w = .ok (.enter 127 args) w := Go.Proofs.enters_of Tryz.func127 (by kernel_rfl) rfl args w
theorem enters103 (args : Array Value) (w : World) : (callFunc 103 args).run Tryz.prog w = .ok (.enter 103 args) w := Go.Proofs.enters_of Tryz.func103 (by kernel_rfl) rfl args w

set_option maxRecDepth 100000 in
set_option maxHeartbeats 2000000 in
theorem clos127 (d : Nat) (hd : d ≤ 60) (x : Ar5) (bd : Nat) (w : World) (hc : w.cell? ⟨bd, 0, none⟩ = some (.int .i64 d))
    (hcall : ∀ W, Below w.heap.size w W → Calls Tryz.prog 128 #[arV x, .int .i64 ((d + 1 : Nat) : Int)] W fun e w' => e = .returned (.bool (arOk (d + 1) x)) ∧ Below W.heap.size W w') :
    Calls Tryz.prog 127 #[arV x, .pointer (some ⟨bd, 0, none⟩)] w fun e w' => e = .returned (.bool (arOk (d + 1) x)) ∧ Below w.heap.size w w' := by
  obtain ⟨av, ab, ah, ay⟩ := x
  have hlt := World.block_lt_of_cell? w _ hc
  have hne : bd ≠ w.heap.size := by simp at hlt; omega
  have hb := alloc_below w (.cells #[.string av, .string ab, .slice ah.oa ay.length ah.cap] 107)
  have hc2 := (hb.cell (p := ⟨bd, 0, none⟩) hlt).trans hc
  have e1 : ((d + 1 : Nat) : Int) = (d : Int) + 1 := by omega
  rw [e1] at hcall
  simp only [arV, arC] at hcall ⊢
  obtain ⟨R, hR⟩ : ∃ R, R = arOk (d + 1) (.mk av ab ah ay) := ⟨_, rfl⟩
  rw [← hR] at hcall ⊢
  replace hcall := Lib.hid hcall
  have HB := Lib.hid hb
  clear hR hb e1
  go_enter Tryz.func127, Tryz.ntmps127
  go_wp2_with (go_at_call 128; refine (hcall.out _ HB.out).mono ?_; rintro e w1 ⟨rfl, hb1⟩; have B1 := Lib.hid (HB.out.trans (hb1.mono HB.out.size)); clear hb1)
  go_ret
  exact ⟨by first | done | rfl, B1.out⟩

set_option maxRecDepth 100000 in
set_option maxHeartbeats 2000000 in
theorem clos103 (d : Nat) (x : St5) (bd : Nat) (w : World) (hc : w.cell? ⟨bd, 0, none⟩ = some (.int .i64 d))
    (hcall : ∀ W, Below w.heap.size w W → Calls Tryz.prog 104 #[stV x, .int .i64 d] W fun e w' => e = .returned (.bool (stOk d x)) ∧ Below W.heap.size W w') :
    Calls Tryz.prog 103 #[stV x, .pointer (some ⟨bd, 0, none⟩)] w fun e w' => e = .returned (.bool (stOk d x)) ∧ Below w.heap.size w w' := by
  have hlt := World.block_lt_of_cell? w _ hc
  have hne : bd ≠ w.heap.size := by simp at hlt; omega
  have hb := alloc_below w (.cells (stC x).toArray 52)
  have hc2 := (hb.cell (p := ⟨bd, 0, none⟩) hlt).trans hc
  have hr := Lib.hid (rangeAt_box w (stC x) 52)
  simp only [stV] at hcall ⊢
  obtain ⟨R, hR⟩ : ∃ R, R = stOk d x := ⟨_, rfl⟩
  rw [← hR] at hcall ⊢
  replace hcall := Lib.hid hcall
  have HB := Lib.hid hb
  clear hR hb
  go_enter Tryz.func103, Tryz.ntmps103
  go_wp2_with (first
    | (refine wpList_load_mid rfl 52 (.tmp 2) rfl w.heap.size 0 rfl (stC x) _ hr.out Tryz.underlying52 rfl (stC_info x) ?_)
    | (go_at_call 104; refine (hcall.out _ HB.out).mono ?_; rintro e w1 ⟨rfl, hb1⟩; have B1 := Lib.hid (HB.out.trans (hb1.mono HB.out.size)); clear hb1))
  go_ret
  exact ⟨by first | done | rfl, B1.out⟩
theorem stOk_0 (d : Nat) (sp1 : Int) (sn1 : ByteArray) (ty : Ty5) (p : Pl5) (rv : Rv5) (op : Op5) (ht1 : Hd) (th1 : List St5) (he1 : Hd) (el1 : List St5) (ha1 : Hd) (ar1 : List Ar5) : stOk d (.mk 0 sp1 sn1 ty p rv op ht1 th1 he1 el1 ha1 ar1) = ((smallN sn1) && (tyOk 60 ty) && (rvOk rv) && stEq (.mk 0 sp1 ⟨#[]⟩ tyZ p rvZ op ht1 th1 he1 el1 ha1 ar1) (stZ 0)) := by
  rw [stOk, if_pos (by decide)]
theorem stOk_1 (d : Nat) (sp1 : Int) (sn1 : ByteArray) (ty : Ty5) (p : Pl5) (rv : Rv5) (op : Op5) (ht1 : Hd) (th1 : List St5) (he1 : Hd) (el1 : List St5) (ha1 : Hd) (ar1 : List Ar5) : stOk d (.mk 1 sp1 sn1 ty p rv op ht1 th1 he1 el1 ha1 ar1) = ((plOk p) && (rvOk rv) && stEq (.mk 1 sp1 sn1 ty plZ rvZ op ht1 th1 he1 el1 ha1 ar1) (stZ 1)) := by
  rw [stOk, if_neg (by decide), if_pos (by decide)]
theorem stOk_2 (d : Nat) (sp1 : Int) (sn1 : ByteArray) (ty : Ty5) (p : Pl5) (rv : Rv5) (op : Op5) (ht1 : Hd) (th1 : List St5) (he1 : Hd) (el1 : List St5) (ha1 : Hd) (ar1 : List Ar5) : stOk d (.mk 2 sp1 sn1 ty p rv op ht1 th1 he1 el1 ha1 ar1) = ((opOk op) && (rowOk (d + 1) th1) && (rowOk (d + 1) el1) && stEq (.mk 2 sp1 sn1 ty p rv opZ z0 [] z0 [] ha1 ar1) (stZ 2)) := by
  rw [stOk, if_neg (by decide), if_neg (by decide), if_pos (by decide), rowOk_eq, rowOk_eq]
theorem stOk_3 (d : Nat) (sp1 : Int) (sn1 : ByteArray) (ty : Ty5) (p : Pl5) (rv : Rv5) (op : Op5) (ht1 : Hd) (th1 : List St5) (he1 : Hd) (el1 : List St5) (ha1 : Hd) (ar1 : List Ar5) : stOk d (.mk 3 sp1 sn1 ty p rv op ht1 th1 he1 el1 ha1 ar1) = ((opOk op) && (rowOk (d + 1) th1) && stEq (.mk 3 sp1 sn1 ty p rv opZ z0 [] he1 el1 ha1 ar1) (stZ 3)) := by
  rw [stOk, if_neg (by decide), if_neg (by decide), if_neg (by decide), if_pos (by decide), rowOk_eq]
theorem stOk_4 (d : Nat) (sp1 : Int) (sn1 : ByteArray) (ty : Ty5) (p : Pl5) (rv : Rv5) (op : Op5) (ht1 : Hd) (th1 : List St5) (he1 : Hd) (el1 : List St5) (ha1 : Hd) (ar1 : List Ar5) : stOk d (.mk 4 sp1 sn1 ty p rv op ht1 th1 he1 el1 ha1 ar1) = ((aloneB p) && (ar1.all (arOk (d + 1))) && stEq (.mk 4 sp1 sn1 ty plZ rv op ht1 th1 he1 el1 z0 []) (stZ 4)) := by
  rw [stOk, if_neg (by decide), if_neg (by decide), if_neg (by decide), if_neg (by decide), if_pos (by decide), armsOk_eq]
theorem stOk_5 (d : Nat) (sp1 : Int) (sn1 : ByteArray) (ty : Ty5) (p : Pl5) (rv : Rv5) (op : Op5) (ht1 : Hd) (th1 : List St5) (he1 : Hd) (el1 : List St5) (ha1 : Hd) (ar1 : List Ar5) : stOk d (.mk 5 sp1 sn1 ty p rv op ht1 th1 he1 el1 ha1 ar1) = ((opOk op) && stEq (.mk 5 sp1 sn1 ty p rv opZ ht1 th1 he1 el1 ha1 ar1) (stZ 5)) := by
  rw [stOk, if_neg (by decide), if_neg (by decide), if_neg (by decide), if_neg (by decide), if_neg (by decide), if_pos (by decide)]
theorem stOk_6 (d : Nat) (sp1 : Int) (sn1 : ByteArray) (ty : Ty5) (p : Pl5) (rv : Rv5) (op : Op5) (ht1 : Hd) (th1 : List St5) (he1 : Hd) (el1 : List St5) (ha1 : Hd) (ar1 : List Ar5) : stOk d (.mk 6 sp1 sn1 ty p rv op ht1 th1 he1 el1 ha1 ar1) = ((opOk op) && stEq (.mk 6 sp1 sn1 ty p rv opZ ht1 th1 he1 el1 ha1 ar1) (stZ 6)) := by
  rw [stOk, if_neg (by decide), if_neg (by decide), if_neg (by decide), if_neg (by decide), if_neg (by decide), if_pos (by decide)]
theorem stOk_7 (d : Nat) (sp1 : Int) (sn1 : ByteArray) (ty : Ty5) (p : Pl5) (rv : Rv5) (op : Op5) (ht1 : Hd) (th1 : List St5) (he1 : Hd) (el1 : List St5) (ha1 : Hd) (ar1 : List Ar5) : stOk d (.mk 7 sp1 sn1 ty p rv op ht1 th1 he1 el1 ha1 ar1) = ((opOk op) && stEq (.mk 7 sp1 sn1 ty p rv opZ ht1 th1 he1 el1 ha1 ar1) (stZ 7)) := by
  rw [stOk, if_neg (by decide), if_neg (by decide), if_neg (by decide), if_neg (by decide), if_neg (by decide), if_pos (by decide)]
theorem stOk_8 (d : Nat) (sp1 : Int) (sn1 : ByteArray) (ty : Ty5) (p : Pl5) (rv : Rv5) (op : Op5) (ht1 : Hd) (th1 : List St5) (he1 : Hd) (el1 : List St5) (ha1 : Hd) (ar1 : List Ar5) : stOk d (.mk 8 sp1 sn1 ty p rv op ht1 th1 he1 el1 ha1 ar1) = ((aloneB p) && stEq (.mk 8 sp1 sn1 ty plZ rv op ht1 th1 he1 el1 ha1 ar1) (stZ 8)) := by
  rw [stOk, if_neg (by decide), if_neg (by decide), if_neg (by decide), if_neg (by decide), if_neg (by decide), if_neg (by decide), if_pos (by decide)]

end Go.Proofs.YtgogdcpgfmndnaaGreatDoor
