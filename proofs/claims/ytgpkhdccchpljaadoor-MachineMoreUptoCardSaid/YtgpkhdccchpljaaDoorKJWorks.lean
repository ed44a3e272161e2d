/-
  Several texts of the proof in one: KToldLive, KWorkL, KWorks. No conditions of their own: each lemma states its own.
-/
import Derived.Test.YtgpkhdccchpljaaDoorKJMac
import Derived.Test.YtgpkhdccchpljaaDoorKJStepped
import Derived.Test.YtgpkhdccchpljaaDoorKJTinyV
namespace Go.Proofs.YtgpkhdccchpljaaDoor
open Go.RowKit
open M (Wd MS RepAt Owned Kept Turned loadR storeR copyR clearR freeR allocR)
open C (In)

set_option maxRecDepth 100000 in
set_option maxHeartbeats 4000000 in
theorem told_any {w0 w : World} {L : Ly} {c : Cx} {S : MS} {told : List Ev} (H : MacAt w0 w L c S told) :
    Calls Tryd.prog 13 #[.pointer (some ⟨L.mc, 0, none⟩)] w fun e w' => e = .returned L.tv ∧ MTurns w0 w w' L c S c S [] ∧ w'.ownsRow w0.heap.size 80 4 L.tv told.length (told.flatMap evC) := by
  obtain ⟨fv, cv, hm, hP⟩ := H.mach
  obtain ⟨m0, m1, m2, m3, m4, mf, ml⟩ := cells5 hm
  obtain ⟨tv, htv⟩ : ∃ tv, L.tv = tv := ⟨_, rfl⟩
  rw [htv] at m4 ⊢
  have hto := H.told
  rw [htv] at hto
  have hne : ∀ b, tv.ownBlock = some b → b ≠ L.mc := fun b hb e => by
    obtain ⟨_, h1⟩ := own_blk hto hb
    rw [e, hm] at h1; simp at h1
  have hrow : (w.setCell ⟨L.mc, 4, none⟩ (.slice none 0 0)).ownsRow w0.heap.size 80 4 tv told.length (told.flatMap evC) := own_keep hto fun b hb => Below.heap_setCell _ _ _ _ (hne b hb)
  have hm' : (w.setCell ⟨L.mc, 4, none⟩ (.slice none 0 0)).heap[L.mc]? = some (.cells #[fv, cv, .pointer (some ⟨L.mb, 0, none⟩), .map L.em, .slice none 0 0] 62) := by
    rw [heap_setCell_same w L.mc 4 _ 62 _ hm]
    simp
  have hk : ∀ b, b ≠ L.mc → (w.setCell ⟨L.mc, 4, none⟩ (.slice none 0 0)).heap[b]? = w.heap[b]? := fun b hb => Below.heap_setCell _ _ _ _ hb
  have hT : MTurns w0 w (w.setCell ⟨L.mc, 4, none⟩ (.slice none 0 0)) L c S c S [] := by
    refine ⟨{ L with tv := .slice none 0 0 }, rfl, ⟨⟨fv, cv, hm', hP⟩, H.mem.keep fun b hb => hk b (fun e => not_owned H.mem (by decide) hm (e ▸ hb)), ⟨rfl, .inl ⟨rfl, rfl⟩⟩, H.below.next (by simp [World.setCell]) fun b _ hf => hk b (fun e => hf (e ▸ H.own _ (.inl rfl))), ?_, H.apart, H.evs.1, fun b hb => ?_⟩, ?_, ⟨rfl, rfl, rfl, by simp [World.setCell], fun b _ hn => hk b (fun e => hn (.inl e))⟩⟩
    · rintro b (e | e | e | e)
      · exact H.own b (.inl e)
      · exact H.own b (.inr (.inl e))
      · exact H.own b (.inr (.inr (.inl e)))
      · cases e
    · obtain ⟨D, ⟨es, clock, h5, h6⟩, h7⟩ := H.evs.2 b hb
      exact ⟨D, ⟨es, clock, (hk b (fun e => by rw [e, hm] at h5; cases h5)).trans h5, h6⟩, h7⟩
    · rintro b (e | e | e | e)
      · exact .inl (.inl e)
      · exact .inl (.inr (.inl e))
      · exact .inl (.inr (.inr (.inl e)))
      · cases e
  have HT := Lib.hid (And.intro hT hrow)
  obtain ⟨oat, n, capt, rfl⟩ : ∃ oat n capt, tv = .slice oat n capt := by
    rcases hto.2 with ⟨rfl, h0⟩ | ⟨g, cap, cur, rfl, -⟩
    · exact ⟨_, _, _, rfl⟩
    · exact ⟨_, _, _, rfl⟩
  clear hT hrow hk hm' hne hto hm hP H htv
  go_enter Tryd.func13, Tryd.ntmps13
  go_wp2
  go_ret
  exact ⟨rfl, HT.out.1, HT.out.2⟩

set_option maxRecDepth 100000 in
set_option maxHeartbeats 4000000 in
theorem live_any {w0 w : World} {L : Ly} {c : Cx} {S : MS} {told : List Ev} (H : MacAt w0 w L c S told) :
    Calls Tryd.prog 15 #[.pointer (some ⟨L.mc, 0, none⟩)] w fun e w' => e = .returned (.int .i64 S.live) ∧ w' = w := by
  obtain ⟨fv, cv, hm, hP⟩ := H.mach
  obtain ⟨m0, m1, m2, m3, m4, mf, ml⟩ := cells5 hm
  have HM := Lib.hid H.mem
  clear H hm hP
  go_enter Tryd.func15, Tryd.ntmps15
  go_wp2_with
    (first
      | (go_at_call 21; refine (orEmpty_any L.mc _).mono ?_; rintro e W1 ⟨rfl, rfl⟩)
      | (go_at_call 30; refine (M.live_any HM.out).mono ?_; rintro e W1 ⟨rfl, rfl⟩))
  go_ret
  exact ⟨rfl, rfl⟩
end Go.Proofs.YtgpkhdccchpljaaDoor

namespace Go.Proofs.YtgpkhdccchpljaaDoor
open Go.RowKit
open M (Wd MS RepAt Owned Kept Turned loadR storeR copyR clearR freeR allocR)
open C (In Cr Pg PgOk)

/-- a machine, all of whose blocks lie from B on; below B all is as in wS -/
def MSt (B : Nat) (w0 wS w : World) (mc : Nat) (c : Cx) (S : MS) (told : List Ev) : Prop := ∃ L, L.mc = mc ∧ MacAt w0 w L c S told ∧ (∀ b, MOwn L S b → B ≤ b) ∧ Below B wS w ∧ B ≤ wS.heap.size
theorem below_kept {O : Nat → Prop} {w w' : World} {B : Nat} (hk : Kept O w w') (hO : ∀ b, O b → B ≤ b) (hB : B ≤ w.heap.size) : Below B w w' :=
  ⟨hk.os, hk.tape, hk.output, hk.size, fun b hb => hk.block b (by omega) fun h => by have := hO b h; omega⟩
theorem MSt.step {B : Nat} {w0 wS w w' : World} {c c' : Cx} {S S' : MS} {told' : List Ev} {L : Ly} (hO : ∀ b, MOwn L S b → B ≤ b) (hb : Below B wS w) (hB : B ≤ wS.heap.size) (h : MTurns w0 w w' L c S c' S' told') : MSt B w0 wS w' L.mc c' S' told' := by
  obtain ⟨L1, e1, h1, h2, h3⟩ := h
  have hBw : B ≤ w.heap.size := Nat.le_trans hB hb.size
  refine ⟨L1, e1, h1, fun b hb' => ?_, hb.trans (below_kept h3 hO hBw), hB⟩
  rcases h2 b hb' with h5 | h5
  · exact hO b h5
  · omega
theorem MSt.below {B : Nat} {w0 wS w w' : World} {mc : Nat} {c : Cx} {S : MS} {told : List Ev} (h : MSt B w0 wS w mc c S told) (hb : Below w.heap.size w w') : MSt B w0 wS w' mc c S told := by
  obtain ⟨L, e, h1, h2, h3, h4⟩ := h
  exact ⟨L, e, h1.under hb, h2, h3.trans (hb.mono (Nat.le_trans h4 h3.size)), h4⟩

def tC : Cx := ⟨tinyP, [], 1⟩
def tY : Wd := ⟨true, 1, 0⟩
def tS1 : MS := (startR tinyP ⟨9, []⟩ 0 []).2
def tQ1 : Out × Se := goOnR tinyP ⟨tS1, [], 50, []⟩ tY
def tZ1 : Out × Se := thrN tC 30 tQ1
def tQ2 : Out × Se := goOnR tinyP ⟨tZ1.2.S, tZ1.2.told, 50, []⟩ tY
def tZ2 : Out × Se := thrN tC 30 tQ2
def tQ3 : Out × Se := undoR tinyP ⟨tZ2.2.S, tZ2.2.told, 50, []⟩ tY
def tZ3 : Out × Se := thrN tC 30 tQ3
theorem t_start : startR tinyP ⟨9, []⟩ 0 [] = ((tY, ⟨2, 0⟩), tS1) := by kernel_rfl
theorem t_z1 : thr1 tC tZ1 = none := by kernel_rfl
theorem t_z2 : thr1 tC tZ2 = none := by kernel_rfl
theorem t_z3 : thr1 tC tZ3 = none := by kernel_rfl
theorem t_o1 : pollO tY tZ1 = ⟨0, 7⟩ := by kernel_rfl
theorem t_f1 : tZ1.2.fuel = 43 := by kernel_rfl
theorem t_o2 : pollO tY tZ2 = ⟨2, 8⟩ := by kernel_rfl
theorem t_o3 : (cancelO tY tZ3).1 = ⟨2, 0⟩ := by kernel_rfl
theorem t_l3 : (cancelO tY tZ3).2.live = 0 := by kernel_rfl
theorem t_told : tZ1.2.told.length = 0 ∧ tZ2.2.told.length = 0 := ⟨by kernel_rfl, by kernel_rfl⟩
theorem t_len : tS1.blocks.length = 1 ∧ tZ1.2.S.blocks.length = 1 ∧ tZ2.2.S.blocks.length = 1 := ⟨by kernel_rfl, by kernel_rfl, by kernel_rfl⟩
theorem t_mem1 : MemOk tS1 := by
  have h := frame_ok tinyP (S := ⟨9, []⟩) (fun l hl => by cases hl) 0 inR_0 [] (fun n hn => by cases hn)
  have e : tS1 = (frameR tinyP ⟨9, []⟩ 0 []).2 := by kernel_rfl
  rw [e]
  exact h.1
end Go.Proofs.YtgpkhdccchpljaaDoor

namespace Go.Proofs.YtgpkhdccchpljaaDoor
open Go.RowKit
open M (Wd MS RepAt Owned Kept Turned loadR storeR copyR clearR freeR allocR)
open C (In Cr Pg PgOk)

theorem MSt.loc {_B : Nat} {w0 _wS w w' : World} {L : Ly} {c c' : Cx} {S S' : MS} {told told' : List Ev} (H : MacAt w0 w L c S told) (h : MTurns w0 w w' L c S c' S' told') {b : Nat} {a0 a1 : Value} (hb : w.heap[b]? = some (.cells #[a0, a1] 41)) : w'.heap[b]? = some (.cells #[a0, a1] 41) := h.local H (t := 41) (by unfold Loc; decide) hb

theorem poll_t {w0 w w' : World} {L : Ly} {S : MS} {told : List Ev} {x : Wd} {K : Nat} {fuel : Int} {e : Ending} (h : PollPost K w0 w L tC S told x fuel e w') {z0 : Out × Se} (hz : Thr tC (goOnR tinyP ⟨S, told, fuel, []⟩ x) z0) : e = .returned (.tuple #[outV (pollO x z0), .int .i64 z0.2.fuel]) ∧ MTurns w0 w w' L tC S tC z0.2.S z0.2.told ∧ MemOk z0.2.S := by
  obtain ⟨z, h1, h2, h3, h4⟩ := h
  have := Thr.det h1 hz
  subst this
  exact ⟨h3, h4, h2.mem⟩
theorem cancel_t {w0 w w' : World} {L : Ly} {S : MS} {told : List Ev} {x : Wd} {K : Nat} {fuel : Int} {e : Ending} (h : CancelPost K w0 w L tC S told x fuel e w') {z0 : Out × Se} (hz : Thr tC (undoR tinyP ⟨S, told, fuel, []⟩ x) z0) : e = .returned (.tuple #[outV (cancelO x z0).1, .int .i64 z0.2.fuel]) ∧ MTurns w0 w w' L tC S tC (cancelO x z0).2 z0.2.told := by
  obtain ⟨z, h1, h2, h3, h4⟩ := h
  have := Thr.det h1 hz
  subst this
  exact ⟨h3, h4⟩

theorem thr_keeps {c : Cx} (hc : CxOk c) {K : Nat} {q z : Out × Se} (h : Thr c q z) : Inv c K q → Inv c K z := by
  induction h with
  | done _ => exact id
  | next h1 _ ih => exact fun hi => ih (thr_inv hc _ _ hi h1).1
theorem t_mem2 : MemOk tZ1.2.S := by
  have h0 : Inv tC (tS1.blocks.length + 1 + (50 : Int).toNat) tQ1 := inv_fine (fine_goOn (tiny_cx 1) (s1 := ⟨tS1, [], 50, []⟩) (rs := []) (x := tY) inR_0 t_mem1 (Nat.zero_le _) (fun _ h => by cases h)) (by decide) (by decide) (by rw [t_len.1]; decide)
  exact (thr_keeps (tiny_cx 1) (thr_thrN tC 30 _ t_z1) h0).mem
theorem t_mem3 : MemOk tZ2.2.S := by
  have h0 : Inv tC (tZ1.2.S.blocks.length + 1 + (50 : Int).toNat) tQ2 := inv_fine (fine_goOn (tiny_cx 1) (s1 := ⟨tZ1.2.S, tZ1.2.told, 50, []⟩) (rs := []) (x := tY) inR_0 t_mem2 (Nat.zero_le _) (fun _ h => by cases h)) (by decide) (by rw [t_told.1]; decide) (by rw [t_len.2.1]; decide)
  exact (thr_keeps (tiny_cx 1) (thr_thrN tC 30 _ t_z2) h0).mem
set_option maxRecDepth 100000 in
set_option maxHeartbeats 8000000 in
theorem works_any (w : World) (hT : C.TabAt w) : Calls Tryd.prog 5 #[] w fun e w' => e = .returned (.bool true) ∧ Below w.heap.size w w' := by
  have HT := Lib.hid hT
  clear hT
  obtain ⟨B, hB⟩ : ∃ B, B = w.heap.size := ⟨_, rfl⟩
  have HB := Lib.hid hB
  have htl := HT.out.lt
  have hnew := Lib.hid (fun (w1 : World) (v1 v2 : Value) (hb : Below w.heap.size w w1) (hP : C.PgV w1 v1 v2 tinyP) => new_any hP tiny_lab.1 (HT.out.below hb htl) tiny_lab.2.1 9 1)
  have hti := Lib.hid (tiny_any w)
  clear hB htl
  go_enter Tryd.func5, Tryd.ntmps5
  go_upto_region 2 with
    (first
      | (go_at_call 17; refine hti.out.mono ?_; rintro e w1 ⟨v1, v2, rfl, hP1, hb1⟩; have hsh : ∃ o1 n1 c1 o2 n2 c2, v1 = .slice o1 n1 c1 ∧ v2 = .slice o2 n2 c2 := (by obtain ⟨⟨o1, c1, _, _, rfl, _⟩, o2, c2, _, _, rfl, _⟩ := hP1; exact ⟨_, _, _, _, _, _, rfl, rfl⟩); obtain ⟨o1, n1, c1, o2, n2, c2, rfl, rfl⟩ := hsh; have hn1 := Lib.hid (hnew.out w1 _ _ hb1 hP1); have HB1 := Lib.hid hb1; clear hP1 hb1)
      | (go_at_call 7; refine hn1.out.mono ?_; rintro e w2 ⟨hb2, hne⟩; have hne2 : ∃ w0 mc mb, e = .returned (.tuple #[.pointer (some ⟨mc, 0, none⟩), .int .i64 0]) ∧ MacAt w0 w2 (newL mc mb) tC ⟨9, []⟩ [] ∧ w1.heap.size ≤ mc ∧ w1.heap.size ≤ mb := (by rcases hne with ⟨h, _⟩ | ⟨_, w0, mc, mb, h1, h2, h3, h4, _⟩; exact absurd tiny_ok h; exact ⟨w0, mc, mb, h1, h2, h3, h4⟩); clear hne; obtain ⟨w0, mc, mb, rfl, hM2, hmc, hmb⟩ := hne2; have HM2 := Lib.hid (And.intro hM2 (And.intro hmc (And.intro hmb hb2))); clear hM2 hmc hmb hb2))
  have hS2 : Hid (MSt w.heap.size w0 w w2 mc tC ⟨9, []⟩ []) := Lib.hid (by
    obtain ⟨h1, h2, h3, h4⟩ := HM2.out
    have h5 := HB1.out.size
    refine ⟨_, rfl, h1, ?_, HB1.out.trans (h4.mono h5), Nat.le_refl _⟩
    rintro b (e | e | e | e)
    · rw [e]; exact Nat.le_trans h5 h2
    · rcases e with e | e | ⟨k, l, hk, _⟩
      · rw [e]; exact Nat.le_trans h5 h3
      · cases e
      · simp [MS.at] at hk
    · cases e
    · cases e)
  clear HM2 hnew hti hn1
  obtain ⟨L2, e2, H2, hO2, hB2, -⟩ := hS2.out
  have hst := start_any H2 (by decide) 0 none 0 [] (fun w' _ => ints_nil w') tY ⟨2, 0⟩ tS1 t_start
  rw [e2, show tY = ⟨true, 1, 0⟩ from rfl, show outV ⟨2, 0⟩ = .agg #[.int .i64 2, .int .i64 0] from rfl] at hst
  simp only [List.length_nil] at hst
  have HST := Lib.hid hst
  have HX2 := Lib.hid (And.intro H2 (And.intro hO2 (And.intro hB2 e2)))
  clear hst H2 hO2 hB2 e2
  go_upto_region 5 with (go_at_call 8; refine HST.out.mono ?_; rintro e w3 ⟨rfl, hT3⟩; have HT3 := Lib.hid hT3; clear hT3)
  have HMZ1 : Hid (MemOk tZ1.2.S) := Lib.hid t_mem2
  have HMZ2 : Hid (MemOk tZ2.2.S) := Lib.hid t_mem3
  have hS3 := MSt.step HX2.out.2.1 HX2.out.2.2.1 (Nat.le_refl _) HT3.out
  rw [HX2.out.2.2.2] at hS3
  obtain ⟨hb4, hy4, hx4⟩ := al2 w3 (.cells #[.bool true, .int .i64 1, .int .i64 0] 38) (.cells #[.int .i64 2, .int .i64 0] 41)
  have hS4 := Lib.hid (hS3.below hb4)
  clear hS3 hb4 HX2 HT3 HST hS2
  generalize (w3.alloc (.cells #[.bool true, .int .i64 1, .int .i64 0] 38)).alloc (.cells #[.int .i64 2, .int .i64 0] 41) = W4 at hy4 hx4 hS4 ⊢
  generalize w3.heap.size = k at hy4 hx4 ⊢
  obtain ⟨y0, y1, y2, yf, yl⟩ := cells3 hy4
  have HY4 := Lib.hid hy4
  have HX4 := Lib.hid hx4
  clear hy4 hx4
  obtain ⟨La1, ea1, Ha1, hOa1, hBa1, -⟩ := hS4.out
  have hp1 : Calls Tryd.prog 9 #[.pointer (some ⟨mc, 0, none⟩), .agg #[.bool true, .int .i64 1, .int .i64 0], .int .i64 1, .int .i64 50] W4 fun e w' => e = .returned (.tuple #[.agg #[.int .i64 0, .int .i64 7], .int .i64 43]) ∧ MTurns w0 W4 w' La1 tC tS1 tC tZ1.2.S tZ1.2.told := by
    have h := poll_any (tiny_cx 1) Ha1 t_mem1 (by show ([] : List Ev).length ≤ 80000000; decide) 50 (by decide) (by rw [t_len.1]; decide) tY inR_0
    rw [ea1] at h
    refine Calls.mono h fun e w' hh => ?_
    have h2 := poll_t hh (thr_thrN tC 30 _ t_z1)
    refine ⟨h2.1.trans (by show Ending.returned (.tuple #[outV (pollO tY tZ1), .int .i64 tZ1.2.fuel]) = _; rw [t_o1, t_f1]; rfl), h2.2.1⟩
  have HP1 := Lib.hid hp1
  have HX1 := Lib.hid (And.intro Ha1 (And.intro hOa1 (And.intro hBa1 ea1)))
  clear hp1 Ha1 hOa1 hBa1 ea1
  go_upto_region 6 with (go_at_call 9; refine HP1.out.mono ?_; rintro e w5 ⟨rfl, hT⟩; have HT1 := Lib.hid hT; clear hT)
  have hS := MSt.step HX1.out.2.1 HX1.out.2.2.1 (Nat.le_refl _) HT1.out
  rw [HX1.out.2.2.2] at hS
  have hbn : Below w5.heap.size w5 (w5.alloc (.cells #[.int .i64 0, .int .i64 7] 41)) := C.alloc_below _ _
  have hyn : (w5.alloc (.cells #[.int .i64 0, .int .i64 7] 41)).heap[w5.heap.size]? = some (.cells #[.int .i64 0, .int .i64 7] 41) := heap_alloc_new _ _
  have hS6 := Lib.hid (hS.below hbn)
  have hHY4' := keepB7 (HT1.out.local HX1.out.1 (t := 38) (by unfold Loc; decide) HY4.out) hbn
  have hHX4' := keepB7 (HT1.out.local HX1.out.1 (t := 41) (by unfold Loc; decide) HX4.out) hbn
  clear hS hbn y0 y1 y2 yf yl HX1 HP1
  generalize w5.alloc (.cells #[.int .i64 0, .int .i64 7] 41) = W6 at hyn hS6 hHY4' hHX4' ⊢
  generalize w5.heap.size = k1 at hyn ⊢
  have HR1 := Lib.hid hyn
  clear hyn
  have HY4n := Lib.hid hHY4'
  clear hHY4'
  have HX4n := Lib.hid hHX4'
  clear hHX4'
  clear HY4 HX4 HT1
  have HY4 := HY4n
  clear HY4n
  have HX4 := HX4n
  clear HX4n
  obtain ⟨y0, y1, y2, yf, yl⟩ := cells3 HY4.out
  obtain ⟨La2, ea2, Ha2, hOa2, hBa2, -⟩ := hS6.out
  have hp2 : Calls Tryd.prog 9 #[.pointer (some ⟨mc, 0, none⟩), .agg #[.bool true, .int .i64 1, .int .i64 0], .int .i64 1, .int .i64 50] W6 fun e w' => e = .returned (.tuple #[.agg #[.int .i64 2, .int .i64 8], .int .i64 tZ2.2.fuel]) ∧ MTurns w0 W6 w' La2 tC tZ1.2.S tC tZ2.2.S tZ2.2.told := by
    have h := poll_any (tiny_cx 1) Ha2 HMZ1.out (by rw [t_told.1]; decide) 50 (by decide) (by rw [t_len.2.1]; decide) tY inR_0
    rw [ea2] at h
    refine Calls.mono h fun e w' hh => ?_
    have h2 := poll_t hh (thr_thrN tC 30 _ t_z2)
    refine ⟨h2.1.trans (by show Ending.returned (.tuple #[outV (pollO tY tZ2), .int .i64 tZ2.2.fuel]) = _; rw [t_o2]; rfl), h2.2.1⟩
  have HP2 := Lib.hid hp2
  have HX2 := Lib.hid (And.intro Ha2 (And.intro hOa2 (And.intro hBa2 ea2)))
  clear hp2 Ha2 hOa2 hBa2 ea2
  go_upto_region 7 with (go_at_call 9; refine HP2.out.mono ?_; rintro e w7 ⟨rfl, hT⟩; have HT2 := Lib.hid hT; clear hT)
  have hS := MSt.step HX2.out.2.1 HX2.out.2.2.1 (Nat.le_refl _) HT2.out
  rw [HX2.out.2.2.2] at hS
  have hbn : Below w7.heap.size w7 (w7.alloc (.cells #[.int .i64 2, .int .i64 8] 41)) := C.alloc_below _ _
  have hyn : (w7.alloc (.cells #[.int .i64 2, .int .i64 8] 41)).heap[w7.heap.size]? = some (.cells #[.int .i64 2, .int .i64 8] 41) := heap_alloc_new _ _
  have hS8 := Lib.hid (hS.below hbn)
  have hHY4' := keepB7 (HT2.out.local HX2.out.1 (t := 38) (by unfold Loc; decide) HY4.out) hbn
  have hHX4' := keepB7 (HT2.out.local HX2.out.1 (t := 41) (by unfold Loc; decide) HX4.out) hbn
  have hHR1' := keepB7 (HT2.out.local HX2.out.1 (t := 41) (by unfold Loc; decide) HR1.out) hbn
  clear hS hbn y0 y1 y2 yf yl HX2 HP2
  generalize w7.alloc (.cells #[.int .i64 2, .int .i64 8] 41) = W8 at hyn hS8 hHY4' hHX4' hHR1' ⊢
  generalize w7.heap.size = k2 at hyn ⊢
  have HR2 := Lib.hid hyn
  clear hyn
  have HY4n := Lib.hid hHY4'
  clear hHY4'
  have HX4n := Lib.hid hHX4'
  clear hHX4'
  have HR1n := Lib.hid hHR1'
  clear hHR1'
  clear HY4 HX4 HR1 HT2
  have HY4 := HY4n
  clear HY4n
  have HX4 := HX4n
  clear HX4n
  have HR1 := HR1n
  clear HR1n
  obtain ⟨y0, y1, y2, yf, yl⟩ := cells3 HY4.out
  obtain ⟨La3, ea3, Ha3, hOa3, hBa3, -⟩ := hS8.out
  have hp3 : Calls Tryd.prog 11 #[.pointer (some ⟨mc, 0, none⟩), .agg #[.bool true, .int .i64 1, .int .i64 0], .int .i64 1, .int .i64 50] W8 fun e w' => e = .returned (.tuple #[.agg #[.int .i64 2, .int .i64 0], .int .i64 tZ3.2.fuel]) ∧ MTurns w0 W8 w' La3 tC tZ2.2.S tC (cancelO tY tZ3).2 tZ3.2.told := by
    have h := cancel_any (tiny_cx 1) Ha3 HMZ2.out (by rw [t_told.2]; decide) 50 (by decide) (by rw [t_len.2.2]; decide) tY inR_0
    rw [ea3] at h
    refine Calls.mono h fun e w' hh => ?_
    have h2 := cancel_t hh (thr_thrN tC 30 _ t_z3)
    refine ⟨h2.1.trans (by show Ending.returned (.tuple #[outV (cancelO tY tZ3).1, .int .i64 tZ3.2.fuel]) = _; rw [t_o3]; rfl), h2.2⟩
  have HP3 := Lib.hid hp3
  have HX3 := Lib.hid (And.intro Ha3 (And.intro hOa3 (And.intro hBa3 ea3)))
  clear hp3 Ha3 hOa3 hBa3 ea3
  go_upto_region 8 with (go_at_call 11; refine HP3.out.mono ?_; rintro e w9 ⟨rfl, hT⟩; have HT3 := Lib.hid hT; clear hT)
  have hS := MSt.step HX3.out.2.1 HX3.out.2.2.1 (Nat.le_refl _) HT3.out
  rw [HX3.out.2.2.2] at hS
  have hbn : Below w9.heap.size w9 (w9.alloc (.cells #[.int .i64 2, .int .i64 0] 41)) := C.alloc_below _ _
  have hyn : (w9.alloc (.cells #[.int .i64 2, .int .i64 0] 41)).heap[w9.heap.size]? = some (.cells #[.int .i64 2, .int .i64 0] 41) := heap_alloc_new _ _
  have hS10 := Lib.hid (hS.below hbn)
  have hHY4' := keepB7 (HT3.out.local HX3.out.1 (t := 38) (by unfold Loc; decide) HY4.out) hbn
  have hHX4' := keepB7 (HT3.out.local HX3.out.1 (t := 41) (by unfold Loc; decide) HX4.out) hbn
  have hHR1' := keepB7 (HT3.out.local HX3.out.1 (t := 41) (by unfold Loc; decide) HR1.out) hbn
  have hHR2' := keepB7 (HT3.out.local HX3.out.1 (t := 41) (by unfold Loc; decide) HR2.out) hbn
  clear hS hbn y0 y1 y2 yf yl HX3 HP3
  generalize w9.alloc (.cells #[.int .i64 2, .int .i64 0] 41) = W10 at hyn hS10 hHY4' hHX4' hHR1' hHR2' ⊢
  generalize w9.heap.size = k3 at hyn ⊢
  have HR3 := Lib.hid hyn
  clear hyn
  have HY4n := Lib.hid hHY4'
  clear hHY4'
  have HX4n := Lib.hid hHX4'
  clear hHX4'
  have HR1n := Lib.hid hHR1'
  clear hHR1'
  have HR2n := Lib.hid hHR2'
  clear hHR2'
  clear HY4 HX4 HR1 HR2 HT3
  have HY4 := HY4n
  clear HY4n
  have HX4 := HX4n
  clear HX4n
  have HR1 := HR1n
  clear HR1n
  have HR2 := HR2n
  clear HR2n
  obtain ⟨y0, y1, y2, yf, yl⟩ := cells3 HY4.out
  obtain ⟨La, ea, Ha, hOa, hBa, -⟩ := hS10.out
  have hlv := live_any Ha
  rw [ea, t_l3] at hlv
  have HLV := Lib.hid hlv
  have HBW := Lib.hid hBa
  clear hlv Ha hOa hBa ea hS10 hS8 hS6 hS4
  obtain ⟨a0, a1, af, al⟩ := cells2 HX4.out
  obtain ⟨b0, b1, bf, bl⟩ := cells2 HR1.out
  obtain ⟨c0, c1', cf, cl⟩ := cells2 HR2.out
  obtain ⟨d0, d1, df, dl⟩ := cells2 HR3.out
  go_wp2_with (go_at_call 15; refine HLV.out.mono ?_; rintro e W11 ⟨rfl, rfl⟩)
  go_ret
  exact ⟨rfl, HBW.out⟩
end Go.Proofs.YtgpkhdccchpljaaDoor
