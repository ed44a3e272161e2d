/-
  Several texts of the proof in one: PBlk, PReadB, LName. No conditions of their own: each lemma states its own.
-/
import Derived.Test.YtggdpgaedmegbaaGreatDoorJPStmt
import Derived.Test.YtggdpgaedmegbaaGreatDoorJPRowS
import Derived.Test.YtggdpgaedmegbaaGreatDoorJPFn
import Derived.Test.YtggdpgaedmegbaaGreatDoorJPRead
import Derived.Test.YtggdpgaedmegbaaGreatDoorJPBase
import Derived.Deep.Cut
namespace Go.Proofs.YtggdpgaedmegbaaGreatDoor
open Go.RowKit

theorem stmts_row {w : World} {b g cap : Nat} {ts : List Tok} {i dp n : Nat} (H : RdAt w b g cap ts i dp) (blk : Rd (List St5)) (hblk : Ru1 true true blk) (hBk : ∀ (w : World) (i : Nat), RdAt w b g cap ts i dp → Calls Tryz.prog 243 #[.pointer (some ⟨b, 0, none⟩)] w (RPost w b g cap ts i dp (blk (ts.drop i)) (VRow 21 stC erSt (StH (n + 61))))) :
    Calls Tryz.prog 291 #[.pointer (some ⟨b, 0, none⟩), .string (strB wRB), (.func (.func 292) #[.pointer (some ⟨b, 0, none⟩)] #[])] w (RPost w b g cap ts i dp (rowL wRB (fun _ => stmtR blk) (ts.drop i)) (VRow 21 stC erSt (StH (n + 63)))) :=
  (row_Stmt H wRB (by decide) (o := none) (S := fun _ _ => True) (fun _ => stmtR blk) (th_of fun w i H => r_stmt H blk hblk hBk) trivial (fun _ e => by cases e) (fun _ _ _ _ _ _ => trivial) (fun _ => (ru_stmt hblk).con)).mono fun e w' hp =>
    RPost.of_row H.lt (fun a l h => Nat.le_of_lt (con_row (by decide) (fun _ => (ru_stmt hblk).con) _ _ _ _ _ h)) hp
set_option maxRecDepth 100000 in
set_option maxHeartbeats 40000000 in
theorem r_block0 {w : World} {b g cap : Nat} {ts : List Tok} {i dp : Nat} (H : RdAt w b g cap ts i dp) {n : Nat} (hdp : dp = 60) :
    Calls Tryz.prog 243 #[.pointer (some ⟨b, 0, none⟩)] w (RPost w b g cap ts i dp (blockD 0 (ts.drop i)) (VRow 21 stC erSt (StH n))) := by
  obtain ⟨r, hQ⟩ : ∃ r, blockD 0 (ts.drop i) = r := ⟨_, rfl⟩
  rw [hQ]
  have HQ := Lib.hid hQ
  clear hQ
  have HGB := Lib.hid (And.intro H.toks.1 H.vars.size)
  have HBW := Lib.hid (show b < w.heap.size from (Array.getElem?_eq_some_iff.1 H.at_).1)
  have HJ0 := Lib.hid (Nat.le_refl i)
  have HH0 := Lib.hid H
  have HK0 := Lib.hid (Kb.refl b w)
  clear H
  go_enter Tryz.func243, Tryz.ntmps243
  go_upto_region 1 with fail
  obtain ⟨r0, r1, r2, rf, rl⟩ := cells3p HH0.out.at_
  have t8 : ((dp : Int) == 60) = true := by simp; omega
  clear hdp
  obtain ⟨t1, ht1, hh1, -⟩ := HH0.out.tok
  have hnx := next_any HH0.out ht1
  simp only [tokV] at hnx
  have HN := Lib.hid hnx
  have hfd := tok_text
  have HT1 := Lib.hid ht1
  have HH1 := Lib.hid hh1
  have hse := str_eq t1.text wLB
  clear hnx ht1 hh1
  by_cases hts : t1.text = wLB
  · have hse2 : ((strB t1.text).toList == (strB wLB).toList) = true := by rw [hse]; simpa using hts
    have hse3 : ((strB t1.text).toList == [123]) = true := by rw [strB_toList wLB] at hse2; exact hse2
    have HS := Lib.hid hts
    clear hse hse2 hts
    have hrr : r = .no 61 t1.pos := by
      rw [← HQ.out]
      unfold blockD isR
      rw [HH1.out]
      simp only [HS.out, decide_true, if_true]
      unfold failR
      rw [HH1.out]
    have HRR := Lib.hid hrr
    clear hrr
    go_wp2_with
      (first
        | (go_at_call 171; refine HN.out.mono ?_; rintro e W1 ⟨rfl, hb⟩; have hk := Kb.of_below (b := b) hb; have HK1 := Lib.hid (HK0.out.trans hk); have HG1 := Lib.hid (HH0.out.under hb); clear hk hb HN)
        | (go_at_call 284; refine (fail_any HG1.out HT1.out 61).mono ?_; rintro e W2 ⟨he, hb⟩; unfold faultE at he; subst he; have HK2 := Lib.hid (HK1.out.trans (Kb.of_below (b := b) hb)); clear hb))
    exact ⟨rfl, RPost.fault HK2.out HRR.out⟩
  · have hse2 : ((strB t1.text).toList == (strB wLB).toList) = false := by rw [hse]; simpa using hts
    have hse3 : ((strB t1.text).toList == [123]) = false := by rw [strB_toList wLB] at hse2; exact hse2
    have HS := Lib.hid hts
    clear hse hse2 hts
    have hrr : r = .no 60 t1.pos := by
      rw [← HQ.out]
      unfold blockD isR
      rw [HH1.out]
      simp only [HS.out, decide_false, if_false, Bool.false_eq_true]
      unfold failR
      rw [HH1.out]
    have hnr : needR wLB (ts.drop i) = .no 60 t1.pos := by
      unfold needR optR failR
      rw [HH1.out, if_neg HS.out]
    have HRR := Lib.hid hrr
    have HNR := Lib.hid hnr
    clear hrr hnr
    go_wp2_with
      (first
        | (go_at_call 171; refine HN.out.mono ?_; rintro e W1 ⟨rfl, hb⟩; have hk := Kb.of_below (b := b) hb; have HK1 := Lib.hid (HK0.out.trans hk); have HG1 := Lib.hid (HH0.out.under hb); clear hk hb HN)
        | (go_at_call 237; refine (need_any HG1.out wLB (by decide)).mono ?_; rintro e W2 hp; obtain ⟨he, hk⟩ := hp.no HNR.out; unfold faultE at he; subst he; have HK2 := Lib.hid (HK1.out.trans hk); clear hk hp))
    exact ⟨rfl, RPost.fault HK2.out HRR.out⟩
set_option maxRecDepth 100000 in
set_option maxHeartbeats 40000000 in
theorem r_block1 {w : World} {b g cap : Nat} {ts : List Tok} {i dp : Nat} (H : RdAt w b g cap ts i dp) {d : Nat} (hdp : dp < 60) (hBk : ∀ (w : World) (i : Nat), RdAt w b g cap ts i (dp + 1) → Calls Tryz.prog 243 #[.pointer (some ⟨b, 0, none⟩)] w (RPost w b g cap ts i (dp + 1) (blockD d (ts.drop i)) (VRow 21 stC erSt (StH (2 * d + 61))))) :
    Calls Tryz.prog 243 #[.pointer (some ⟨b, 0, none⟩)] w (RPost w b g cap ts i dp (blockD (d + 1) (ts.drop i)) (VRow 21 stC erSt (StH (2 * d + 63)))) := by
  obtain ⟨r, hQ⟩ : ∃ r, blockD (d + 1) (ts.drop i) = r := ⟨_, rfl⟩
  rw [hQ]
  have HQ := Lib.hid hQ
  clear hQ
  have HGB := Lib.hid (And.intro H.toks.1 H.vars.size)
  have HBW := Lib.hid (show b < w.heap.size from (Array.getElem?_eq_some_iff.1 H.at_).1)
  have HJ0 := Lib.hid (Nat.le_refl i)
  have HH0 := Lib.hid H
  have HK0 := Lib.hid (Kb.refl b w)
  clear H
  go_enter Tryz.func243, Tryz.ntmps243
  go_upto_region 1 with fail
  have HBk := Lib.hid hBk
  have HDP := Lib.hid hdp
  clear hBk
  obtain ⟨r0, r1, r2, rf, rl⟩ := cells3p HH0.out.at_
  have t8 : ((dp : Int) == 60) = false := by simp; omega
  clear hdp
  have hc := need_any HH0.out wLB (by decide)
  have HC := Lib.hid hc
  clear hc
  rcases hr : needR wLB (ts.drop i) with ⟨a1, l1⟩ | ⟨er, p⟩
  rotate_left
  · have HR := Lib.hid hr
    clear hr
    go_wp2_with (go_at_call 237; refine HC.out.mono ?_; rintro e W1 hp; obtain ⟨he, hk⟩ := hp.no HR.out; unfold faultE at he; subst he; have HK1 := Lib.hid (HK0.out.trans hk); clear hk hp HC)
    exact ⟨rfl, RPost.fault HK1.out (HQ.out.symm.trans (bind_no HR.out))⟩
  have HR := Lib.hid hr
  clear hr
  go_upto_region 4 with (go_at_call 237; refine HC.out.mono ?_; rintro e W1 hp; obtain ⟨hk, j1, v1, rfl, hl, hj, hrd, hv⟩ := hp.ok HR.out; subst hl; unfold VUnit at hv; subst hv; have HK1 := Lib.hid (HK0.out.trans hk); have HKK1 := Lib.hid hk; have HH1 := Lib.hid hrd; have HJ1 := Lib.hid (Nat.le_trans HJ0.out hj); clear hk hp hrd hj HC)
  have hQ := HQ.out
  rw [blockD] at hQ
  rw [bind_ok HR.out] at hQ
  replace HQ := Lib.hid hQ
  clear hQ HR
  clear r0 r1 r2 rf rl t8
  obtain ⟨r0, r1, r2, rf, rl⟩ := cells3p HH1.out.at_
  have hd1 : (dp : Int) + 1 ≤ 61 := by have := HDP.out; omega
  have hd2 : (0 : Int) ≤ (dp : Int) + 1 := by omega
  go_upto_region 5 with fail
  clear r0 r1 r2 rf rl hd1 hd2
  obtain ⟨W2, hW⟩ : ∃ W, W = W1.setCell ⟨b, 2, none⟩ (.int .i64 ((dp : Int) + 1)) := ⟨_, rfl⟩
  rw [← hW]
  have hb2 := heap_setCell_same W1 b 2 _ _ (.int .i64 ((dp : Int) + 1)) HH1.out.at_
  rw [← hW] at hb2
  have hks : Kb b W1 W2 := by rw [hW]; exact Kb.set W1 2 _
  have HH2 := Lib.hid (HH1.out.keep (dq := dp + 1) hks (by simpa using hb2) HH1.out.lt)
  have HK2 := Lib.hid (HK1.out.trans hks)
  have HJ2 := Lib.hid HJ1.out
  clear hW hb2 hks
  have hmf : ∀ (fn : Fn) (first cap : Array Value) (w : World), (Instr.makeFunc fn first cap).run Tryz.prog w = .ok (.func fn first cap) w := fun _ _ _ _ => rfl
  have hc := stmts_row HH2.out (n := 2 * d) (blockD d) (ru_block d) HBk.out
  have HC := Lib.hid hc
  clear hc
  rcases hr : rowL wRB (fun _ => stmtR (blockD d)) (ts.drop j1) with ⟨a3, l3⟩ | ⟨er, p⟩
  rotate_left
  · have HR := Lib.hid hr
    clear hr
    go_wp2_with (go_at_call 291; refine HC.out.mono ?_; rintro e W3 hp; obtain ⟨he, hk⟩ := hp.no HR.out; unfold faultE at he; subst he; have HK3 := Lib.hid (HK2.out.trans hk); clear hk hp HC)
    exact ⟨rfl, RPost.fault HK3.out (HQ.out.symm.trans HR.out)⟩
  have HR := Lib.hid hr
  clear hr
  go_upto_region 6 with (go_at_call 291; refine HC.out.mono ?_; rintro e W3 hp; obtain ⟨hk, j3, v3, rfl, hl, hj, hrd, hv⟩ := hp.ok HR.out; subst hl; obtain ⟨ah, al, rfl, hae, hp2⟩ := hv; have HE := Lib.hid hae; have HU := Lib.hid hp2; clear hae hp2; have HK3 := Lib.hid (HK2.out.trans hk); have HKK3 := Lib.hid hk; have HH3 := Lib.hid hrd; have HJ3 := Lib.hid (Nat.le_trans HJ2.out hj); clear hk hp hrd hj HC)
  clear hmf
  obtain ⟨r0, r1, r2, rf, rl⟩ := cells3p HH3.out.at_
  have r2' : W3.cell? ⟨b, 2, none⟩ = some (.int .i64 ((dp : Int) + 1)) := by simpa using r2
  clear r2
  have hd1 : (dp : Int) ≤ 60 := by have := HDP.out; omega
  have hd2 : (0 : Int) ≤ (dp : Int) := by omega
  go_upto_region 7 with fail
  clear r0 r1 r2' rf rl hd1 hd2
  obtain ⟨W4, hW⟩ : ∃ W, W = W3.setCell ⟨b, 2, none⟩ (.int .i64 (dp : Int)) := ⟨_, rfl⟩
  rw [← hW]
  have hb2 := heap_setCell_same W3 b 2 _ _ (.int .i64 (dp : Int)) HH3.out.at_
  rw [← hW] at hb2
  have hks : Kb b W3 W4 := by rw [hW]; exact Kb.set W3 2 _
  have HH4 := Lib.hid (HH3.out.keep (dq := dp) hks (by simpa using hb2) HH3.out.lt)
  have HK4 := Lib.hid (HK3.out.trans hks)
  have hu := hks.und (og := none) (B := W2.heap.size) (B' := w.heap.size) (Nat.lt_of_lt_of_le HBW.out HK2.out.size) HK2.out.size
  have HUF := Lib.hid (Row.und HU.out hu fun _ _ hx => StH.und _ _ _ _ hu hx)
  clear hW hb2 hks hu
  go_wp2
  exact bodyPost_ret (v := .slice ah.oa al.length ah.cap) (by simp [results, Tryz.results243, go_sem]) rfl (RPost.done HK4.out (HQ.out.symm.trans HR.out) HJ3.out HH4.out ⟨ah, al, rfl, HE.out, HUF.out⟩)
theorem r_block : ∀ (d dp : Nat), dp + d = 60 → ∀ {w : World} {b g cap : Nat} {ts : List Tok} {i : Nat}, RdAt w b g cap ts i dp →
    Calls Tryz.prog 243 #[.pointer (some ⟨b, 0, none⟩)] w (RPost w b g cap ts i dp (blockD d (ts.drop i)) (VRow 21 stC erSt (StH (2 * d + 61))))
  | 0, dp, h, _, _, _, _, _, _, H => r_block0 H (by omega)
  | d + 1, dp, h, _, _, _, _, _, _, H => r_block1 H (by omega) fun w i H2 => r_block d (dp + 1) (by omega) H2
theorem r_fn0 {w : World} {b g cap : Nat} {ts : List Tok} {i : Nat} (H : RdAt w b g cap ts i 0) (q : Nat) :
    Calls Tryz.prog 174 #[.pointer (some ⟨b, 0, none⟩), .int .i64 q] w (RPost w b g cap ts i 0 (fnR q (ts.drop i)) (VFn 181)) :=
  r_fn H (n := 119) q (blockD 60) fun _ _ H2 => r_block 60 0 rfl H2
end Go.Proofs.YtggdpgaedmegbaaGreatDoor

namespace Go.Proofs.YtggdpgaedmegbaaGreatDoor
open Go.RowKit

theorem fn_all : FnC := fun _ _ _ _ _ _ q H => r_fn0 H q
/-- what read hands back -/
def ReadOut (B : Nat) (w' : World) (r : Rs So5) (e : Ending) : Prop := match r with
  | .ok s _ => ∃ x, e = .returned (.tuple #[soV x, .int .i64 0, .int .i64 0]) ∧ erSo x = s ∧ SoH 181 (eb w' B none) x
  | .no er p => e = .returned (.tuple #[.agg #[.slice none 0 0, .slice none 0 0, .slice none 0 0], .int .i64 er, .int .i64 p])
theorem eb_full (w : World) (B : Nat) (og : Option Nat) : Und (eb w B og) w := ⟨by rw [eb_size]; exact Nat.le_refl _, fun p v h => (eb_cell h).2.2⟩
theorem pal4 (w : World) (a c d e : Obj) : Below w.heap.size w ((((w.alloc a).alloc c).alloc d).alloc e) ∧ ((((w.alloc a).alloc c).alloc d).alloc e).heap[w.heap.size]? = some a ∧ ((((w.alloc a).alloc c).alloc d).alloc e).heap[w.heap.size + 1]? = some c ∧ ((((w.alloc a).alloc c).alloc d).alloc e).heap[w.heap.size + 1 + 1]? = some d ∧ ((((w.alloc a).alloc c).alloc d).alloc e).heap[w.heap.size + 1 + 1 + 1]? = some e := by
  obtain ⟨h1, h2, h3, h4⟩ := pal3 w a c d
  have h5 := alloc_below (((w.alloc a).alloc c).alloc d) e
  have es : (((w.alloc a).alloc c).alloc d).heap.size = w.heap.size + 1 + 1 + 1 := by simp
  refine ⟨h1.trans (h5.mono h1.size), keepB h2 h5, keepB h3 h5, keepB h4 h5, ?_⟩
  have := heap_alloc_new (((w.alloc a).alloc c).alloc d) e
  rwa [es] at this
set_option maxRecDepth 100000 in
set_option maxHeartbeats 4000000 in
theorem read_any {w : World} {g cap : Nat} {ts : List Tok} (ht : ToksAt w g ts) (hok : TsOk ts) (hv : Vars w) (h0 : 0 < ts.length) :
    Calls Tryz.prog 40 #[.slice (some ⟨g, 0, none⟩) ts.length cap] w fun e w' => Below w.heap.size w w' ∧ ReadOut w.heap.size w' (sourceR ts) e := by
  have hmf : ∀ (fn : Fn) (first cap : Array Value) (w : World), (Instr.makeFunc fn first cap).run Tryz.prog w = .ok (.func fn first cap) w := fun _ _ _ _ => rfl
  obtain ⟨n, hn⟩ : ∃ n, ts.length = n := ⟨_, rfl⟩
  obtain ⟨W0, hW⟩ : ∃ W0, W0 = (((w.alloc (.cells #[.slice none 0 0, .slice none 0 0, .slice none 0 0] 27)).alloc (.cells #[.int .i64 0] 28)).alloc (.cells #[.int .i64 0] 3)).alloc (.cells #[.slice (some ⟨g, 0, none⟩) n cap, .int .i64 0, .int .i64 0] 175) := ⟨_, rfl⟩
  obtain ⟨hbW, hx0, hx1, hx2, hx3⟩ := pal4 w (.cells #[.slice none 0 0, .slice none 0 0, .slice none 0 0] 27) (.cells #[.int .i64 0] 28) (.cells #[.int .i64 0] 3) (.cells #[.slice (some ⟨g, 0, none⟩) n cap, .int .i64 0, .int .i64 0] 175)
  rw [← hW] at hbW hx0 hx1 hx2 hx3
  have hgw := ht.1
  have hnG := hv.size
  have HRD := Lib.hid (show RdAt W0 (w.heap.size + 1 + 1 + 1) g cap ts 0 0 from ⟨by rw [hn]; exact hx3, ht.below hbW, h0, by omega, hok, hv.b hbW, by omega⟩)
  have HC := Lib.hid (r_source HRD.out fn_all rfl)
  have HXX := Lib.hid (And.intro hx0 (And.intro hx1 (And.intro hx2 hbW)))
  have HT := Lib.hid (And.intro hn (show List.drop 0 ts = ts from rfl))
  rw [hn]
  clear hbW hx0 hx1 hx2 hx3 ht hok hv h0 hn hgw hnG
  obtain ⟨p, hp⟩ : ∃ p, p = w.heap.size := ⟨_, rfl⟩
  go_enter_defers Tryz.func40, Tryz.ntmps40
  go_upto_region 3 with fail
  rw [← hW]
  clear hW hp
  have hx0 := HXX.out.1
  have hx1 := HXX.out.2.1
  have hx2 := HXX.out.2.2.1
  have hgS := HXX.out.2.2.2.size
  have hbl := blk_lt HRD.out.at_
  obtain ⟨N, hN⟩ : ∃ N, N = w.heap.size := ⟨_, rfl⟩
  simp only [← hN] at hx0 hx1 hx2 hbl HC HRD ⊢
  have HN := Lib.hid hN
  clear hN
  have HX := Lib.hid (And.intro hx0 (And.intro hx1 hx2))
  clear hx0 hx1 hx2 hgS hbl
  rcases hr : sourceR ts with ⟨s, l⟩ | ⟨er, ps⟩
  · have HR := Lib.hid (show sourceR (List.drop 0 ts) = .ok s l from hr)
    clear hr
    go_wp2_with
      (first
        | (go_at_call 92; refine HC.out.mono ?_; rintro e W1 hp; obtain ⟨hk, j, v, rfl, hl, hj, hrd, hv⟩ := hp.ok HR.out; obtain ⟨⟨y1, x1, y2, x2, y3, x3⟩, rfl, hxe, hxh⟩ := hv; simp only [soV]; have HK := Lib.hid hk; have HX0 := Lib.hid (hk.kept HX.out.1 (by omega)); have HX1 := Lib.hid (hk.kept HX.out.2.1 (by omega)); have HX2 := Lib.hid (hk.kept HX.out.2.2 (by omega)); have HS := Lib.hid (And.intro hxe hxh); clear hk hp hl hj hrd hxe hxh)
        | (refine wpList_store_box rfl 27 (.tmp 2) (.tmp 9) rfl N 0 rfl (.agg #[.slice y1.oa x1.length y1.cap, .slice y2.oa x2.length y2.cap, .slice y3.oa x3.length y3.cap]) rfl [.slice y1.oa x1.length y1.cap, .slice y2.oa x2.length y2.cap, .slice y3.oa x3.length y3.cap] rfl [.slice none 0 0, .slice none 0 0, .slice none 0 0] 27 HX0.out (Nat.le_refl _) (show (Tryz.prog.info? 27).map (·.size) = some 3 by kernel_rfl) ?c1 N (Nat.le_refl _) W1 (Below.refl _ _) ?_))
    case c1 => first | exact ⟨rfl, rfl, rfl⟩ | (intro v hv; simp at hv; rcases hv with rfl | rfl | rfl <;> rfl)
    intro W2 hb hbx hoth
    have HB := Lib.hid (And.intro hb (And.intro (show W2.heap[N]? = some (.cells #[.slice y1.oa x1.length y1.cap, .slice y2.oa x2.length y2.cap, .slice y3.oa x3.length y3.cap] 27) from hbx) hoth))
    obtain ⟨b0, bf, bl⟩ := cells1p ((hoth (N + 1) (by omega)).trans HX1.out)
    obtain ⟨c0, cf, cl⟩ := cells1p ((hoth (N + 1 + 1) (by omega)).trans HX2.out)
    clear hb hbx hoth
    go_wp2
    have hq := heap_setCell_same W2 (N + 1) 0 _ _ (.int .i64 0) ((HB.out.2.2 (N + 1) (by omega)).trans HX1.out)
    have hrr := (Below.heap_setCell W2 ⟨N + 1, 0, none⟩ (.int .i64 0) (N + 1 + 1) (show N + 1 + 1 ≠ N + 1 by omega)).trans ((HB.out.2.2 (N + 1 + 1) (by omega)).trans HX2.out)
    have hpp := (Below.heap_setCell W2 ⟨N + 1, 0, none⟩ (.int .i64 0) N (show N ≠ N + 1 by omega)).trans HB.out.2.1
    have hq2 := (Below.heap_setCell (W2.setCell ⟨N + 1, 0, none⟩ (.int .i64 0)) ⟨N + 1 + 1, 0, none⟩ (.int .i64 0) (N + 1) (show N + 1 ≠ N + 1 + 1 by omega)).trans hq
    have hr2 := heap_setCell_same (W2.setCell ⟨N + 1, 0, none⟩ (.int .i64 0)) (N + 1 + 1) 0 _ _ (.int .i64 0) hrr
    have hp2 := (Below.heap_setCell (W2.setCell ⟨N + 1, 0, none⟩ (.int .i64 0)) ⟨N + 1 + 1, 0, none⟩ (.int .i64 0) N (show N ≠ N + 1 + 1 by omega)).trans hpp
    have hbel : Below N W1 ((W2.setCell ⟨N + 1, 0, none⟩ (.int .i64 0)).setCell ⟨N + 1 + 1, 0, none⟩ (.int .i64 0)) := Below.setCell (Below.setCell HB.out.1 (by dsimp only; omega) _) (by dsimp only; omega) _
    have hoth : ∀ x, x ≠ N → x ≠ N + 1 → x ≠ N + 1 + 1 → ((W2.setCell ⟨N + 1, 0, none⟩ (.int .i64 0)).setCell ⟨N + 1 + 1, 0, none⟩ (.int .i64 0)).heap[x]? = W1.heap[x]? := fun x h1 h2 h3 => (Below.heap_setCell _ _ _ x h3).trans ((Below.heap_setCell _ _ _ x h2).trans (HB.out.2.2 x h1))
    generalize ((W2.setCell ⟨N + 1, 0, none⟩ (.int .i64 0)).setCell ⟨N + 1 + 1, 0, none⟩ (.int .i64 0)) = WF at hq2 hr2 hp2 hbel hoth ⊢
    refine leaves_cons (f := 91) (args := #[.pointer (some ⟨N, 0, none⟩), .pointer (some ⟨N + 1, 0, none⟩), .pointer (some ⟨N + 1 + 1, 0, none⟩)]) (by simp) (by simp [go_sem]) ?_
    refine (read_idle N (N + 1) (N + 1 + 1) _).mono ?_
    rintro e u' w'' ⟨rfl, rfl, rfl⟩
    have HF := Lib.hid (show Below w.heap.size w w'' ∧ SoH 181 (eb w'' w.heap.size none) ⟨y1, x1, y2, x2, y3, x3⟩ from by
      have h1 := HXX.out.2.2.2
      have h2 := HK.out
      have h3 := HN.out
      have hw : Below w.heap.size w W1 := ⟨h2.os.trans h1.os, h2.tape.trans h1.tape, h2.output.trans h1.output, Nat.le_trans h1.size h2.size, fun x hx => (h2.block x (Nat.lt_of_lt_of_le hx h1.size) (by omega)).trans (h1.block x hx)⟩
      refine ⟨hw.trans (hbel.mono (by omega)), ?_⟩
      have hz := blk_lt HRD.out.at_
      refine SoH.und 181 _ _ _ (eb_und (B' := w.heap.size) (og' := none) hbel.size fun x hx h4 h5 => ⟨by omega, h5, hoth x (by omega) (by omega) (by omega)⟩) HS.out.2)
    obtain ⟨e0, e1, e2, ef, el⟩ := cells3p hp2
    obtain ⟨f0, ff, fl⟩ := cells1p (by simpa using hq2)
    obtain ⟨g0, gf, gl⟩ := cells1p (by simpa using hr2)
    clear hq hrr hpp hq2 hr2 hp2 hbel hoth
    simp [Leaves, settle, results, Tryz.results40, go_sem, e0, e1, e2, f0, g0]
    refine ⟨HF.out.1, ?_⟩
    unfold ReadOut
    rw [show sourceR ts = .ok s l from HR.out]
    exact ⟨⟨y1, x1, y2, x2, y3, x3⟩, rfl, HS.out.1, HF.out.2⟩
  · have HR := Lib.hid (show sourceR (List.drop 0 ts) = .no er ps from hr)
    clear hr
    go_wp2_with (go_at_call 92; refine HC.out.mono ?_; rintro e W1 hp; obtain ⟨he, hk⟩ := hp.no HR.out; unfold faultE at he; subst he; have HK := Lib.hid hk; have HX0 := Lib.hid (hk.kept HX.out.1 (by omega)); have HX1 := Lib.hid (hk.kept HX.out.2.1 (by omega)); have HX2 := Lib.hid (hk.kept HX.out.2.2 (by omega)); clear hk hp)
    refine leaves_cons (f := 91) (args := #[.pointer (some ⟨N, 0, none⟩), .pointer (some ⟨N + 1, 0, none⟩), .pointer (some ⟨N + 1 + 1, 0, none⟩)]) (by simp) (by simp [go_sem]) ?_
    refine (read_caught N (N + 1) (N + 1 + 1) er ps [] W1 HX0.out HX1.out HX2.out (by omega) (by omega)).mono ?_
    rintro e u' w'' ⟨rfl, rfl, hbel, hp2, hq2, hr2⟩
    have HF := Lib.hid (show Below w.heap.size w w'' from by
      have h1 := HXX.out.2.2.2
      have h2 := HK.out
      have h3 := HN.out
      have hw : Below w.heap.size w W1 := ⟨h2.os.trans h1.os, h2.tape.trans h1.tape, h2.output.trans h1.output, Nat.le_trans h1.size h2.size, fun x hx => (h2.block x (Nat.lt_of_lt_of_le hx h1.size) (by omega)).trans (h1.block x hx)⟩
      exact hw.trans (hbel.mono (by omega)))
    obtain ⟨e0, e1, e2, ef, el⟩ := cells3p hp2
    obtain ⟨f0, ff, fl⟩ := cells1p hq2
    obtain ⟨g0, gf, gl⟩ := cells1p hr2
    clear hq2 hr2 hp2 hbel
    simp [Leaves, settle, results, Tryz.results40, go_sem, e0, e1, e2, f0, g0]
    refine ⟨HF.out, ?_⟩
    unfold ReadOut
    rw [show sourceR ts = .no er ps from HR.out]
end Go.Proofs.YtggdpgaedmegbaaGreatDoor

namespace Go.Proofs.YtggdpgaedmegbaaGreatDoor
open Go.RowKit

/-- What token hands back. -/
def tokOut (t : Tok) (er : Int) : Value := .tuple #[tokV t, .int .i64 er]
set_option maxHeartbeats 1000000 in
theorem name_any (s : ByteArray) (hs : s.size ≤ 4611686018427387904) (p : Nat) (hp : p ≤ s.size) (w : World) :
    Calls Tryz.prog 111 #[.string s, .int .i64 p] w fun e w' => e = .returned (if spanN nameB ((bs s).drop p) ≤ 24 then tokOut ⟨1, ((bs s).drop p).take (spanN nameB ((bs s).drop p)), 0, p⟩ 0 else tokOut noTok 42) ∧ Below w.heap.size w w' := by
  obtain ⟨m, hm⟩ : ∃ m, m = spanN nameB ((bs s).drop p) := ⟨_, rfl⟩
  have hle := spanN_le nameB ((bs s).drop p)
  rw [List.length_drop, bs_len, ← hm] at hle
  have hb := Lib.hid (behindName_any s hs p hp)
  rw [← hm] at hb ⊢
  have hx : s.extract p (p + m) = strB (((bs s).drop p).take m) := by rw [extract_strB, Nat.add_sub_cancel_left]
  have hsz : (strB (((bs s).drop p).take m)).size = m := by rw [strB_size, List.length_take, List.length_drop, bs_len]; omega
  generalize ((bs s).drop p).take m = tx at hx hsz ⊢
  obtain ⟨out, hout⟩ : ∃ out, out = if m ≤ 24 then tokOut ⟨1, tx, 0, p⟩ 0 else tokOut noTok 42 := ⟨_, rfl⟩
  rw [← hout]
  have HO := Lib.hid hout
  clear hout
  have HX := Lib.hid hx
  clear hx hm
  obtain ⟨W, hW⟩ : ∃ W, W = w.alloc (.cells #[.int .i64 0, .string ⟨#[]⟩, .int .i64 0, .int .i64 0] 40) := ⟨_, rfl⟩
  have hbW : Below w.heap.size w W := by rw [hW]; exact alloc_below _ _
  have hx0 : W.heap[w.heap.size]? = some (.cells #[.int .i64 0, .string ⟨#[]⟩, .int .i64 0, .int .i64 0] 40) := by rw [hW, heap_alloc_new]
  go_enter Tryz.func111, Tryz.ntmps111
  go_upto_region 1 with fail
  rw [← hW]
  clear hW
  obtain ⟨b, hb0⟩ : ∃ b, b = w.heap.size := ⟨_, rfl⟩
  rw [← hb0] at hx0
  simp only [← hb0]
  have hbb : w.heap.size ≤ b := by omega
  clear hb0
  obtain ⟨c0, c1, c2, c3, cf, cl⟩ := cells4 hx0
  have HX0 := Lib.hid hx0
  have HBW := Lib.hid hbW
  clear hx0 hbW
  by_cases h24 : m ≤ 24
  · have t1 : decide ((m : Int) > 24) = false := by simp; omega
    have hfz := set4 (u0 := .int .i64 1) (u1 := .string (s.extract p (p + m))) (u2 := .int .i64 0) (u3 := .int .i64 p) HX0.out
    have hbz := set4_below (u0 := .int .i64 1) (u1 := .string (s.extract p (p + m))) (u2 := .int .i64 0) (u3 := .int .i64 p) HBW.out hbb
    replace hfz := Lib.hid hfz
    replace hbz := Lib.hid hbz
    replace HO := Lib.hid (HO.out.trans (if_pos h24))
    go_wp2_with (go_at_call 188; refine (hb.out _).mono ?_; rintro e w1 ⟨rfl, rfl⟩)
    have hf := hfz.out
    have hg := hbz.out
    clear hfz hbz
    generalize (((w1.setCell ⟨b, 0, none⟩ (.int .i64 1)).setCell ⟨b, 1, none⟩ (.string (s.extract p (p + m)))).setCell ⟨b, 2, none⟩ (.int .i64 0)).setCell ⟨b, 3, none⟩ (.int .i64 p) = WW at hf hg ⊢
    obtain ⟨y0, y1, y2, y3, yf, yl⟩ := cells4 hf
    refine bodyPost_ret (v := tokOut ⟨1, tx, 0, p⟩ 0) (by simp [results, Tryz.results111, go_sem, y0, y1, y2, y3, tokOut, tokV, HX.out]) rfl ⟨by rw [HO.out], hg⟩
  · have t1 : decide ((m : Int) > 24) = true := by simp; omega
    have hfz := set4 (u0 := .int .i64 0) (u1 := .string ⟨#[]⟩) (u2 := .int .i64 0) (u3 := .int .i64 0) HX0.out
    have hbz := set4_below (u0 := .int .i64 0) (u1 := .string ⟨#[]⟩) (u2 := .int .i64 0) (u3 := .int .i64 0) HBW.out hbb
    replace hfz := Lib.hid hfz
    replace hbz := Lib.hid hbz
    replace HO := Lib.hid (HO.out.trans (if_neg h24))
    go_wp2_with (go_at_call 188; refine (hb.out _).mono ?_; rintro e w1 ⟨rfl, rfl⟩)
    have hf := hfz.out
    have hg := hbz.out
    clear hfz hbz
    generalize (((w1.setCell ⟨b, 0, none⟩ (.int .i64 0)).setCell ⟨b, 1, none⟩ (.string ⟨#[]⟩)).setCell ⟨b, 2, none⟩ (.int .i64 0)).setCell ⟨b, 3, none⟩ (.int .i64 0) = WW at hf hg ⊢
    obtain ⟨y0, y1, y2, y3, yf, yl⟩ := cells4 hf
    refine bodyPost_ret (v := tokOut noTok 42) (by simp [results, Tryz.results111, go_sem, y0, y1, y2, y3, tokOut, tokV, noTok, strB]) rfl ⟨by rw [HO.out], hg⟩
end Go.Proofs.YtggdpgaedmegbaaGreatDoor
