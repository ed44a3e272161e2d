/-
  Several texts of the proof in one: PNext, PTok. No conditions of their own: each lemma states its own.
-/
import Derived.Test.YtggdpgaedmegbaaGreatDoorJPBase
import Derived.Deep.DeepCutAuto
import Derived.Recover
namespace Go.Proofs.YtggdpgaedmegbaaGreatDoor
open Go.RowKit

theorem cells3p {w : World} {k : Nat} {v0 v1 v2 : Value} {t : TypeId} (h : w.heap[k]? = some (.cells #[v0, v1, v2] t)) :
    w.cell? ⟨k, 0, none⟩ = some v0 ∧ w.cell? ⟨k, 1, none⟩ = some v1 ∧ w.cell? ⟨k, 2, none⟩ = some v2 ∧ (∀ j, w.frozen? ⟨k, j, none⟩ = false) ∧ k < w.heap.size := by
  have hl := (Array.getElem?_eq_some_iff.1 h).1
  exact ⟨by simp [World.cell?, h], by simp [World.cell?, h], by simp [World.cell?, h], fun j => by simp [World.frozen?, h], hl⟩
theorem RdAt.under {w w' : World} {b g cap : Nat} {ts : List Tok} {i dp : Nat} (h : RdAt w b g cap ts i dp) (hb : Below w.heap.size w w') : RdAt w' b g cap ts i dp :=
  h.keep (Kb.of_below hb) ((hb.block b (Array.getElem?_eq_some_iff.1 h.at_).1).trans h.at_) h.lt

set_option maxRecDepth 100000 in
set_option maxHeartbeats 4000000 in
theorem next_any {w : World} {b g cap : Nat} {ts : List Tok} {i dp : Nat} (H : RdAt w b g cap ts i dp) {t : Tok} (ht : ts[i]? = some t) :
    Calls Tryz.prog 171 #[.pointer (some ⟨b, 0, none⟩)] w fun e w' => e = .returned (tokV t) ∧ Below w.heap.size w w' := by
  obtain ⟨W, hW⟩ : ∃ W, W = w.alloc (.cells #[.int .i64 0, .string ⟨#[]⟩, .int .i64 0, .int .i64 0] 40) := ⟨_, rfl⟩
  have hbW : Below w.heap.size w W := by rw [hW]; exact alloc_below _ _
  have hx0 : W.heap[w.heap.size]? = some (.cells #[.int .i64 0, .string ⟨#[]⟩, .int .i64 0, .int .i64 0] 40) := by rw [hW, heap_alloc_new]
  have HR := H.under hbW
  obtain ⟨r0, r1, r2, rf, rl⟩ := cells3p HR.at_
  obtain ⟨k0, k1, k2, k3⟩ := HR.toks.2 i t ht
  have gl := HR.toks.1
  have hil : (i : Int) < ts.length := by have := H.lt; omega
  have hi0 : (0 : Int) ≤ i := by omega
  obtain ⟨n, hn⟩ : ∃ n, ts.length = n := ⟨_, rfl⟩
  rw [hn] at r0 hil
  obtain ⟨B, hB⟩ : ∃ B, B = w.heap.size := ⟨_, rfl⟩
  rw [← hB] at hx0
  obtain ⟨x0, x1, x2, x3, xf, xl⟩ := cells4 hx0
  have HX := Lib.hid hx0
  have HW := Lib.hid hbW
  go_enter Tryz.func171, Tryz.ntmps171
  go_upto_region 1 with fail
  rw [← hW]
  simp only [← hB]
  clear hW hbW hx0 HR H hn ht
  replace hB := Lib.hid hB
  go_region
  all_goals
    have hf := set4 (u0 := .int .i64 t.k) (u1 := .string (strB t.text)) (u2 := .int .i64 t.n) (u3 := .int .i64 t.pos) HX.out
    have hbb := set4_below (u0 := .int .i64 t.k) (u1 := .string (strB t.text)) (u2 := .int .i64 t.n) (u3 := .int .i64 t.pos) HW.out (Nat.le_of_eq hB.out.symm)
    generalize (World.setCell (World.setCell (World.setCell (World.setCell W _ _) _ _) _ _) _ _) = WF at hf hbb ⊢
    obtain ⟨q0, q1, q2, q3, qf, ql⟩ := cells4 hf
    go_wp2
    exact bodyPost_ret (v := tokV t) (by simp [results, Tryz.results171, go_sem, q0, q1, q2, q3, tokV]) rfl ⟨rfl, hbb.drew⟩

theorem tok_text (k n p : Int) (z : ByteArray) (w : World) : (Instr.field 40 (.agg #[.int .i64 k, .string z, .int .i64 n, .int .i64 p]) 1).run Tryz.prog w = .ok (.string z) w := by kernel_rfl
theorem tok_n (k n p : Int) (z : ByteArray) (w : World) : (Instr.field 40 (.agg #[.int .i64 k, .string z, .int .i64 n, .int .i64 p]) 2).run Tryz.prog w = .ok (.int .i64 n) w := by kernel_rfl
theorem tok_k (k n p : Int) (z : ByteArray) (w : World) : (Instr.field 40 (.agg #[.int .i64 k, .string z, .int .i64 n, .int .i64 p]) 0).run Tryz.prog w = .ok (.int .i64 k) w := by kernel_rfl
theorem tok_pos (k n p : Int) (z : ByteArray) (w : World) : (Instr.field 40 (.agg #[.int .i64 k, .string z, .int .i64 n, .int .i64 p]) 3).run Tryz.prog w = .ok (.int .i64 p) w := by kernel_rfl
theorem strB_toList (l : List UInt8) : (strB l).toList = l := by
  rw [Lib.toList_data]
  simp [strB]
theorem str_eq (a b : List UInt8) : ((strB a).toList == (strB b).toList) = decide (a = b) := by
  rw [strB_toList, strB_toList]
  by_cases h : a = b <;> simp [h]
set_option maxRecDepth 100000 in
set_option maxHeartbeats 4000000 in
theorem takes_any {w : World} {b g cap : Nat} {ts : List Tok} {i dp : Nat} (H : RdAt w b g cap ts i dp) {t : Tok} (ht : ts[i]? = some t) (s : List UInt8) (hs : s ≠ []) :
    Calls Tryz.prog 172 #[.pointer (some ⟨b, 0, none⟩), .string (strB s)] w fun e w' => (t.text = s → e = .returned (.bool true) ∧ Kb b w w' ∧ RdAt w' b g cap ts (i + 1) dp) ∧ (t.text ≠ s → e = .returned (.bool false) ∧ Below w.heap.size w w') := by
  have hnx := Lib.hid (next_any H ht)
  have HH := Lib.hid H
  obtain ⟨tt, htt⟩ : ∃ tt, t.text = tt := ⟨_, rfl⟩
  have HT := Lib.hid htt
  obtain ⟨z, hz⟩ : ∃ z, (strB tt) = z := ⟨_, rfl⟩
  obtain ⟨y, hy⟩ : ∃ y, (strB s) = y := ⟨_, rfl⟩
  have hc : (z.toList == y.toList) = decide (tt = s) := by rw [← hz, ← hy]; exact str_eq _ _
  have hnx2 := hnx.out
  simp only [tokV] at hnx2
  rw [htt, hz] at hnx2
  have HN := Lib.hid hnx2
  have HZY := Lib.hid (And.intro hz hy)
  rw [hy]
  clear hnx2 hnx htt hz hy H
  have hfd := tok_text
  go_enter Tryz.func172, Tryz.ntmps172
  by_cases hts : tt = s
  · have hc2 : (z.toList == y.toList) = true := by rw [hc]; simp [hts]
    clear hc
    go_upto_region 3 with (go_at_call 171; refine HN.out.mono ?_; rintro e w1 ⟨rfl, hb1⟩; have HB1 := Lib.hid hb1; have H1 := Lib.hid (HH.out.under hb1); clear hb1 HN)
    obtain ⟨r0, r1, r2, rf, rl⟩ := cells3p H1.out.at_
    have hi := HH.out.next ht (.inl (by rw [HT.out, hts]; exact hs))
    have hw : wrap64 ((i : Int) + 1) = (i : Int) + 1 := by have := HH.out.ok.small; unfold wrap64; omega
    have HP := Lib.hid (H1.out.pass hi)
    have HK := Lib.hid ((Kb.of_below HB1.out).trans (Kb.set (b := b) w1 1 (.int .i64 ((i : Int) + 1))))
    clear hi
    go_wp2
    go_ret
    exact ⟨fun _ => ⟨rfl, HK.out, HP.out⟩, fun h => absurd (HT.out.trans hts) h⟩
  · have hc2 : (z.toList == y.toList) = false := by rw [hc]; simp [hts]
    clear hc
    go_wp2_with (go_at_call 171; refine HN.out.mono ?_; rintro e w1 ⟨rfl, hb1⟩; have HB1 := Lib.hid hb1; clear hb1 HN)
    go_ret
    exact ⟨fun h => absurd (HT.out.symm.trans h) hts, fun _ => ⟨rfl, HB1.out⟩⟩
end Go.Proofs.YtggdpgaedmegbaaGreatDoor

namespace Go.Proofs.YtggdpgaedmegbaaGreatDoor
open Go.RowKit

theorem resB_any (l : List UInt8) (w : World) (hV : Vars w) : Calls Tryz.prog 324 #[.string (strB l)] w fun e w' => e = .returned (.bool (resB l)) ∧ w' = w := by
  have h := reserved_any (strB l) w hV
  rwa [strB_bs] at h
theorem upperB_any (l : List UInt8) (w : World) : Calls Tryz.prog 312 #[.string (strB l)] w fun e w' => e = .returned (.bool (upperB l)) ∧ w' = w := by
  have h := upper_any (strB l) w
  rwa [strB_bs] at h

set_option maxRecDepth 100000 in
set_option maxHeartbeats 4000000 in
theorem free_any (t : Tok) (w : World) (hV : Vars w) : Calls Tryz.prog 311 #[tokV t] w fun e w' => e = .returned (.bool (freeT t)) ∧ Below w.heap.size w w' := by
  obtain ⟨W, hW⟩ : ∃ W, W = w.alloc (.cells #[.int .i64 t.k, .string (strB t.text), .int .i64 t.n, .int .i64 t.pos] 40) := ⟨_, rfl⟩
  have hbW : Below w.heap.size w W := by rw [hW]; exact alloc_below _ _
  have hx0 : W.heap[w.heap.size]? = some (.cells #[.int .i64 t.k, .string (strB t.text), .int .i64 t.n, .int .i64 t.pos] 40) := by rw [hW, heap_alloc_new]
  have hr := Lib.hid (resB_any t.text W (hV.b hbW))
  have hF : freeT t = (decide (t.k = 1) && !resB t.text) := rfl
  obtain ⟨x0, x1, x2, x3, xf, xl⟩ := cells4 hx0
  have HW := Lib.hid hbW
  have HF := Lib.hid hF
  simp only [tokV]
  clear hF hV hbW hx0
  go_enter Tryz.func311, Tryz.ntmps311
  go_upto_region 1 with fail
  rw [← hW]
  clear hW
  by_cases hk : t.k = 1
  · have t0 : (t.k == 1) = true := by simpa using hk
    have e1 : decide (t.k = 1) = true := by simpa using hk
    have E1 := Lib.hid e1
    clear e1 hk
    go_wp2_with (go_at_call 324; refine hr.out.mono ?_; rintro e w1 ⟨rfl, rfl⟩)
    go_ret
    exact ⟨by rw [HF.out, E1.out]; simp, HW.out⟩
  · have t0 : (t.k == 1) = false := by simpa using hk
    have e1 : decide (t.k = 1) = false := by simpa using hk
    have E1 := Lib.hid e1
    clear e1 hk
    go_wp2
    go_ret
    exact ⟨by rw [HF.out, E1.out]; simp, HW.out⟩
set_option maxRecDepth 100000 in
set_option maxHeartbeats 4000000 in
theorem smallT_any (t : Tok) (w : World) (hV : Vars w) : Calls Tryz.prog 288 #[tokV t] w fun e w' => e = .returned (.bool (smallT t)) ∧ Below w.heap.size w w' := by
  obtain ⟨W, hW⟩ : ∃ W, W = w.alloc (.cells #[.int .i64 t.k, .string (strB t.text), .int .i64 t.n, .int .i64 t.pos] 40) := ⟨_, rfl⟩
  have hbW : Below w.heap.size w W := by rw [hW]; exact alloc_below _ _
  have hx0 : W.heap[w.heap.size]? = some (.cells #[.int .i64 t.k, .string (strB t.text), .int .i64 t.n, .int .i64 t.pos] 40) := by rw [hW, heap_alloc_new]
  have hfr := free_any t W (hV.b hbW)
  have hup := Lib.hid (fun w => upperB_any t.text w)
  have hF : smallT t = (freeT t && !upperB t.text) := rfl
  obtain ⟨x0, x1, x2, x3, xf, xl⟩ := cells4 hx0
  have HX := Lib.hid hx0
  have HW := Lib.hid hbW
  have HF := Lib.hid hF
  simp only [tokV] at hfr ⊢
  have HFR := Lib.hid hfr
  clear hF hV hbW hx0 hfr
  obtain ⟨B, hB⟩ : ∃ B, B = w.heap.size := ⟨_, rfl⟩
  rw [← hB] at x0 x1 x2 x3 xl HX
  go_enter Tryz.func288, Tryz.ntmps288
  go_upto_region 1 with fail
  rw [← hW]
  simp only [← hB] at xf ⊢
  clear hW
  replace hB := Lib.hid hB
  cases hfb : freeT t with
  | true =>
    rw [hfb] at HFR
    go_wp2_with
      (first
        | (go_at_call 311; refine HFR.out.mono ?_; rintro e w1 ⟨rfl, hb1⟩; have HB1 := Lib.hid hb1; have hx1 := keepB HX.out hb1; clear x0 x1 x2 x3 xf xl hb1 HFR; obtain ⟨x0, x1, x2, x3, xf, xl⟩ := cells4 hx1; clear hx1)
        | (go_at_call 312; refine (hup.out _).mono ?_; rintro e w2 ⟨rfl, rfl⟩))
    go_ret
    exact ⟨by rw [HF.out, hfb]; simp, HW.out.trans (HB1.out.mono HW.out.size)⟩
  | false =>
    rw [hfb] at HFR
    go_wp2_with (go_at_call 311; refine HFR.out.mono ?_; rintro e w1 ⟨rfl, hb1⟩; have HB1 := Lib.hid hb1; clear x0 x1 x2 x3 xf xl hb1 HFR)
    go_ret
    exact ⟨by rw [HF.out, hfb]; simp, HW.out.trans (HB1.out.mono HW.out.size)⟩
set_option maxRecDepth 100000 in
set_option maxHeartbeats 4000000 in
theorem greatT_any (t : Tok) (w : World) (hV : Vars w) : Calls Tryz.prog 283 #[tokV t] w fun e w' => e = .returned (.bool (greatT t)) ∧ Below w.heap.size w w' := by
  obtain ⟨W, hW⟩ : ∃ W, W = w.alloc (.cells #[.int .i64 t.k, .string (strB t.text), .int .i64 t.n, .int .i64 t.pos] 40) := ⟨_, rfl⟩
  have hbW : Below w.heap.size w W := by rw [hW]; exact alloc_below _ _
  have hx0 : W.heap[w.heap.size]? = some (.cells #[.int .i64 t.k, .string (strB t.text), .int .i64 t.n, .int .i64 t.pos] 40) := by rw [hW, heap_alloc_new]
  have hfr := free_any t W (hV.b hbW)
  have hup := Lib.hid (fun w => upperB_any t.text w)
  have hF : greatT t = (freeT t && upperB t.text) := rfl
  obtain ⟨x0, x1, x2, x3, xf, xl⟩ := cells4 hx0
  have HX := Lib.hid hx0
  have HW := Lib.hid hbW
  have HF := Lib.hid hF
  simp only [tokV] at hfr ⊢
  have HFR := Lib.hid hfr
  clear hF hV hbW hx0 hfr
  obtain ⟨B, hB⟩ : ∃ B, B = w.heap.size := ⟨_, rfl⟩
  rw [← hB] at x0 x1 x2 x3 xl HX
  go_enter Tryz.func283, Tryz.ntmps283
  go_upto_region 1 with fail
  rw [← hW]
  simp only [← hB] at xf ⊢
  clear hW
  replace hB := Lib.hid hB
  cases hfb : freeT t with
  | true =>
    rw [hfb] at HFR
    go_wp2_with
      (first
        | (go_at_call 311; refine HFR.out.mono ?_; rintro e w1 ⟨rfl, hb1⟩; have HB1 := Lib.hid hb1; have hx1 := keepB HX.out hb1; clear x0 x1 x2 x3 xf xl hb1 HFR; obtain ⟨x0, x1, x2, x3, xf, xl⟩ := cells4 hx1; clear hx1)
        | (go_at_call 312; refine (hup.out _).mono ?_; rintro e w2 ⟨rfl, rfl⟩))
    go_ret
    exact ⟨by rw [HF.out, hfb]; simp, HW.out.trans (HB1.out.mono HW.out.size)⟩
  | false =>
    rw [hfb] at HFR
    go_wp2_with (go_at_call 311; refine HFR.out.mono ?_; rintro e w1 ⟨rfl, hb1⟩; have HB1 := Lib.hid hb1; clear x0 x1 x2 x3 xf xl hb1 HFR)
    go_ret
    exact ⟨by rw [HF.out, hfb]; simp, HW.out.trans (HB1.out.mono HW.out.size)⟩
set_option maxRecDepth 100000 in
set_option maxHeartbeats 4000000 in
theorem numT_any (t : Tok) (w : World) : Calls Tryz.prog 338 #[tokV t] w fun e w' => e = .returned (.bool (numT t)) ∧ Below w.heap.size w w' := by
  obtain ⟨W, hW⟩ : ∃ W, W = w.alloc (.cells #[.int .i64 t.k, .string (strB t.text), .int .i64 t.n, .int .i64 t.pos] 40) := ⟨_, rfl⟩
  have hbW : Below w.heap.size w W := by rw [hW]; exact alloc_below _ _
  have hx0 : W.heap[w.heap.size]? = some (.cells #[.int .i64 t.k, .string (strB t.text), .int .i64 t.n, .int .i64 t.pos] 40) := by rw [hW, heap_alloc_new]
  have hF : numT t = (t.k == 2) := by unfold numT; by_cases h : t.k = 2 <;> simp [h]
  obtain ⟨x0, x1, x2, x3, xf, xl⟩ := cells4 hx0
  have HW := Lib.hid hbW
  rw [hF]
  simp only [tokV]
  clear hF hbW hx0
  go_enter Tryz.func338, Tryz.ntmps338
  go_upto_region 1 with fail
  rw [← hW]
  clear hW
  go_wp2
  go_ret
  exact ⟨by simp, HW.out⟩

set_option maxRecDepth 100000 in
set_option maxHeartbeats 4000000 in
theorem fail_any {w : World} {b g cap : Nat} {ts : List Tok} {i dp : Nat} (H : RdAt w b g cap ts i dp) {t : Tok} (ht : ts[i]? = some t) (er : Int) :
    Calls Tryz.prog 284 #[.pointer (some ⟨b, 0, none⟩), .int .i64 er] w fun e w' => e = faultE er t.pos ∧ Below w.heap.size w w' := by
  have hnx := next_any H ht
  simp only [tokV] at hnx
  have HN := Lib.hid hnx
  have hfd := tok_pos
  clear hnx H ht
  go_enter Tryz.func284, Tryz.ntmps284
  go_wp2_with (go_at_call 171; refine HN.out.mono ?_; rintro e w1 ⟨rfl, hb1⟩; have HB1 := Lib.hid hb1; clear hb1 HN)
  exact ⟨rfl, rfl, HB1.out⟩
end Go.Proofs.YtggdpgaedmegbaaGreatDoor
