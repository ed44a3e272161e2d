/-
  Lists: the whole. Conditions: the reader lies in the heap; what a thing's reading comes to.
-/
import Derived.Test.YtggdpgaedmegbaaGreatDoorJPList
namespace Go.Proofs.YtggdpgaedmegbaaGreatDoor
open Go.RowKit

theorem con_sep {α : Type} {f : Rd α} (h : Con f) (b : Bool) : Con (sepR f b) := by
  unfold sepR
  cases b
  · exact con_bind (con_opt (by decide) (len_pure _) fun l a r e => by simp [failR] at e) fun _ => h.len
  · exact h
theorem kb_list {b k : Nat} {w w0 w2 : World} (h : Below w.heap.size w w0) (hw : w.heap.size ≤ k) (hk : Ko b (some k) w0 w2) : Kb b w w2 :=
  ⟨hk.os.trans h.os, hk.tape.trans h.tape, hk.output.trans h.output, Nat.le_trans h.size hk.size, fun x hx hn => (hk.block x (Nat.lt_of_lt_of_le hx h.size) hn fun e => by have := Option.some.inj e; omega).trans (h.block x hx)⟩
set_option maxRecDepth 100000 in
set_option maxHeartbeats 4000000 in
theorem list_Oper {w : World} {b g cap : Nat} {ts : List Tok} {i dp : Nat} (H : RdAt w b g cap ts i dp) (e : List UInt8) (he : e ≠ []) (f : Rd _) (hf : Con f)
    (hTh : ∀ (w : World) (i : Nat), RdAt w b g cap ts i dp → Calls Tryz.prog 327 #[.pointer (some ⟨b, 0, none⟩)] w (RPost w b g cap ts i dp (f (ts.drop i)) (VOf opV erOp OpH))) :
    Calls Tryz.prog 344 #[.pointer (some ⟨b, 0, none⟩), .string (strB e), (.func (.func 327) #[.pointer (some ⟨b, 0, none⟩)] #[])] w (RPost w b g cap ts i dp (rowL e (sepR f) (ts.drop i)) (VRow 4 opC erOp OpH)) := by
  obtain ⟨z, hz⟩ : ∃ z, strB e = z := ⟨_, rfl⟩
  obtain ⟨W0, hW⟩ : ∃ W0, W0 = ((w.alloc (.cells #[.pointer (some ⟨b, 0, none⟩)] 251)).alloc (.cells #[(.func (.func 327) #[.pointer (some ⟨b, 0, none⟩)] #[])] 303)).alloc (.cells #[.bool true] 4) := ⟨_, rfl⟩
  obtain ⟨hb0, hr0, ht0, hf0⟩ := pal3 w (.cells #[.pointer (some ⟨b, 0, none⟩)] 251) (.cells #[(.func (.func 327) #[.pointer (some ⟨b, 0, none⟩)] #[])] 303) (.cells #[.bool true] 4)
  rw [← hW] at hb0 hr0 ht0 hf0
  have hbw := blk_lt H.at_
  have hgw := H.toks.1
  have hvs := H.vars.size
  have HB := Lib.hid hb0
  have HH := Lib.hid (H.under hb0)
  have HL := Lib.hid (show LS b g (w.heap.size + 1 + 1) w.heap.size (w.heap.size + 1) 303 (.func (.func 327) #[.pointer (some ⟨b, 0, none⟩)] #[]) true W0 from ⟨hf0, hr0, ht0, by omega, by omega, by omega, by omega, by omega, by omega, by omega⟩)
  have hcr := row_Oper HH.out e he (o := some (w.heap.size + 1 + 1)) (S := LS b g (w.heap.size + 1 + 1) w.heap.size (w.heap.size + 1) 303 (.func (.func 327) #[.pointer (some ⟨b, 0, none⟩)] #[])) _ _ _ (sepR f) (cl_Oper f hTh) HL.out (fun x hx => by cases hx; exact blk_lt hf0)
    (fun fl w1 w2 h1 _ h2 => ⟨(h2 _ (blk_lt hf0) h1.ne.1).trans h1.flag, (h2 _ (blk_lt hr0) h1.ne.2.1).trans h1.rdr, (h2 _ (blk_lt ht0) h1.ne.2.2.1).trans h1.thing, h1.ne⟩) (con_sep hf)
  rw [hz] at hcr
  have HC := Lib.hid hcr
  have HN := Lib.hid (show ∀ a l, rowL e (sepR f) (ts.drop i) = .ok a l → l.length ≤ (ts.drop i).length from fun a l h => Nat.le_of_lt (con_row he (con_sep hf) _ _ _ _ _ h))
  have HLT := Lib.hid (And.intro H.lt hbw)
  clear hcr hb0 hbw hgw hvs H hTh hf he
  rw [hz]
  clear hz
  obtain ⟨x0, xf, xl⟩ := cells1p hr0
  obtain ⟨y0, yf, yl⟩ := cells1p ht0
  clear hr0 ht0 hf0
  go_enter Tryz.func344, Tryz.ntmps344
  go_upto_region 2 with fail
  rw [← hW]
  clear hW
  have hmf : ∀ (fn : Fn) (first cap : Array Value) (w : World), (Instr.makeFunc fn first cap).run Tryz.prog w = .ok (.func fn first cap) w := fun _ _ _ _ => rfl
  rcases hr : rowL e (sepR f) (ts.drop i) with ⟨a, l⟩ | ⟨er, p⟩
  rotate_left
  · have HR := Lib.hid hr
    clear hr
    go_wp2_with (go_at_call 345; refine HC.out.mono ?_; rintro e1 w2 ⟨hk2, h2⟩; rw [HR.out] at h2; simp only at h2; unfold faultE at h2; subst h2; have HK2 := Lib.hid hk2; clear hk2 HC)
    exact ⟨rfl, RPost.fault (kb_list HB.out (by omega) HK2.out) rfl⟩
  · have HR := Lib.hid hr
    clear hr
    go_wp2_with (go_at_call 345; refine HC.out.mono ?_; rintro e1 w2 ⟨hk2, h2⟩; rw [HR.out] at h2; simp only at h2; obtain ⟨j2, v2, fl, rfl, hl, hrd, hs, hv⟩ := h2; subst hl; have HK2 := Lib.hid hk2; have HV := Lib.hid (And.intro hrd hv); clear hk2 hrd hs hv HC)
    have hj : i ≤ j2 := by
      have h1 := HN.out _ _ HR.out
      rw [List.length_drop, List.length_drop] at h1
      have h2 := HV.out.1.lt
      have h3 := HLT.out.1
      omega
    exact bodyPost_ret (v := v2) (by simp [results, Tryz.results344, go_sem]) rfl (RPost.done (kb_list HB.out (by omega) HK2.out) HR.out hj HV.out.1 (HV.out.2.keep OpH.und (Kb.refl b _) (Nat.lt_of_lt_of_le HLT.out.2 HB.out.size) HB.out.size))
set_option maxRecDepth 100000 in
set_option maxHeartbeats 4000000 in
theorem list_Field {n : Nat} {w : World} {b g cap : Nat} {ts : List Tok} {i dp : Nat} (H : RdAt w b g cap ts i dp) (e : List UInt8) (he : e ≠ []) (f : Rd _) (hf : Con f)
    (hTh : ∀ (w : World) (i : Nat), RdAt w b g cap ts i dp → Calls Tryz.prog 242 #[.pointer (some ⟨b, 0, none⟩)] w (RPost w b g cap ts i dp (f (ts.drop i)) (VOf fdV erFd (FdH n)))) :
    Calls Tryz.prog 241 #[.pointer (some ⟨b, 0, none⟩), .string (strB e), (.func (.func 242) #[.pointer (some ⟨b, 0, none⟩)] #[])] w (RPost w b g cap ts i dp (rowL e (sepR f) (ts.drop i)) (VRow 4 fdC erFd (FdH n))) := by
  obtain ⟨z, hz⟩ : ∃ z, strB e = z := ⟨_, rfl⟩
  obtain ⟨W0, hW⟩ : ∃ W0, W0 = ((w.alloc (.cells #[.pointer (some ⟨b, 0, none⟩)] 251)).alloc (.cells #[(.func (.func 242) #[.pointer (some ⟨b, 0, none⟩)] #[])] 259)).alloc (.cells #[.bool true] 4) := ⟨_, rfl⟩
  obtain ⟨hb0, hr0, ht0, hf0⟩ := pal3 w (.cells #[.pointer (some ⟨b, 0, none⟩)] 251) (.cells #[(.func (.func 242) #[.pointer (some ⟨b, 0, none⟩)] #[])] 259) (.cells #[.bool true] 4)
  rw [← hW] at hb0 hr0 ht0 hf0
  have hbw := blk_lt H.at_
  have hgw := H.toks.1
  have hvs := H.vars.size
  have HB := Lib.hid hb0
  have HH := Lib.hid (H.under hb0)
  have HL := Lib.hid (show LS b g (w.heap.size + 1 + 1) w.heap.size (w.heap.size + 1) 259 (.func (.func 242) #[.pointer (some ⟨b, 0, none⟩)] #[]) true W0 from ⟨hf0, hr0, ht0, by omega, by omega, by omega, by omega, by omega, by omega, by omega⟩)
  have hcr := row_Field HH.out e he (o := some (w.heap.size + 1 + 1)) (S := LS b g (w.heap.size + 1 + 1) w.heap.size (w.heap.size + 1) 259 (.func (.func 242) #[.pointer (some ⟨b, 0, none⟩)] #[])) _ _ _ (sepR f) (cl_Field f hTh) HL.out (fun x hx => by cases hx; exact blk_lt hf0)
    (fun fl w1 w2 h1 _ h2 => ⟨(h2 _ (blk_lt hf0) h1.ne.1).trans h1.flag, (h2 _ (blk_lt hr0) h1.ne.2.1).trans h1.rdr, (h2 _ (blk_lt ht0) h1.ne.2.2.1).trans h1.thing, h1.ne⟩) (con_sep hf)
  rw [hz] at hcr
  have HC := Lib.hid hcr
  have HN := Lib.hid (show ∀ a l, rowL e (sepR f) (ts.drop i) = .ok a l → l.length ≤ (ts.drop i).length from fun a l h => Nat.le_of_lt (con_row he (con_sep hf) _ _ _ _ _ h))
  have HLT := Lib.hid (And.intro H.lt hbw)
  clear hcr hb0 hbw hgw hvs H hTh hf he
  rw [hz]
  clear hz
  obtain ⟨x0, xf, xl⟩ := cells1p hr0
  obtain ⟨y0, yf, yl⟩ := cells1p ht0
  clear hr0 ht0 hf0
  go_enter Tryz.func241, Tryz.ntmps241
  go_upto_region 2 with fail
  rw [← hW]
  clear hW
  have hmf : ∀ (fn : Fn) (first cap : Array Value) (w : World), (Instr.makeFunc fn first cap).run Tryz.prog w = .ok (.func fn first cap) w := fun _ _ _ _ => rfl
  rcases hr : rowL e (sepR f) (ts.drop i) with ⟨a, l⟩ | ⟨er, p⟩
  rotate_left
  · have HR := Lib.hid hr
    clear hr
    go_wp2_with (go_at_call 289; refine HC.out.mono ?_; rintro e1 w2 ⟨hk2, h2⟩; rw [HR.out] at h2; simp only at h2; unfold faultE at h2; subst h2; have HK2 := Lib.hid hk2; clear hk2 HC)
    exact ⟨rfl, RPost.fault (kb_list HB.out (by omega) HK2.out) rfl⟩
  · have HR := Lib.hid hr
    clear hr
    go_wp2_with (go_at_call 289; refine HC.out.mono ?_; rintro e1 w2 ⟨hk2, h2⟩; rw [HR.out] at h2; simp only at h2; obtain ⟨j2, v2, fl, rfl, hl, hrd, hs, hv⟩ := h2; subst hl; have HK2 := Lib.hid hk2; have HV := Lib.hid (And.intro hrd hv); clear hk2 hrd hs hv HC)
    have hj : i ≤ j2 := by
      have h1 := HN.out _ _ HR.out
      rw [List.length_drop, List.length_drop] at h1
      have h2 := HV.out.1.lt
      have h3 := HLT.out.1
      omega
    exact bodyPost_ret (v := v2) (by simp [results, Tryz.results241, go_sem]) rfl (RPost.done (kb_list HB.out (by omega) HK2.out) HR.out hj HV.out.1 (HV.out.2.keep (FdH.und n) (Kb.refl b _) (Nat.lt_of_lt_of_le HLT.out.2 HB.out.size) HB.out.size))
set_option maxRecDepth 100000 in
set_option maxHeartbeats 4000000 in
theorem list_Variant {n : Nat} {w : World} {b g cap : Nat} {ts : List Tok} {i dp : Nat} (H : RdAt w b g cap ts i dp) (e : List UInt8) (he : e ≠ []) (f : Rd _) (hf : Con f)
    (hTh : ∀ (w : World) (i : Nat), RdAt w b g cap ts i dp → Calls Tryz.prog 239 #[.pointer (some ⟨b, 0, none⟩)] w (RPost w b g cap ts i dp (f (ts.drop i)) (VOf fdV erFd (FdH n)))) :
    Calls Tryz.prog 238 #[.pointer (some ⟨b, 0, none⟩), .string (strB e), (.func (.func 239) #[.pointer (some ⟨b, 0, none⟩)] #[])] w (RPost w b g cap ts i dp (rowL e (sepR f) (ts.drop i)) (VRow 4 fdC erFd (FdH n))) := by
  obtain ⟨z, hz⟩ : ∃ z, strB e = z := ⟨_, rfl⟩
  obtain ⟨W0, hW⟩ : ∃ W0, W0 = ((w.alloc (.cells #[.pointer (some ⟨b, 0, none⟩)] 251)).alloc (.cells #[(.func (.func 239) #[.pointer (some ⟨b, 0, none⟩)] #[])] 184)).alloc (.cells #[.bool true] 4) := ⟨_, rfl⟩
  obtain ⟨hb0, hr0, ht0, hf0⟩ := pal3 w (.cells #[.pointer (some ⟨b, 0, none⟩)] 251) (.cells #[(.func (.func 239) #[.pointer (some ⟨b, 0, none⟩)] #[])] 184) (.cells #[.bool true] 4)
  rw [← hW] at hb0 hr0 ht0 hf0
  have hbw := blk_lt H.at_
  have hgw := H.toks.1
  have hvs := H.vars.size
  have HB := Lib.hid hb0
  have HH := Lib.hid (H.under hb0)
  have HL := Lib.hid (show LS b g (w.heap.size + 1 + 1) w.heap.size (w.heap.size + 1) 184 (.func (.func 239) #[.pointer (some ⟨b, 0, none⟩)] #[]) true W0 from ⟨hf0, hr0, ht0, by omega, by omega, by omega, by omega, by omega, by omega, by omega⟩)
  have hcr := row_Variant HH.out e he (o := some (w.heap.size + 1 + 1)) (S := LS b g (w.heap.size + 1 + 1) w.heap.size (w.heap.size + 1) 184 (.func (.func 239) #[.pointer (some ⟨b, 0, none⟩)] #[])) _ _ _ (sepR f) (cl_Variant f hTh) HL.out (fun x hx => by cases hx; exact blk_lt hf0)
    (fun fl w1 w2 h1 _ h2 => ⟨(h2 _ (blk_lt hf0) h1.ne.1).trans h1.flag, (h2 _ (blk_lt hr0) h1.ne.2.1).trans h1.rdr, (h2 _ (blk_lt ht0) h1.ne.2.2.1).trans h1.thing, h1.ne⟩) (con_sep hf)
  rw [hz] at hcr
  have HC := Lib.hid hcr
  have HN := Lib.hid (show ∀ a l, rowL e (sepR f) (ts.drop i) = .ok a l → l.length ≤ (ts.drop i).length from fun a l h => Nat.le_of_lt (con_row he (con_sep hf) _ _ _ _ _ h))
  have HLT := Lib.hid (And.intro H.lt hbw)
  clear hcr hb0 hbw hgw hvs H hTh hf he
  rw [hz]
  clear hz
  obtain ⟨x0, xf, xl⟩ := cells1p hr0
  obtain ⟨y0, yf, yl⟩ := cells1p ht0
  clear hr0 ht0 hf0
  go_enter Tryz.func238, Tryz.ntmps238
  go_upto_region 2 with fail
  rw [← hW]
  clear hW
  have hmf : ∀ (fn : Fn) (first cap : Array Value) (w : World), (Instr.makeFunc fn first cap).run Tryz.prog w = .ok (.func fn first cap) w := fun _ _ _ _ => rfl
  rcases hr : rowL e (sepR f) (ts.drop i) with ⟨a, l⟩ | ⟨er, p⟩
  rotate_left
  · have HR := Lib.hid hr
    clear hr
    go_wp2_with (go_at_call 285; refine HC.out.mono ?_; rintro e1 w2 ⟨hk2, h2⟩; rw [HR.out] at h2; simp only at h2; unfold faultE at h2; subst h2; have HK2 := Lib.hid hk2; clear hk2 HC)
    exact ⟨rfl, RPost.fault (kb_list HB.out (by omega) HK2.out) rfl⟩
  · have HR := Lib.hid hr
    clear hr
    go_wp2_with (go_at_call 285; refine HC.out.mono ?_; rintro e1 w2 ⟨hk2, h2⟩; rw [HR.out] at h2; simp only at h2; obtain ⟨j2, v2, fl, rfl, hl, hrd, hs, hv⟩ := h2; subst hl; have HK2 := Lib.hid hk2; have HV := Lib.hid (And.intro hrd hv); clear hk2 hrd hs hv HC)
    have hj : i ≤ j2 := by
      have h1 := HN.out _ _ HR.out
      rw [List.length_drop, List.length_drop] at h1
      have h2 := HV.out.1.lt
      have h3 := HLT.out.1
      omega
    exact bodyPost_ret (v := v2) (by simp [results, Tryz.results238, go_sem]) rfl (RPost.done (kb_list HB.out (by omega) HK2.out) HR.out hj HV.out.1 (HV.out.2.keep (FdH.und n) (Kb.refl b _) (Nat.lt_of_lt_of_le HLT.out.2 HB.out.size) HB.out.size))
end Go.Proofs.YtggdpgaedmegbaaGreatDoor
