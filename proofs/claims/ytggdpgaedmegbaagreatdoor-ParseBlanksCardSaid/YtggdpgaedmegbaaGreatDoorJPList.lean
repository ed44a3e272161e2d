/-
  Lists: the closure that reads a comma and a thing; the whole. Conditions: the reader lies in the heap; what a thing's reading comes to.
-/
import Derived.Test.YtggdpgaedmegbaaGreatDoorJPSoV
import Derived.Test.YtggdpgaedmegbaaGreatDoorJPRowF
namespace Go.Proofs.YtggdpgaedmegbaaGreatDoor
open Go.RowKit

theorem Ko.setO {b k : Nat} (w : World) (v : Value) : Ko b (some k) w (w.setCell ⟨k, 0, none⟩ v) :=
  ⟨rfl, rfl, rfl, by simp [World.setCell], fun x _ _ hno => Below.heap_setCell _ _ _ _ fun e => hno (by rw [e])⟩
theorem Ko.box {b k : Nat} {o : Option Nat} {w w1 w2 : World} (h : Ko b o w w1) (hk : w.heap.size ≤ k) (hb : Below k w1 w2) (hn : ∀ x, x ≠ k → w2.heap[x]? = w1.heap[x]?) : Ko b o w w2 :=
  ⟨hb.os.trans h.os, hb.tape.trans h.tape, hb.output.trans h.output, Nat.le_trans h.size hb.size, fun x hx h1 h2 => (hn x (by omega)).trans (h.block x hx h1 h2)⟩
/-- where a list's closure has its flag, its reader, its thing -/
structure LS (b g fb rb tb : Nat) (FT : TypeId) (fv : Value) (fl : Bool) (w : World) : Prop where
  flag : w.heap[fb]? = some (.cells #[.bool fl] 4)
  rdr : w.heap[rb]? = some (.cells #[.pointer (some ⟨b, 0, none⟩)] 251)
  thing : w.heap[tb]? = some (.cells #[fv] FT)
  ne : fb ≠ b ∧ rb ≠ b ∧ tb ≠ b ∧ fb ≠ rb ∧ fb ≠ tb ∧ nG ≤ fb ∧ g ≠ fb
theorem LS.kb {b g fb rb tb : Nat} {FT : TypeId} {fv : Value} {fl : Bool} {w w' : World} (h : LS b g fb rb tb FT fv fl w) (hk : Kb b w w') : LS b g fb rb tb FT fv fl w' :=
  ⟨hk.kept h.flag h.ne.1, hk.kept h.rdr h.ne.2.1, hk.kept h.thing h.ne.2.2.1, h.ne⟩
theorem LS.set {b g fb rb tb : Nat} {FT : TypeId} {fv : Value} {fl : Bool} {w : World} (h : LS b g fb rb tb FT fv fl w) : LS b g fb rb tb FT fv false (w.setCell ⟨fb, 0, none⟩ (.bool false)) :=
  ⟨by have := heap_setCell_same w fb 0 _ _ (.bool false) h.flag; simpa using this, (Below.heap_setCell _ _ _ _ h.ne.2.2.2.1.symm).trans h.rdr, (Below.heap_setCell _ _ _ _ h.ne.2.2.2.2.1.symm).trans h.thing, h.ne⟩
theorem LS.box {b g fb rb tb k : Nat} {FT : TypeId} {fv : Value} {fl : Bool} {w w' : World} (h : LS b g fb rb tb FT fv fl w) (hn : ∀ x, x ≠ k → w'.heap[x]? = w.heap[x]?) (h1 : fb ≠ k) (h2 : rb ≠ k) (h3 : tb ≠ k) : LS b g fb rb tb FT fv fl w' :=
  ⟨(hn _ h1).trans h.flag, (hn _ h2).trans h.rdr, (hn _ h3).trans h.thing, h.ne⟩
/-- what the reading of a thing comes to, as a name of its own -/
def ThP {α : Type} (b g cap : Nat) (ts : List Tok) (dp : Nat) (o : Option Nat) (S : Bool → World → Prop) (val : α → Value) (er : α → α) (P : World → α → Prop) (w : World) (r : Rs α) (e : Ending) (w' : World) : Prop :=
  Ko b o w w' ∧ match r with
    | .ok a l => ∃ j v, e = .returned v ∧ l = ts.drop j ∧ RdAt w' b g cap ts j dp ∧ S false w' ∧ VOf val er P w' w.heap.size v a
    | .no er p => e = faultE er p
theorem ThP.fault {α : Type} {b g cap : Nat} {ts : List Tok} {dp : Nat} {o : Option Nat} {S : Bool → World → Prop} {val : α → Value} {er : α → α} {P : World → α → Prop} {w w' : World} {r : Rs α} {e : Int} {p : Nat} (hk : Ko b o w w') (h : r = .no e p) : ThP b g cap ts dp o S val er P w r (faultE e p) w' := by
  subst h
  exact ⟨hk, rfl⟩
theorem ThP.done {α : Type} {b g cap : Nat} {ts : List Tok} {dp : Nat} {o : Option Nat} {S : Bool → World → Prop} {val : α → Value} {er : α → α} {P : World → α → Prop} {w w' : World} {r : Rs α} {a : α} {j : Nat} {v : Value} (hk : Ko b o w w') (h : r = .ok a (ts.drop j)) (H : RdAt w' b g cap ts j dp) (hs : S false w') (hv : VOf val er P w' w.heap.size v a) : ThP b g cap ts dp o S val er P w r (.returned v) w' := by
  subst h
  exact ⟨hk, j, v, rfl, rfl, H, hs, hv⟩
set_option maxRecDepth 100000 in
set_option maxHeartbeats 4000000 in
theorem cl_Oper {b g cap : Nat} {ts : List Tok} {dp : Nat} {fb rb tb : Nat} (f : Rd _)
    (hTh : ∀ (w : World) (i : Nat), RdAt w b g cap ts i dp → Calls Tryz.prog 327 #[.pointer (some ⟨b, 0, none⟩)] w (RPost w b g cap ts i dp (f (ts.drop i)) (VOf opV erOp OpH))) :
    ThC 346 #[.pointer (some ⟨fb, 0, none⟩), .pointer (some ⟨rb, 0, none⟩), .pointer (some ⟨tb, 0, none⟩)] b g cap ts dp (some fb) (LS b g fb rb tb 303 (.func (.func 327) #[.pointer (some ⟨b, 0, none⟩)] #[])) (sepR f) opV erOp OpH := by
  intro fl w i H hs
  have HTh := Lib.hid hTh
  clear hTh
  have HGB := Lib.hid (And.intro H.toks.1 (And.intro H.vars.size (show b < w.heap.size from blk_lt H.at_)))
  have HLT := Lib.hid (And.intro (blk_lt hs.flag) (And.intro (blk_lt hs.rdr) (blk_lt hs.thing)))
  have HNE := Lib.hid hs.ne
  obtain ⟨r, hQ⟩ : ∃ r, sepR f fl (ts.drop i) = r := ⟨_, rfl⟩
  show Calls Tryz.prog 346 _ w (ThP b g cap ts dp (some fb) (LS b g fb rb tb 303 (.func (.func 327) #[.pointer (some ⟨b, 0, none⟩)] #[])) opV erOp OpH w (sepR f fl (ts.drop i)))
  rw [hQ]
  have HQ := Lib.hid hQ
  clear hQ
  obtain ⟨W0, hW⟩ : ∃ W0, W0 = w.alloc (.cells #[.bool false, .int .i64 0, .string ⟨#[]⟩, .slice none 0 0] 105) := ⟨_, rfl⟩
  have hbW : Below w.heap.size w W0 := by rw [hW]; exact alloc_below _ _
  have hx0 : W0.heap[w.heap.size]? = some (.cells #[.bool false, .int .i64 0, .string ⟨#[]⟩, .slice none 0 0] 105) := by rw [hW, heap_alloc_new]
  have HK0 := Lib.hid (Kb.of_below (b := b) hbW)
  have HH0 := Lib.hid (H.under hbW)
  have HL0 := Lib.hid (hs.kb HK0.out)
  obtain ⟨B, hB⟩ : ∃ B, B = w.heap.size := ⟨_, rfl⟩
  rw [← hB] at hx0
  have HX0 := Lib.hid hx0
  clear hbW hx0 H hs
  go_enter Tryz.func346, Tryz.ntmps346
  go_upto_region 1 with fail
  rw [← hW]
  simp only [← hB]
  clear hW
  have HBb := Lib.hid (show B ≠ b ∧ g ≠ B ∧ nG ≤ B ∧ w.heap.size ≤ B ∧ fb ≠ B ∧ rb ≠ B ∧ tb ≠ B by have h1 := HGB.out; have h2 := HLT.out; rw [hB]; exact ⟨by omega, by omega, by omega, by omega, by omega, by omega, by omega⟩)
  replace hB := Lib.hid hB
  cases fl
  · have hQ := HQ.out
    unfold sepR at hQ
    rw [if_neg (by decide)] at hQ
    replace HQ := Lib.hid hQ
    clear hQ
    have hc := need_any HH0.out wComma (by decide)
    have HC := Lib.hid hc
    clear hc
    obtain ⟨e0, ef, el⟩ := cells1p HL0.out.flag
    obtain ⟨f0, ff, fll⟩ := cells1p HL0.out.rdr
    rcases hr : needR wComma (ts.drop i) with ⟨a1, l1⟩ | ⟨er, p⟩
    rotate_left
    · have HR := Lib.hid hr
      clear hr
      go_wp2_with (go_at_call 237; refine HC.out.mono ?_; rintro e W1 hp; obtain ⟨he, hk⟩ := hp.no HR.out; unfold faultE at he; subst he; have HK := Lib.hid hk; clear hk hp HC)
      exact ⟨rfl, ThP.fault ((Ko.of HK0.out).trans (Ko.of HK.out)) (HQ.out.symm.trans (bind_no HR.out))⟩
    have HR := Lib.hid hr
    clear hr
    go_upto_region 3 with (go_at_call 237; refine HC.out.mono ?_; rintro e W1 hp; obtain ⟨hk, j1, v1, rfl, hl, hj, hrd, hv⟩ := hp.ok HR.out; subst hl; unfold VUnit at hv; subst hv; have HK1 := Lib.hid (HK0.out.trans hk); have HH1 := Lib.hid hrd; have HX1 := Lib.hid (hk.kept HX0.out HBb.out.1); have HL1 := Lib.hid (HL0.out.kb hk); clear hk hp hrd hj HC)
    have hQ := HQ.out
    rw [bind_ok HR.out] at hQ
    replace HQ := Lib.hid hQ
    clear hQ HR e0 ef el f0 ff fll
    obtain ⟨e0, ef, el⟩ := cells1p HL1.out.flag
    go_upto_region 4 with fail
    clear e0 ef el
    obtain ⟨W2, hW⟩ : ∃ W, W = W1.setCell ⟨fb, 0, none⟩ (.bool false) := ⟨_, rfl⟩
    rw [← hW]
    have HL2 := Lib.hid (show LS b g fb rb tb 303 _ false W2 by rw [hW]; exact HL1.out.set)
    have HH2 := Lib.hid (show RdAt W2 b g cap ts j1 dp by rw [hW]; exact HH1.out.setNew HNE.out.1.symm 0 _ HL1.out.flag HNE.out.2.2.2.2.2.2 HNE.out.2.2.2.2.2.1)
    have HKo2 := Lib.hid (show Ko b (some fb) w W2 by rw [hW]; exact (Ko.of HK1.out).trans (Ko.setO _ _))
    have HX2 := Lib.hid (show W2.heap[B]? = some (.cells #[.bool false, .int .i64 0, .string ⟨#[]⟩, .slice none 0 0] 105) by rw [hW]; exact (Below.heap_setCell _ _ _ _ HBb.out.2.2.2.2.1.symm).trans HX1.out)
    clear hW
    have hc := HTh.out _ _ HH2.out
    have HC := Lib.hid hc
    clear hc
    obtain ⟨e0, ef, el⟩ := cells1p HL2.out.thing
    rcases hr : f (ts.drop j1) with ⟨a3, l3⟩ | ⟨er, p⟩
    rotate_left
    · have HR := Lib.hid hr
      clear hr
      go_wp2_with (go_at_call 327; refine HC.out.mono ?_; rintro e W3 hp; obtain ⟨he, hk⟩ := hp.no HR.out; unfold faultE at he; subst he; have HK := Lib.hid hk; clear hk hp HC)
      exact ⟨rfl, ThP.fault (HKo2.out.trans (Ko.of HK.out)) (HQ.out.symm.trans HR.out)⟩
    have HR := Lib.hid hr
    clear hr
    go_wp2_with
      (first
        | (go_at_call 327; refine HC.out.mono ?_; rintro e W3 hp; obtain ⟨hk, j3, v3, rfl, hl, hj, hrd, hv⟩ := hp.ok HR.out; subst hl; obtain ⟨⟨xnum, xn, ⟨xnm, xh, xp⟩⟩, rfl, hae, hpp⟩ := hv; simp only [opV, opC, plC, List.cons_append, List.nil_append]; have HK := Lib.hid hk; have HH3 := Lib.hid hrd; have HX3 := Lib.hid (hk.kept HX2.out HBb.out.1); have HP := Lib.hid (And.intro hae hpp); clear hk hp hrd hj hae hpp HC)
        | (refine wpList_store_box rfl 105 (.tmp 3) (.tmp 9) rfl B 0 rfl (.agg #[.bool xnum, .int .i64 xn, .string xnm, .slice xh.oa xp.length xh.cap]) rfl [.bool xnum, .int .i64 xn, .string xnm, .slice xh.oa xp.length xh.cap] rfl [.bool false, .int .i64 0, .string ⟨#[]⟩, .slice none 0 0] 105 HX3.out (Nat.le_refl _) (show (Tryz.prog.info? 105).map (·.size) = some 4 by kernel_rfl) ?c1 B (Nat.le_refl _) W3 (Below.refl _ _) ?_))
    case c1 => first | exact rfl | exact ⟨rfl, rfl⟩ | exact ⟨rfl, rfl, rfl⟩ | exact ⟨rfl, rfl, rfl, rfl⟩ | (intro v hv; simp at hv; rcases hv with rfl | rfl | rfl | rfl <;> rfl)
    intro WF hb hbx hoth
    have HF := Lib.hid (And.intro ((HKo2.out.trans (Ko.of HK.out)).box HBb.out.2.2.2.1 hb hoth) (HH3.out.box hb hoth HBb.out.1.symm HBb.out.2.1 HBb.out.2.2.1))
    have HLF := Lib.hid ((HL2.out.kb HK.out).box hoth HBb.out.2.2.2.2.1 HBb.out.2.2.2.2.2.1 HBb.out.2.2.2.2.2.2)
    have HU := Lib.hid (And.intro HP.out.1 (OpH.und _ _ _ (und_box hb hoth (blk_lt HX2.out) HKo2.out.size) HP.out.2))
    clear hb
    obtain ⟨q0, q1, q2, q3, qf, ql⟩ := cells4 (show WF.heap[B]? = some (.cells #[.bool xnum, .int .i64 xn, .string xnm, .slice xh.oa xp.length xh.cap] 105) from hbx)
    go_wp2
    exact bodyPost_ret (v := .agg #[.bool xnum, .int .i64 xn, .string xnm, .slice xh.oa xp.length xh.cap]) (by simp [results, Tryz.results346, go_sem, q0, q1, q2, q3]) rfl (ThP.done HF.out.1 (HQ.out.symm.trans HR.out) HF.out.2 HLF.out ⟨_, rfl, HU.out.1, HU.out.2⟩)
  · have hQ := HQ.out
    unfold sepR at hQ
    rw [if_pos rfl] at hQ
    replace HQ := Lib.hid hQ
    clear hQ
    obtain ⟨e0, ef, el⟩ := cells1p HL0.out.flag
    go_upto_region 4 with fail
    clear e0 ef el
    obtain ⟨W1, hW⟩ : ∃ W, W = W0.setCell ⟨fb, 0, none⟩ (.bool false) := ⟨_, rfl⟩
    rw [← hW]
    have HL1 := Lib.hid (show LS b g fb rb tb 303 _ false W1 by rw [hW]; exact HL0.out.set)
    have HH1 := Lib.hid (show RdAt W1 b g cap ts i dp by rw [hW]; exact HH0.out.setNew HNE.out.1.symm 0 _ HL0.out.flag HNE.out.2.2.2.2.2.2 HNE.out.2.2.2.2.2.1)
    have HKo1 := Lib.hid (show Ko b (some fb) w W1 by rw [hW]; exact (Ko.of HK0.out).trans (Ko.setO _ _))
    have HX1 := Lib.hid (show W1.heap[B]? = some (.cells #[.bool false, .int .i64 0, .string ⟨#[]⟩, .slice none 0 0] 105) by rw [hW]; exact (Below.heap_setCell _ _ _ _ HBb.out.2.2.2.2.1.symm).trans HX0.out)
    clear hW
    have hc := HTh.out _ _ HH1.out
    have HC := Lib.hid hc
    clear hc
    obtain ⟨e0, ef, el⟩ := cells1p HL1.out.thing
    rcases hr : f (ts.drop i) with ⟨a2, l2⟩ | ⟨er, p⟩
    rotate_left
    · have HR := Lib.hid hr
      clear hr
      go_wp2_with (go_at_call 327; refine HC.out.mono ?_; rintro e W2 hp; obtain ⟨he, hk⟩ := hp.no HR.out; unfold faultE at he; subst he; have HK := Lib.hid hk; clear hk hp HC)
      exact ⟨rfl, ThP.fault (HKo1.out.trans (Ko.of HK.out)) (HQ.out.symm.trans HR.out)⟩
    have HR := Lib.hid hr
    clear hr
    go_wp2_with
      (first
        | (go_at_call 327; refine HC.out.mono ?_; rintro e W2 hp; obtain ⟨hk, j2, v2, rfl, hl, hj, hrd, hv⟩ := hp.ok HR.out; subst hl; obtain ⟨⟨xnum, xn, ⟨xnm, xh, xp⟩⟩, rfl, hae, hpp⟩ := hv; simp only [opV, opC, plC, List.cons_append, List.nil_append]; have HK := Lib.hid hk; have HH2 := Lib.hid hrd; have HX2 := Lib.hid (hk.kept HX1.out HBb.out.1); have HP := Lib.hid (And.intro hae hpp); clear hk hp hrd hj hae hpp HC)
        | (refine wpList_store_box rfl 105 (.tmp 3) (.tmp 9) rfl B 0 rfl (.agg #[.bool xnum, .int .i64 xn, .string xnm, .slice xh.oa xp.length xh.cap]) rfl [.bool xnum, .int .i64 xn, .string xnm, .slice xh.oa xp.length xh.cap] rfl [.bool false, .int .i64 0, .string ⟨#[]⟩, .slice none 0 0] 105 HX2.out (Nat.le_refl _) (show (Tryz.prog.info? 105).map (·.size) = some 4 by kernel_rfl) ?c1 B (Nat.le_refl _) W2 (Below.refl _ _) ?_))
    case c1 => first | exact rfl | exact ⟨rfl, rfl⟩ | exact ⟨rfl, rfl, rfl⟩ | exact ⟨rfl, rfl, rfl, rfl⟩ | (intro v hv; simp at hv; rcases hv with rfl | rfl | rfl | rfl <;> rfl)
    intro WF hb hbx hoth
    have HF := Lib.hid (And.intro ((HKo1.out.trans (Ko.of HK.out)).box HBb.out.2.2.2.1 hb hoth) (HH2.out.box hb hoth HBb.out.1.symm HBb.out.2.1 HBb.out.2.2.1))
    have HLF := Lib.hid ((HL1.out.kb HK.out).box hoth HBb.out.2.2.2.2.1 HBb.out.2.2.2.2.2.1 HBb.out.2.2.2.2.2.2)
    have HU := Lib.hid (And.intro HP.out.1 (OpH.und _ _ _ (und_box hb hoth (blk_lt HX1.out) HKo1.out.size) HP.out.2))
    clear hb
    obtain ⟨q0, q1, q2, q3, qf, ql⟩ := cells4 (show WF.heap[B]? = some (.cells #[.bool xnum, .int .i64 xn, .string xnm, .slice xh.oa xp.length xh.cap] 105) from hbx)
    go_wp2
    exact bodyPost_ret (v := .agg #[.bool xnum, .int .i64 xn, .string xnm, .slice xh.oa xp.length xh.cap]) (by simp [results, Tryz.results346, go_sem, q0, q1, q2, q3]) rfl (ThP.done HF.out.1 (HQ.out.symm.trans HR.out) HF.out.2 HLF.out ⟨_, rfl, HU.out.1, HU.out.2⟩)
set_option maxRecDepth 100000 in
set_option maxHeartbeats 4000000 in
theorem cl_Field {n : Nat} {b g cap : Nat} {ts : List Tok} {dp : Nat} {fb rb tb : Nat} (f : Rd _)
    (hTh : ∀ (w : World) (i : Nat), RdAt w b g cap ts i dp → Calls Tryz.prog 242 #[.pointer (some ⟨b, 0, none⟩)] w (RPost w b g cap ts i dp (f (ts.drop i)) (VOf fdV erFd (FdH n)))) :
    ThC 290 #[.pointer (some ⟨fb, 0, none⟩), .pointer (some ⟨rb, 0, none⟩), .pointer (some ⟨tb, 0, none⟩)] b g cap ts dp (some fb) (LS b g fb rb tb 259 (.func (.func 242) #[.pointer (some ⟨b, 0, none⟩)] #[])) (sepR f) fdV erFd (FdH n) := by
  intro fl w i H hs
  have HTh := Lib.hid hTh
  clear hTh
  have HGB := Lib.hid (And.intro H.toks.1 (And.intro H.vars.size (show b < w.heap.size from blk_lt H.at_)))
  have HLT := Lib.hid (And.intro (blk_lt hs.flag) (And.intro (blk_lt hs.rdr) (blk_lt hs.thing)))
  have HNE := Lib.hid hs.ne
  obtain ⟨r, hQ⟩ : ∃ r, sepR f fl (ts.drop i) = r := ⟨_, rfl⟩
  show Calls Tryz.prog 290 _ w (ThP b g cap ts dp (some fb) (LS b g fb rb tb 259 (.func (.func 242) #[.pointer (some ⟨b, 0, none⟩)] #[])) fdV erFd (FdH n) w (sepR f fl (ts.drop i)))
  rw [hQ]
  have HQ := Lib.hid hQ
  clear hQ
  obtain ⟨W0, hW⟩ : ∃ W0, W0 = w.alloc (.cells #[.string ⟨#[]⟩, .int .i64 0, .string ⟨#[]⟩, .slice none 0 0] 56) := ⟨_, rfl⟩
  have hbW : Below w.heap.size w W0 := by rw [hW]; exact alloc_below _ _
  have hx0 : W0.heap[w.heap.size]? = some (.cells #[.string ⟨#[]⟩, .int .i64 0, .string ⟨#[]⟩, .slice none 0 0] 56) := by rw [hW, heap_alloc_new]
  have HK0 := Lib.hid (Kb.of_below (b := b) hbW)
  have HH0 := Lib.hid (H.under hbW)
  have HL0 := Lib.hid (hs.kb HK0.out)
  obtain ⟨B, hB⟩ : ∃ B, B = w.heap.size := ⟨_, rfl⟩
  rw [← hB] at hx0
  have HX0 := Lib.hid hx0
  clear hbW hx0 H hs
  go_enter Tryz.func290, Tryz.ntmps290
  go_upto_region 1 with fail
  rw [← hW]
  simp only [← hB]
  clear hW
  have HBb := Lib.hid (show B ≠ b ∧ g ≠ B ∧ nG ≤ B ∧ w.heap.size ≤ B ∧ fb ≠ B ∧ rb ≠ B ∧ tb ≠ B by have h1 := HGB.out; have h2 := HLT.out; rw [hB]; exact ⟨by omega, by omega, by omega, by omega, by omega, by omega, by omega⟩)
  replace hB := Lib.hid hB
  cases fl
  · have hQ := HQ.out
    unfold sepR at hQ
    rw [if_neg (by decide)] at hQ
    replace HQ := Lib.hid hQ
    clear hQ
    have hc := need_any HH0.out wComma (by decide)
    have HC := Lib.hid hc
    clear hc
    obtain ⟨e0, ef, el⟩ := cells1p HL0.out.flag
    obtain ⟨f0, ff, fll⟩ := cells1p HL0.out.rdr
    rcases hr : needR wComma (ts.drop i) with ⟨a1, l1⟩ | ⟨er, p⟩
    rotate_left
    · have HR := Lib.hid hr
      clear hr
      go_wp2_with (go_at_call 237; refine HC.out.mono ?_; rintro e W1 hp; obtain ⟨he, hk⟩ := hp.no HR.out; unfold faultE at he; subst he; have HK := Lib.hid hk; clear hk hp HC)
      exact ⟨rfl, ThP.fault ((Ko.of HK0.out).trans (Ko.of HK.out)) (HQ.out.symm.trans (bind_no HR.out))⟩
    have HR := Lib.hid hr
    clear hr
    go_upto_region 3 with (go_at_call 237; refine HC.out.mono ?_; rintro e W1 hp; obtain ⟨hk, j1, v1, rfl, hl, hj, hrd, hv⟩ := hp.ok HR.out; subst hl; unfold VUnit at hv; subst hv; have HK1 := Lib.hid (HK0.out.trans hk); have HH1 := Lib.hid hrd; have HX1 := Lib.hid (hk.kept HX0.out HBb.out.1); have HL1 := Lib.hid (HL0.out.kb hk); clear hk hp hrd hj HC)
    have hQ := HQ.out
    rw [bind_ok HR.out] at hQ
    replace HQ := Lib.hid hQ
    clear hQ HR e0 ef el f0 ff fll
    obtain ⟨e0, ef, el⟩ := cells1p HL1.out.flag
    go_upto_region 4 with fail
    clear e0 ef el
    obtain ⟨W2, hW⟩ : ∃ W, W = W1.setCell ⟨fb, 0, none⟩ (.bool false) := ⟨_, rfl⟩
    rw [← hW]
    have HL2 := Lib.hid (show LS b g fb rb tb 259 _ false W2 by rw [hW]; exact HL1.out.set)
    have HH2 := Lib.hid (show RdAt W2 b g cap ts j1 dp by rw [hW]; exact HH1.out.setNew HNE.out.1.symm 0 _ HL1.out.flag HNE.out.2.2.2.2.2.2 HNE.out.2.2.2.2.2.1)
    have HKo2 := Lib.hid (show Ko b (some fb) w W2 by rw [hW]; exact (Ko.of HK1.out).trans (Ko.setO _ _))
    have HX2 := Lib.hid (show W2.heap[B]? = some (.cells #[.string ⟨#[]⟩, .int .i64 0, .string ⟨#[]⟩, .slice none 0 0] 56) by rw [hW]; exact (Below.heap_setCell _ _ _ _ HBb.out.2.2.2.2.1.symm).trans HX1.out)
    clear hW
    have hc := HTh.out _ _ HH2.out
    have HC := Lib.hid hc
    clear hc
    obtain ⟨e0, ef, el⟩ := cells1p HL2.out.thing
    rcases hr : f (ts.drop j1) with ⟨a3, l3⟩ | ⟨er, p⟩
    rotate_left
    · have HR := Lib.hid hr
      clear hr
      go_wp2_with (go_at_call 242; refine HC.out.mono ?_; rintro e W3 hp; obtain ⟨he, hk⟩ := hp.no HR.out; unfold faultE at he; subst he; have HK := Lib.hid hk; clear hk hp HC)
      exact ⟨rfl, ThP.fault (HKo2.out.trans (Ko.of HK.out)) (HQ.out.symm.trans HR.out)⟩
    have HR := Lib.hid hr
    clear hr
    go_wp2_with
      (first
        | (go_at_call 242; refine HC.out.mono ?_; rintro e W3 hp; obtain ⟨hk, j3, v3, rfl, hl, hj, hrd, hv⟩ := hp.ok HR.out; subst hl; obtain ⟨⟨xnm, xk, xn, xh, xl⟩, rfl, hae, hpp⟩ := hv; simp only [fdV, fdC, tyC, List.cons_append, List.nil_append]; have HK := Lib.hid hk; have HH3 := Lib.hid hrd; have HX3 := Lib.hid (hk.kept HX2.out HBb.out.1); have HP := Lib.hid (And.intro hae hpp); clear hk hp hrd hj hae hpp HC)
        | (refine wpList_store_box rfl 56 (.tmp 3) (.tmp 9) rfl B 0 rfl (.agg #[.string xnm, .int .i64 xk, .string xn, .slice xh.oa xl.length xh.cap]) rfl [.string xnm, .int .i64 xk, .string xn, .slice xh.oa xl.length xh.cap] rfl [.string ⟨#[]⟩, .int .i64 0, .string ⟨#[]⟩, .slice none 0 0] 56 HX3.out (Nat.le_refl _) (show (Tryz.prog.info? 56).map (·.size) = some 4 by kernel_rfl) ?c1 B (Nat.le_refl _) W3 (Below.refl _ _) ?_))
    case c1 => first | exact rfl | exact ⟨rfl, rfl⟩ | exact ⟨rfl, rfl, rfl⟩ | exact ⟨rfl, rfl, rfl, rfl⟩ | (intro v hv; simp at hv; rcases hv with rfl | rfl | rfl | rfl <;> rfl)
    intro WF hb hbx hoth
    have HF := Lib.hid (And.intro ((HKo2.out.trans (Ko.of HK.out)).box HBb.out.2.2.2.1 hb hoth) (HH3.out.box hb hoth HBb.out.1.symm HBb.out.2.1 HBb.out.2.2.1))
    have HLF := Lib.hid ((HL2.out.kb HK.out).box hoth HBb.out.2.2.2.2.1 HBb.out.2.2.2.2.2.1 HBb.out.2.2.2.2.2.2)
    have HU := Lib.hid (And.intro HP.out.1 ((FdH.und n) _ _ _ (und_box hb hoth (blk_lt HX2.out) HKo2.out.size) HP.out.2))
    clear hb
    obtain ⟨q0, q1, q2, q3, qf, ql⟩ := cells4 (show WF.heap[B]? = some (.cells #[.string xnm, .int .i64 xk, .string xn, .slice xh.oa xl.length xh.cap] 56) from hbx)
    go_wp2
    exact bodyPost_ret (v := .agg #[.string xnm, .int .i64 xk, .string xn, .slice xh.oa xl.length xh.cap]) (by simp [results, Tryz.results290, go_sem, q0, q1, q2, q3]) rfl (ThP.done HF.out.1 (HQ.out.symm.trans HR.out) HF.out.2 HLF.out ⟨_, rfl, HU.out.1, HU.out.2⟩)
  · have hQ := HQ.out
    unfold sepR at hQ
    rw [if_pos rfl] at hQ
    replace HQ := Lib.hid hQ
    clear hQ
    obtain ⟨e0, ef, el⟩ := cells1p HL0.out.flag
    go_upto_region 4 with fail
    clear e0 ef el
    obtain ⟨W1, hW⟩ : ∃ W, W = W0.setCell ⟨fb, 0, none⟩ (.bool false) := ⟨_, rfl⟩
    rw [← hW]
    have HL1 := Lib.hid (show LS b g fb rb tb 259 _ false W1 by rw [hW]; exact HL0.out.set)
    have HH1 := Lib.hid (show RdAt W1 b g cap ts i dp by rw [hW]; exact HH0.out.setNew HNE.out.1.symm 0 _ HL0.out.flag HNE.out.2.2.2.2.2.2 HNE.out.2.2.2.2.2.1)
    have HKo1 := Lib.hid (show Ko b (some fb) w W1 by rw [hW]; exact (Ko.of HK0.out).trans (Ko.setO _ _))
    have HX1 := Lib.hid (show W1.heap[B]? = some (.cells #[.string ⟨#[]⟩, .int .i64 0, .string ⟨#[]⟩, .slice none 0 0] 56) by rw [hW]; exact (Below.heap_setCell _ _ _ _ HBb.out.2.2.2.2.1.symm).trans HX0.out)
    clear hW
    have hc := HTh.out _ _ HH1.out
    have HC := Lib.hid hc
    clear hc
    obtain ⟨e0, ef, el⟩ := cells1p HL1.out.thing
    rcases hr : f (ts.drop i) with ⟨a2, l2⟩ | ⟨er, p⟩
    rotate_left
    · have HR := Lib.hid hr
      clear hr
      go_wp2_with (go_at_call 242; refine HC.out.mono ?_; rintro e W2 hp; obtain ⟨he, hk⟩ := hp.no HR.out; unfold faultE at he; subst he; have HK := Lib.hid hk; clear hk hp HC)
      exact ⟨rfl, ThP.fault (HKo1.out.trans (Ko.of HK.out)) (HQ.out.symm.trans HR.out)⟩
    have HR := Lib.hid hr
    clear hr
    go_wp2_with
      (first
        | (go_at_call 242; refine HC.out.mono ?_; rintro e W2 hp; obtain ⟨hk, j2, v2, rfl, hl, hj, hrd, hv⟩ := hp.ok HR.out; subst hl; obtain ⟨⟨xnm, xk, xn, xh, xl⟩, rfl, hae, hpp⟩ := hv; simp only [fdV, fdC, tyC, List.cons_append, List.nil_append]; have HK := Lib.hid hk; have HH2 := Lib.hid hrd; have HX2 := Lib.hid (hk.kept HX1.out HBb.out.1); have HP := Lib.hid (And.intro hae hpp); clear hk hp hrd hj hae hpp HC)
        | (refine wpList_store_box rfl 56 (.tmp 3) (.tmp 9) rfl B 0 rfl (.agg #[.string xnm, .int .i64 xk, .string xn, .slice xh.oa xl.length xh.cap]) rfl [.string xnm, .int .i64 xk, .string xn, .slice xh.oa xl.length xh.cap] rfl [.string ⟨#[]⟩, .int .i64 0, .string ⟨#[]⟩, .slice none 0 0] 56 HX2.out (Nat.le_refl _) (show (Tryz.prog.info? 56).map (·.size) = some 4 by kernel_rfl) ?c1 B (Nat.le_refl _) W2 (Below.refl _ _) ?_))
    case c1 => first | exact rfl | exact ⟨rfl, rfl⟩ | exact ⟨rfl, rfl, rfl⟩ | exact ⟨rfl, rfl, rfl, rfl⟩ | (intro v hv; simp at hv; rcases hv with rfl | rfl | rfl | rfl <;> rfl)
    intro WF hb hbx hoth
    have HF := Lib.hid (And.intro ((HKo1.out.trans (Ko.of HK.out)).box HBb.out.2.2.2.1 hb hoth) (HH2.out.box hb hoth HBb.out.1.symm HBb.out.2.1 HBb.out.2.2.1))
    have HLF := Lib.hid ((HL1.out.kb HK.out).box hoth HBb.out.2.2.2.2.1 HBb.out.2.2.2.2.2.1 HBb.out.2.2.2.2.2.2)
    have HU := Lib.hid (And.intro HP.out.1 ((FdH.und n) _ _ _ (und_box hb hoth (blk_lt HX1.out) HKo1.out.size) HP.out.2))
    clear hb
    obtain ⟨q0, q1, q2, q3, qf, ql⟩ := cells4 (show WF.heap[B]? = some (.cells #[.string xnm, .int .i64 xk, .string xn, .slice xh.oa xl.length xh.cap] 56) from hbx)
    go_wp2
    exact bodyPost_ret (v := .agg #[.string xnm, .int .i64 xk, .string xn, .slice xh.oa xl.length xh.cap]) (by simp [results, Tryz.results290, go_sem, q0, q1, q2, q3]) rfl (ThP.done HF.out.1 (HQ.out.symm.trans HR.out) HF.out.2 HLF.out ⟨_, rfl, HU.out.1, HU.out.2⟩)
set_option maxRecDepth 100000 in
set_option maxHeartbeats 4000000 in
theorem cl_Variant {n : Nat} {b g cap : Nat} {ts : List Tok} {dp : Nat} {fb rb tb : Nat} (f : Rd _)
    (hTh : ∀ (w : World) (i : Nat), RdAt w b g cap ts i dp → Calls Tryz.prog 239 #[.pointer (some ⟨b, 0, none⟩)] w (RPost w b g cap ts i dp (f (ts.drop i)) (VOf fdV erFd (FdH n)))) :
    ThC 286 #[.pointer (some ⟨fb, 0, none⟩), .pointer (some ⟨rb, 0, none⟩), .pointer (some ⟨tb, 0, none⟩)] b g cap ts dp (some fb) (LS b g fb rb tb 184 (.func (.func 239) #[.pointer (some ⟨b, 0, none⟩)] #[])) (sepR f) fdV erFd (FdH n) := by
  intro fl w i H hs
  have HTh := Lib.hid hTh
  clear hTh
  have HGB := Lib.hid (And.intro H.toks.1 (And.intro H.vars.size (show b < w.heap.size from blk_lt H.at_)))
  have HLT := Lib.hid (And.intro (blk_lt hs.flag) (And.intro (blk_lt hs.rdr) (blk_lt hs.thing)))
  have HNE := Lib.hid hs.ne
  obtain ⟨r, hQ⟩ : ∃ r, sepR f fl (ts.drop i) = r := ⟨_, rfl⟩
  show Calls Tryz.prog 286 _ w (ThP b g cap ts dp (some fb) (LS b g fb rb tb 184 (.func (.func 239) #[.pointer (some ⟨b, 0, none⟩)] #[])) fdV erFd (FdH n) w (sepR f fl (ts.drop i)))
  rw [hQ]
  have HQ := Lib.hid hQ
  clear hQ
  obtain ⟨W0, hW⟩ : ∃ W0, W0 = w.alloc (.cells #[.string ⟨#[]⟩, .int .i64 0, .string ⟨#[]⟩, .slice none 0 0] 63) := ⟨_, rfl⟩
  have hbW : Below w.heap.size w W0 := by rw [hW]; exact alloc_below _ _
  have hx0 : W0.heap[w.heap.size]? = some (.cells #[.string ⟨#[]⟩, .int .i64 0, .string ⟨#[]⟩, .slice none 0 0] 63) := by rw [hW, heap_alloc_new]
  have HK0 := Lib.hid (Kb.of_below (b := b) hbW)
  have HH0 := Lib.hid (H.under hbW)
  have HL0 := Lib.hid (hs.kb HK0.out)
  obtain ⟨B, hB⟩ : ∃ B, B = w.heap.size := ⟨_, rfl⟩
  rw [← hB] at hx0
  have HX0 := Lib.hid hx0
  clear hbW hx0 H hs
  go_enter Tryz.func286, Tryz.ntmps286
  go_upto_region 1 with fail
  rw [← hW]
  simp only [← hB]
  clear hW
  have HBb := Lib.hid (show B ≠ b ∧ g ≠ B ∧ nG ≤ B ∧ w.heap.size ≤ B ∧ fb ≠ B ∧ rb ≠ B ∧ tb ≠ B by have h1 := HGB.out; have h2 := HLT.out; rw [hB]; exact ⟨by omega, by omega, by omega, by omega, by omega, by omega, by omega⟩)
  replace hB := Lib.hid hB
  cases fl
  · have hQ := HQ.out
    unfold sepR at hQ
    rw [if_neg (by decide)] at hQ
    replace HQ := Lib.hid hQ
    clear hQ
    have hc := need_any HH0.out wComma (by decide)
    have HC := Lib.hid hc
    clear hc
    obtain ⟨e0, ef, el⟩ := cells1p HL0.out.flag
    obtain ⟨f0, ff, fll⟩ := cells1p HL0.out.rdr
    rcases hr : needR wComma (ts.drop i) with ⟨a1, l1⟩ | ⟨er, p⟩
    rotate_left
    · have HR := Lib.hid hr
      clear hr
      go_wp2_with (go_at_call 237; refine HC.out.mono ?_; rintro e W1 hp; obtain ⟨he, hk⟩ := hp.no HR.out; unfold faultE at he; subst he; have HK := Lib.hid hk; clear hk hp HC)
      exact ⟨rfl, ThP.fault ((Ko.of HK0.out).trans (Ko.of HK.out)) (HQ.out.symm.trans (bind_no HR.out))⟩
    have HR := Lib.hid hr
    clear hr
    go_upto_region 3 with (go_at_call 237; refine HC.out.mono ?_; rintro e W1 hp; obtain ⟨hk, j1, v1, rfl, hl, hj, hrd, hv⟩ := hp.ok HR.out; subst hl; unfold VUnit at hv; subst hv; have HK1 := Lib.hid (HK0.out.trans hk); have HH1 := Lib.hid hrd; have HX1 := Lib.hid (hk.kept HX0.out HBb.out.1); have HL1 := Lib.hid (HL0.out.kb hk); clear hk hp hrd hj HC)
    have hQ := HQ.out
    rw [bind_ok HR.out] at hQ
    replace HQ := Lib.hid hQ
    clear hQ HR e0 ef el f0 ff fll
    obtain ⟨e0, ef, el⟩ := cells1p HL1.out.flag
    go_upto_region 4 with fail
    clear e0 ef el
    obtain ⟨W2, hW⟩ : ∃ W, W = W1.setCell ⟨fb, 0, none⟩ (.bool false) := ⟨_, rfl⟩
    rw [← hW]
    have HL2 := Lib.hid (show LS b g fb rb tb 184 _ false W2 by rw [hW]; exact HL1.out.set)
    have HH2 := Lib.hid (show RdAt W2 b g cap ts j1 dp by rw [hW]; exact HH1.out.setNew HNE.out.1.symm 0 _ HL1.out.flag HNE.out.2.2.2.2.2.2 HNE.out.2.2.2.2.2.1)
    have HKo2 := Lib.hid (show Ko b (some fb) w W2 by rw [hW]; exact (Ko.of HK1.out).trans (Ko.setO _ _))
    have HX2 := Lib.hid (show W2.heap[B]? = some (.cells #[.string ⟨#[]⟩, .int .i64 0, .string ⟨#[]⟩, .slice none 0 0] 63) by rw [hW]; exact (Below.heap_setCell _ _ _ _ HBb.out.2.2.2.2.1.symm).trans HX1.out)
    clear hW
    have hc := HTh.out _ _ HH2.out
    have HC := Lib.hid hc
    clear hc
    obtain ⟨e0, ef, el⟩ := cells1p HL2.out.thing
    rcases hr : f (ts.drop j1) with ⟨a3, l3⟩ | ⟨er, p⟩
    rotate_left
    · have HR := Lib.hid hr
      clear hr
      go_wp2_with (go_at_call 239; refine HC.out.mono ?_; rintro e W3 hp; obtain ⟨he, hk⟩ := hp.no HR.out; unfold faultE at he; subst he; have HK := Lib.hid hk; clear hk hp HC)
      exact ⟨rfl, ThP.fault (HKo2.out.trans (Ko.of HK.out)) (HQ.out.symm.trans HR.out)⟩
    have HR := Lib.hid hr
    clear hr
    go_wp2_with
      (first
        | (go_at_call 239; refine HC.out.mono ?_; rintro e W3 hp; obtain ⟨hk, j3, v3, rfl, hl, hj, hrd, hv⟩ := hp.ok HR.out; subst hl; obtain ⟨⟨xnm, xk, xn, xh, xl⟩, rfl, hae, hpp⟩ := hv; simp only [fdV, fdC, tyC, List.cons_append, List.nil_append]; have HK := Lib.hid hk; have HH3 := Lib.hid hrd; have HX3 := Lib.hid (hk.kept HX2.out HBb.out.1); have HP := Lib.hid (And.intro hae hpp); clear hk hp hrd hj hae hpp HC)
        | (refine wpList_store_box rfl 63 (.tmp 3) (.tmp 9) rfl B 0 rfl (.agg #[.string xnm, .int .i64 xk, .string xn, .slice xh.oa xl.length xh.cap]) rfl [.string xnm, .int .i64 xk, .string xn, .slice xh.oa xl.length xh.cap] rfl [.string ⟨#[]⟩, .int .i64 0, .string ⟨#[]⟩, .slice none 0 0] 63 HX3.out (Nat.le_refl _) (show (Tryz.prog.info? 63).map (·.size) = some 4 by kernel_rfl) ?c1 B (Nat.le_refl _) W3 (Below.refl _ _) ?_))
    case c1 => first | exact rfl | exact ⟨rfl, rfl⟩ | exact ⟨rfl, rfl, rfl⟩ | exact ⟨rfl, rfl, rfl, rfl⟩ | (intro v hv; simp at hv; rcases hv with rfl | rfl | rfl | rfl <;> rfl)
    intro WF hb hbx hoth
    have HF := Lib.hid (And.intro ((HKo2.out.trans (Ko.of HK.out)).box HBb.out.2.2.2.1 hb hoth) (HH3.out.box hb hoth HBb.out.1.symm HBb.out.2.1 HBb.out.2.2.1))
    have HLF := Lib.hid ((HL2.out.kb HK.out).box hoth HBb.out.2.2.2.2.1 HBb.out.2.2.2.2.2.1 HBb.out.2.2.2.2.2.2)
    have HU := Lib.hid (And.intro HP.out.1 ((FdH.und n) _ _ _ (und_box hb hoth (blk_lt HX2.out) HKo2.out.size) HP.out.2))
    clear hb
    obtain ⟨q0, q1, q2, q3, qf, ql⟩ := cells4 (show WF.heap[B]? = some (.cells #[.string xnm, .int .i64 xk, .string xn, .slice xh.oa xl.length xh.cap] 63) from hbx)
    go_wp2
    exact bodyPost_ret (v := .agg #[.string xnm, .int .i64 xk, .string xn, .slice xh.oa xl.length xh.cap]) (by simp [results, Tryz.results286, go_sem, q0, q1, q2, q3]) rfl (ThP.done HF.out.1 (HQ.out.symm.trans HR.out) HF.out.2 HLF.out ⟨_, rfl, HU.out.1, HU.out.2⟩)
  · have hQ := HQ.out
    unfold sepR at hQ
    rw [if_pos rfl] at hQ
    replace HQ := Lib.hid hQ
    clear hQ
    obtain ⟨e0, ef, el⟩ := cells1p HL0.out.flag
    go_upto_region 4 with fail
    clear e0 ef el
    obtain ⟨W1, hW⟩ : ∃ W, W = W0.setCell ⟨fb, 0, none⟩ (.bool false) := ⟨_, rfl⟩
    rw [← hW]
    have HL1 := Lib.hid (show LS b g fb rb tb 184 _ false W1 by rw [hW]; exact HL0.out.set)
    have HH1 := Lib.hid (show RdAt W1 b g cap ts i dp by rw [hW]; exact HH0.out.setNew HNE.out.1.symm 0 _ HL0.out.flag HNE.out.2.2.2.2.2.2 HNE.out.2.2.2.2.2.1)
    have HKo1 := Lib.hid (show Ko b (some fb) w W1 by rw [hW]; exact (Ko.of HK0.out).trans (Ko.setO _ _))
    have HX1 := Lib.hid (show W1.heap[B]? = some (.cells #[.string ⟨#[]⟩, .int .i64 0, .string ⟨#[]⟩, .slice none 0 0] 63) by rw [hW]; exact (Below.heap_setCell _ _ _ _ HBb.out.2.2.2.2.1.symm).trans HX0.out)
    clear hW
    have hc := HTh.out _ _ HH1.out
    have HC := Lib.hid hc
    clear hc
    obtain ⟨e0, ef, el⟩ := cells1p HL1.out.thing
    rcases hr : f (ts.drop i) with ⟨a2, l2⟩ | ⟨er, p⟩
    rotate_left
    · have HR := Lib.hid hr
      clear hr
      go_wp2_with (go_at_call 239; refine HC.out.mono ?_; rintro e W2 hp; obtain ⟨he, hk⟩ := hp.no HR.out; unfold faultE at he; subst he; have HK := Lib.hid hk; clear hk hp HC)
      exact ⟨rfl, ThP.fault (HKo1.out.trans (Ko.of HK.out)) (HQ.out.symm.trans HR.out)⟩
    have HR := Lib.hid hr
    clear hr
    go_wp2_with
      (first
        | (go_at_call 239; refine HC.out.mono ?_; rintro e W2 hp; obtain ⟨hk, j2, v2, rfl, hl, hj, hrd, hv⟩ := hp.ok HR.out; subst hl; obtain ⟨⟨xnm, xk, xn, xh, xl⟩, rfl, hae, hpp⟩ := hv; simp only [fdV, fdC, tyC, List.cons_append, List.nil_append]; have HK := Lib.hid hk; have HH2 := Lib.hid hrd; have HX2 := Lib.hid (hk.kept HX1.out HBb.out.1); have HP := Lib.hid (And.intro hae hpp); clear hk hp hrd hj hae hpp HC)
        | (refine wpList_store_box rfl 63 (.tmp 3) (.tmp 9) rfl B 0 rfl (.agg #[.string xnm, .int .i64 xk, .string xn, .slice xh.oa xl.length xh.cap]) rfl [.string xnm, .int .i64 xk, .string xn, .slice xh.oa xl.length xh.cap] rfl [.string ⟨#[]⟩, .int .i64 0, .string ⟨#[]⟩, .slice none 0 0] 63 HX2.out (Nat.le_refl _) (show (Tryz.prog.info? 63).map (·.size) = some 4 by kernel_rfl) ?c1 B (Nat.le_refl _) W2 (Below.refl _ _) ?_))
    case c1 => first | exact rfl | exact ⟨rfl, rfl⟩ | exact ⟨rfl, rfl, rfl⟩ | exact ⟨rfl, rfl, rfl, rfl⟩ | (intro v hv; simp at hv; rcases hv with rfl | rfl | rfl | rfl <;> rfl)
    intro WF hb hbx hoth
    have HF := Lib.hid (And.intro ((HKo1.out.trans (Ko.of HK.out)).box HBb.out.2.2.2.1 hb hoth) (HH2.out.box hb hoth HBb.out.1.symm HBb.out.2.1 HBb.out.2.2.1))
    have HLF := Lib.hid ((HL1.out.kb HK.out).box hoth HBb.out.2.2.2.2.1 HBb.out.2.2.2.2.2.1 HBb.out.2.2.2.2.2.2)
    have HU := Lib.hid (And.intro HP.out.1 ((FdH.und n) _ _ _ (und_box hb hoth (blk_lt HX1.out) HKo1.out.size) HP.out.2))
    clear hb
    obtain ⟨q0, q1, q2, q3, qf, ql⟩ := cells4 (show WF.heap[B]? = some (.cells #[.string xnm, .int .i64 xk, .string xn, .slice xh.oa xl.length xh.cap] 63) from hbx)
    go_wp2
    exact bodyPost_ret (v := .agg #[.string xnm, .int .i64 xk, .string xn, .slice xh.oa xl.length xh.cap]) (by simp [results, Tryz.results286, go_sem, q0, q1, q2, q3]) rfl (ThP.done HF.out.1 (HQ.out.symm.trans HR.out) HF.out.2 HLF.out ⟨_, rfl, HU.out.1, HU.out.2⟩)
end Go.Proofs.YtggdpgaedmegbaaGreatDoor
