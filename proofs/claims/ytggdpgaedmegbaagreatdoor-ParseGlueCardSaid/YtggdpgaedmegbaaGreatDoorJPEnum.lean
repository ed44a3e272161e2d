/-
  Several texts of the proof in one: PBind, PEnum. No conditions of their own: each lemma states its own.
-/
import Derived.Test.YtggdpgaedmegbaaGreatDoorJLNum
import Derived.Test.YtggdpgaedmegbaaGreatDoorJPVar
import Derived.Test.YtggdpgaedmegbaaGreatDoorJPMade
namespace Go.Proofs.YtggdpgaedmegbaaGreatDoor

theorem bind_opt {α β : Type} (s : List UInt8) (y n : Rd α) (F : α → Rd β) : bindR (optR s y n) F = optR s (bindR y F) (bindR n F) := by
  funext l
  unfold bindR optR
  by_cases h : (hd l).text = s
  · simp only [if_pos h]
  · simp only [if_neg h]
theorem bind_bind {α β γ : Type} (a : Rd α) (f : α → Rd β) (g : β → Rd γ) : bindR (bindR a f) g = bindR a fun x => bindR (f x) g := by
  funext l
  unfold bindR
  cases a l <;> rfl
theorem bind_map {α β γ : Type} (a : Rd α) (f : α → β) (g : β → Rd γ) : bindR (mapR a f) g = bindR a fun x => g (f x) := by
  unfold mapR
  rw [bind_bind]
  rfl
theorem bind_pure {α β : Type} (a : α) (F : α → Rd β) : bindR (pureR a) F = F a := rfl
theorem bind_is {α β : Type} (f : Tok → Bool) (y n : Rd α) (F : α → Rd β) : bindR (isR f y n) F = isR f (bindR y F) (bindR n F) := by
  funext l
  unfold bindR isR
  by_cases h : f (hd l) = true
  · simp only [if_pos h]
  · simp only [if_neg h]
theorem bind_at {α β : Type} (G : Nat → Rd α) (F : α → Rd β) : bindR (atR G) F = atR fun q => bindR (G q) F := rfl
end Go.Proofs.YtggdpgaedmegbaaGreatDoor

namespace Go.Proofs.YtggdpgaedmegbaaGreatDoor
open Go.RowKit

set_option maxRecDepth 100000 in
set_option maxHeartbeats 4000000 in
theorem r_enum {w : World} {b g cap : Nat} {ts : List Tok} {i dp : Nat} (H : RdAt w b g cap ts i dp) (q : Nat) :
    Calls Tryz.prog 173 #[.pointer (some ⟨b, 0, none⟩), .int .i64 q] w (RPost w b g cap ts i dp (enumR q (ts.drop i)) (VEn 62)) := by
  obtain ⟨r, hQ⟩ : ∃ r, enumR q (ts.drop i) = r := ⟨_, rfl⟩
  rw [hQ]
  have HQ := Lib.hid hQ
  clear hQ
  have HGB := Lib.hid (And.intro H.toks.1 H.vars.size)
  have HBW := Lib.hid (show b < w.heap.size from (Array.getElem?_eq_some_iff.1 H.at_).1)
  have HJ0 := Lib.hid (Nat.le_refl i)
  obtain ⟨W0, hW⟩ : ∃ W0, W0 = w.alloc (.cells #[.string ⟨#[]⟩, .slice none 0 0, .int .i64 0] 62) := ⟨_, rfl⟩
  have hbW : Below w.heap.size w W0 := by rw [hW]; exact alloc_below _ _
  have hx0 : W0.heap[w.heap.size]? = some (.cells #[.string ⟨#[]⟩, .slice none 0 0, .int .i64 0] 62) := by rw [hW, heap_alloc_new]
  have HH0 := Lib.hid (H.under hbW)
  have HK0 := Lib.hid (Kb.of_below (b := b) hbW)
  obtain ⟨B, hB⟩ : ∃ B, B = w.heap.size := ⟨_, rfl⟩
  rw [← hB] at hx0
  have HX0 := Lib.hid hx0
  clear hbW hx0 H
  go_enter Tryz.func173, Tryz.ntmps173
  go_upto_region 1 with fail
  rw [← hW]
  simp only [← hB]
  clear hW
  have HBb := Lib.hid (show B ≠ b ∧ g ≠ B ∧ nG ≤ B ∧ w.heap.size ≤ B by have h1 := HBW.out; have h2 := HGB.out; rw [hB]; exact ⟨by omega, by omega, h2.2, Nat.le_refl _⟩)
  replace hB := Lib.hid hB
  have hc := r_great HH0.out
  have HC := Lib.hid hc
  clear hc
  rcases hr : greatR (ts.drop i) with ⟨a1, l1⟩ | ⟨er, p⟩
  rotate_left
  · have HR := Lib.hid hr
    clear hr
    go_wp2_with (go_at_call 236; refine HC.out.mono ?_; rintro e W1 hp; obtain ⟨he, hk⟩ := hp.no HR.out; unfold faultE at he; subst he; have HK1 := Lib.hid (HK0.out.trans hk); clear hk hp HC)
    exact ⟨rfl, RPost.fault HK1.out (HQ.out.symm.trans (bind_no HR.out))⟩
  have HR := Lib.hid hr
  clear hr
  go_upto_region 2 with
    (first
      | (go_at_call 236; refine HC.out.mono ?_; rintro e W1 hp; obtain ⟨hk, j1, v1, rfl, hl, hj, hrd, hv⟩ := hp.ok HR.out; subst hl; unfold VStr at hv; subst hv; have HK1 := Lib.hid (HK0.out.trans hk); have HKK1 := Lib.hid hk; have HH1 := Lib.hid hrd; have HJ1 := Lib.hid (Nat.le_trans HJ0.out hj); have HX1 := Lib.hid (hk.kept HX0.out HBb.out.1); clear hk hp hrd hj HC)
      | (refine wpList_store_box rfl 62 (.tmp 5) (.tmp 9) rfl W1.heap.size 0 rfl (.agg #[.string a1, .slice none 0 0, .int .i64 q]) rfl [.string a1, .slice none 0 0, .int .i64 q] rfl [.string ⟨#[]⟩, .slice none 0 0, .int .i64 0] 62 (heap_alloc_new W1 (.cells #[.string ⟨#[]⟩, .slice none 0 0, .int .i64 0] 62)) (Nat.le_refl _) (show (Tryz.prog.info? 62).map (·.size) = some 3 by kernel_rfl) ?c1 W1.heap.size (Nat.le_refl _) (W1.alloc (.cells #[.string ⟨#[]⟩, .slice none 0 0, .int .i64 0] 62)) (Below.refl _ _) ?_; rotate_left; intro W2 hb hbx hoth))
  case c1 => first | exact ⟨rfl, rfl, rfl⟩ | exact rfl | (intro v hv; simp at hv; first | (rcases hv with rfl | rfl | rfl <;> rfl) | (rcases hv with rfl | rfl <;> rfl) | (subst hv; rfl))
  have hQ := HQ.out
  unfold enumR at hQ
  rw [bind_ok HR.out] at hQ
  replace HQ := Lib.hid hQ
  clear hQ HR
  obtain ⟨O, hO⟩ : ∃ O, O = Obj.cells #[.string ⟨#[]⟩, .slice none 0 0, .int .i64 0] 62 := ⟨_, rfl⟩
  rw [← hO] at hb hoth
  clear hO
  obtain ⟨P, hP⟩ : ∃ P, P = W1.heap.size := ⟨_, rfl⟩
  rw [← hP] at hb hbx hoth
  simp only [← hP]
  have hal := alloc_below W1 O
  rw [← hP] at hal
  have hBP : B < P := by rw [hP]; exact blk_lt HX1.out
  have hbP : b < P := by rw [hP]; exact blk_lt HH1.out.at_
  have hgP : g < P := by rw [hP]; exact HH1.out.toks.1
  have hwP : w.heap.size ≤ P := by rw [hP]; exact HK1.out.size
  have hnP : nG ≤ P := by have := HBb.out.2.2.1; omega
  have HB2 := Lib.hid (hal.trans hb)
  have HP_2 := Lib.hid (show W2.heap[P]? = some (.cells #[.string a1, .slice none 0 0, .int .i64 q] 62) from hbx)
  have HX2 := Lib.hid ((HB2.out.block B hBP).trans HX1.out)
  have HH2 := Lib.hid (show RdAt W2 b g cap ts j1 dp by have h1 := HH1.out; exact h1.keep (Kb.of_below (hP ▸ HB2.out)) ((HB2.out.block b hbP).trans h1.at_) h1.lt)
  have HK2 := Lib.hid (show Kb b w W2 from HK1.out.trans (Kb.of_below (hP ▸ HB2.out)))
  have HJ2 := Lib.hid HJ1.out
  have HNP := Lib.hid (show P ≠ b ∧ w.heap.size ≤ P ∧ g ≠ P ∧ nG ≤ P ∧ B ≠ P from ⟨by omega, hwP, by omega, hnP, by omega⟩)
  clear hal hb hbx hoth hBP hbP hgP hwP hnP HB2
  replace hP := Lib.hid hP
  have hc := need_any HH2.out wLB (by decide)
  have HC := Lib.hid hc
  clear hc
  rcases hr : needR wLB (ts.drop j1) with ⟨a3, l3⟩ | ⟨er, p⟩
  rotate_left
  · have HR := Lib.hid hr
    clear hr
    obtain ⟨p0, p1, p2, pf, pl⟩ := cells3p HP_2.out
    go_wp2_with (go_at_call 237; refine HC.out.mono ?_; rintro e W3 hp; obtain ⟨he, hk⟩ := hp.no HR.out; unfold faultE at he; subst he; have HK3 := Lib.hid (HK2.out.trans hk); clear hk hp HC)
    exact ⟨rfl, RPost.fault HK3.out (HQ.out.symm.trans (bind_no HR.out))⟩
  have HR := Lib.hid hr
  clear hr
  obtain ⟨p0, p1, p2, pf, pl⟩ := cells3p HP_2.out
  go_upto_region 3 with (go_at_call 237; refine HC.out.mono ?_; rintro e W3 hp; obtain ⟨hk, j3, v3, rfl, hl, hj, hrd, hv⟩ := hp.ok HR.out; subst hl; unfold VUnit at hv; subst hv; have HK3 := Lib.hid (HK2.out.trans hk); have HKK3 := Lib.hid hk; have HH3 := Lib.hid hrd; have HJ3 := Lib.hid (Nat.le_trans HJ2.out hj); have HX3 := Lib.hid (hk.kept HX2.out HBb.out.1); have HP_3 := Lib.hid (hk.kept HP_2.out HNP.out.1); clear hk hp hrd hj HC)
  clear p0 p1 p2 pf pl
  have hQ := HQ.out
  rw [bind_ok HR.out] at hQ
  replace HQ := Lib.hid hQ
  clear hQ HR
  have hc := list_Variant HH3.out wRB (by decide) variantR ru_variant.con (fun w i H => r_variant H)
  have HC := Lib.hid hc
  clear hc
  rcases hr : rowL wRB (sepR variantR) (ts.drop j3) with ⟨a4, l4⟩ | ⟨er, p⟩
  rotate_left
  · have HR := Lib.hid hr
    clear hr
    obtain ⟨p0, p1, p2, pf, pl⟩ := cells3p HP_3.out
    go_wp2_with (go_at_call 238; refine HC.out.mono ?_; rintro e W4 hp; obtain ⟨he, hk⟩ := hp.no HR.out; unfold faultE at he; subst he; have HK4 := Lib.hid (HK3.out.trans hk); clear hk hp HC)
    exact ⟨rfl, RPost.fault HK4.out (HQ.out.symm.trans (bind_no HR.out))⟩
  have HR := Lib.hid hr
  clear hr
  obtain ⟨p0, p1, p2, pf, pl⟩ := cells3p HP_3.out
  have hmf : ∀ (fn : Fn) (first cap : Array Value) (w : World), (Instr.makeFunc fn first cap).run Tryz.prog w = .ok (.func fn first cap) w := fun _ _ _ _ => rfl
  go_upto_region 4 with (go_at_call 238; refine HC.out.mono ?_; rintro e W4 hp; obtain ⟨hk, j4, v4, rfl, hl, hj, hrd, hv⟩ := hp.ok HR.out; subst hl; obtain ⟨ah, al, rfl, hae, hp2⟩ := hv; have HPa := Lib.hid (And.intro hae hp2); clear hae hp2; have HK4 := Lib.hid (HK3.out.trans hk); have HKK4 := Lib.hid hk; have HH4 := Lib.hid hrd; have HJ4 := Lib.hid (Nat.le_trans HJ3.out hj); have HX4 := Lib.hid (hk.kept HX3.out HBb.out.1); have HP_4 := Lib.hid (hk.kept HP_3.out HNP.out.1); clear hk hp hrd hj HC; obtain ⟨p0, p1, p2, pf, pl⟩ := cells3p HP_4.out)
  clear p0 p1 p2 pf pl hmf
  obtain ⟨W5, hW⟩ : ∃ W, W = (W4.setCell ⟨P, 1, none⟩ (.slice ah.oa al.length ah.cap)) := ⟨_, rfl⟩
  rw [← hW]
  have hs0 := set_box (j := 1) (v := .slice ah.oa al.length ah.cap) HP_4.out
  have hoth : ∀ x, x ≠ P → W5.heap[x]? = W4.heap[x]? := fun x hx => by rw [hW]; exact (hs0.2.1 x hx)
  have hb : Below P W4 W5 := by rw [hW]; exact hs0.1
  have HP_5 := Lib.hid (show W5.heap[P]? = some (.cells #[.string a1, .slice ah.oa al.length ah.cap, .int .i64 q] 62) by rw [hW]; simpa using hs0.2.2)
  have HX5 := Lib.hid ((hoth B HNP.out.2.2.2.2).trans HX4.out)
  have HK5 := Lib.hid (HK4.out.box HNP.out.2.1 hb hoth)
  have HH5 := Lib.hid (HH4.out.box hb hoth HNP.out.1.symm HNP.out.2.2.1 HNP.out.2.2.2.1)
  have HJ5 := Lib.hid HJ4.out
  have HU0 := Lib.hid (und_box (B' := W3.heap.size) hb hoth (blk_lt HP_3.out) (Nat.le_refl _))
  have HUa := Lib.hid (Row.und HPa.out.2 HU0.out fun _ _ hx => FdH.und 62 _ _ _ HU0.out hx)
  clear hW hs0 hoth hb HU0
  obtain ⟨p0, p1, p2, pf, pl⟩ := cells3p HP_5.out
  go_wp2_with (refine wpList_store_box rfl 62 (.tmp 4) (.tmp 17) rfl B 0 rfl (.agg #[.string a1, .slice ah.oa al.length ah.cap, .int .i64 q]) rfl [.string a1, .slice ah.oa al.length ah.cap, .int .i64 q] rfl [.string ⟨#[]⟩, .slice none 0 0, .int .i64 0] 62 HX5.out (Nat.le_refl _) (show (Tryz.prog.info? 62).map (·.size) = some 3 by kernel_rfl) ?c1 B (Nat.le_refl _) W5 (Below.refl _ _) ?_)
  case c1 => first | exact rfl | exact ⟨rfl, rfl⟩ | exact ⟨rfl, rfl, rfl⟩ | exact ⟨rfl, rfl, rfl, rfl⟩ | exact ⟨rfl, rfl, rfl, rfl, rfl⟩ | exact ⟨rfl, rfl, rfl, rfl, rfl, rfl⟩ | (intro v hv; simp at hv; first | (rcases hv with rfl | rfl | rfl | rfl | rfl | rfl <;> rfl) | (rcases hv with rfl | rfl | rfl | rfl | rfl <;> rfl) | (rcases hv with rfl | rfl | rfl | rfl <;> rfl) | (rcases hv with rfl | rfl | rfl <;> rfl) | (rcases hv with rfl | rfl <;> rfl) | (subst hv; rfl))
  intro WF hb hbx hoth
  have HF := Lib.hid (And.intro (HK5.out.box HBb.out.2.2.2 hb hoth) (HH5.out.box hb hoth HBb.out.1.symm HBb.out.2.1 HBb.out.2.2.1))
  have hU0 := und_box (B' := w.heap.size) hb hoth (blk_lt HX3.out) HK3.out.size
  have HU := Lib.hid (Row.und HUa.out hU0 fun _ _ hx => FdH.und 62 _ _ _ hU0 hx)
  clear hU0
  clear hb
  obtain ⟨q0, q1, q2, qf, ql⟩ := cells3p (show WF.heap[B]? = some (.cells #[.string a1, .slice ah.oa al.length ah.cap, .int .i64 q] 62) from hbx)
  go_wp2
  exact bodyPost_ret (v := .agg #[.string a1, .slice ah.oa al.length ah.cap, .int .i64 q]) (by simp [results, Tryz.results173, go_sem, q0, q1, q2]) rfl (RPost.done HF.out.1 (HQ.out.symm.trans (map_ok HR.out)) HJ5.out HF.out.2 ⟨⟨a1, ah, al, q⟩, rfl, by unfold erEn; rw [HPa.out.1], HU.out⟩)
end Go.Proofs.YtggdpgaedmegbaaGreatDoor
