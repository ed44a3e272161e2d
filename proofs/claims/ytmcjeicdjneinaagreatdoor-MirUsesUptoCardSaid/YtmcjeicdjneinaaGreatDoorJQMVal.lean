/-
  mir.Value: a value's type, in blocks of its own. Conditions: the source, the body and the value lie in the heap; no declared type is too large, nor the value's.
-/
import Derived.Test.YtmcjeicdjneinaaGreatDoorJQValue
import Derived.Test.YtmcjeicdjneinaaGreatDoorJQSett
namespace Go.Proofs.YtmcjeicdjneinaaGreatDoor
open Go.RowKit

/-- what mir.Value answers -/
def MValP (B : Nat) (w' : World) (R : Int × Ty5) (e : Ending) : Prop := ∃ y er f, e = .returned (.tuple #[tyV y, .int .i64 er]) ∧ er = R.1 ∧ erTy y = R.2 ∧ TyH f (eb w' B none) y
set_option maxRecDepth 100000 in
set_option maxHeartbeats 40000000 in
theorem mvalue_any (n : Nat) (s : So5) (b : Bo) (x : Va) (w : World) (hs : SoH n w s) (hsn : SoN s) (hb : BoH n w b) (hx : VaH w x) (hvn : tyN (valR s n b x).2 ≤ 1000000) :
    Calls Tryz.prog 14 #[soV s, boV b, vaV x] w fun e w' => Below w.heap.size w w' ∧ MValP w.heap.size w' (valR s n b x) e := by
  obtain ⟨R, hR⟩ : ∃ R, R = valR s n b x := ⟨_, rfl⟩
  rw [← hR]
  have HSP := Lib.hid (show ∀ v W, Below w.heap.size w W → ViewAt W v s b → Calls Tryz.prog 28 #[.pointer (some ⟨v, 0, none⟩), vaV x] W fun e w' => Below W.heap.size W w' ∧ OutV (fun _ => true) w' R e from fun v W hW hv => by
    rw [hR]
    exact value_st (fun _ => true) n s b v x W (SoH.below hs hW) hsn hv (BoH.below hb hW) (VaH.below hx hW) (fun _ _ => rfl) fun lo hlo => TyH.und n _ _ _ ⟨by rw [ebp_size]; exact hW.size, fun p x hx => (World.cell?_of_block (ebp_heap rfl)).trans ((hW.cell (World.block_lt_of_cell? w p hx)).trans hx)⟩ (hb.2.1.2.2.2 lo hlo))
  rw [← hR] at hvn
  have HTN := Lib.hid hvn
  obtain ⟨k, hu, uses, ⟨loc, ph, path⟩, which, tag⟩ := x
  obtain ⟨nu, hnu⟩ : ∃ n, uses.length = n := ⟨_, rfl⟩
  obtain ⟨np, hnp⟩ : ∃ n, path.length = n := ⟨_, rfl⟩
  have hbv : boV b = .agg #[.string b.nm, .int .i64 b.params, .slice b.hl.oa b.locals.length b.hl.cap, .slice b.hb.oa b.blocks.length b.hb.cap] := by cases b; rfl
  rw [soV_hd, hbv]
  simp only [vaV, vaC, spC, List.cons_append, List.nil_append, hnu, hnp] at HSP ⊢
  obtain ⟨W0, hW⟩ : ∃ W, W = (((w.alloc (.cells #[.slice s.hs.oa s.structs.length s.hs.cap, .slice s.he.oa s.enums.length s.he.cap, .slice s.hf.oa s.fns.length s.hf.cap] 26)).alloc (.cells #[.string b.nm, .int .i64 b.params, .slice b.hl.oa b.locals.length b.hl.cap, .slice b.hb.oa b.blocks.length b.hb.cap] 30)).alloc (.cells #[.int .i64 k, .slice hu.oa nu hu.cap, .int .i64 loc, .slice ph.oa np ph.cap, .int .i64 which, .int .i64 tag] 37)).alloc (.cells #[.int .i64 0, .string ⟨#[]⟩, .slice none 0 0] 46) := ⟨_, rfl⟩
  obtain ⟨hb0, hx0, hx1, hx2, hx3⟩ := pal4q w (.cells #[.slice s.hs.oa s.structs.length s.hs.cap, .slice s.he.oa s.enums.length s.he.cap, .slice s.hf.oa s.fns.length s.hf.cap] 26) (.cells #[.string b.nm, .int .i64 b.params, .slice b.hl.oa b.locals.length b.hl.cap, .slice b.hb.oa b.blocks.length b.hb.cap] 30) (.cells #[.int .i64 k, .slice hu.oa nu hu.cap, .int .i64 loc, .slice ph.oa np ph.cap, .int .i64 which, .int .i64 tag] 37) (.cells #[.int .i64 0, .string ⟨#[]⟩, .slice none 0 0] 46)
  rw [← hW] at hb0 hx0 hx1 hx2 hx3
  obtain ⟨N, hN⟩ : ∃ N, N = w.heap.size := ⟨_, rfl⟩
  rw [← hN] at hx0 hx1 hx2 hx3
  have HX := Lib.hid (And.intro hx0 (And.intro hx1 (And.intro hx2 hx3)))
  have HN := Lib.hid hN
  have HB0 := Lib.hid hb0
  clear hs hsn hb hvn hnu hnp hx hbv hx0 hx1 hx2 hx3 hb0 hR
  go_enter Tryz.func14, Tryz.ntmps14
  go_upto_region 1 with fail
  rw [← hW]
  clear hW
  try simp only [← hN]
  clear hN
  obtain ⟨z0, z1, z2, zf, zl⟩ := cells3p HX.out.1
  obtain ⟨y0, y1, y2, y3, yf, yl⟩ := cells4p HX.out.2.1
  have hx2 := HX.out.2.2.1
  have pl := blk_lt hx2
  have HV := Lib.hid (show ViewAt (W0.alloc (.cells #[.slice s.hs.oa s.structs.length s.hs.cap, .slice s.he.oa s.enums.length s.he.cap, .slice s.hf.oa s.fns.length s.hf.cap, .string b.nm, .int .i64 b.params, .slice b.hl.oa b.locals.length b.hl.cap, .slice b.hb.oa b.blocks.length b.hb.cap] 87)) W0.heap.size s b from heap_alloc_new _ _)
  have HBV := Lib.hid (alloc_below W0 (.cells #[.slice s.hs.oa s.structs.length s.hs.cap, .slice s.he.oa s.enums.length s.he.cap, .slice s.hf.oa s.fns.length s.hf.cap, .string b.nm, .int .i64 b.params, .slice b.hl.oa b.locals.length b.hl.cap, .slice b.hb.oa b.blocks.length b.hb.cap] 87))
  have hx2' : (W0.alloc (.cells #[.slice s.hs.oa s.structs.length s.hs.cap, .slice s.he.oa s.enums.length s.he.cap, .slice s.hf.oa s.fns.length s.hf.cap, .string b.nm, .int .i64 b.params, .slice b.hl.oa b.locals.length b.hl.cap, .slice b.hb.oa b.blocks.length b.hb.cap] 87)).heap[N + 1 + 1]? = some (.cells #[.int .i64 k, .slice hu.oa nu hu.cap, .int .i64 loc, .slice ph.oa np ph.cap, .int .i64 which, .int .i64 tag] 37) := (HBV.out.block (N + 1 + 1) pl).trans hx2
  obtain ⟨v0, v1, v2, v3, v4, v5⟩ : (W0.alloc (.cells #[.slice s.hs.oa s.structs.length s.hs.cap, .slice s.he.oa s.enums.length s.he.cap, .slice s.hf.oa s.fns.length s.hf.cap, .string b.nm, .int .i64 b.params, .slice b.hl.oa b.locals.length b.hl.cap, .slice b.hb.oa b.blocks.length b.hb.cap] 87)).cell? ⟨N + 1 + 1, 0, none⟩ = some (.int .i64 k) ∧ (W0.alloc (.cells #[.slice s.hs.oa s.structs.length s.hs.cap, .slice s.he.oa s.enums.length s.he.cap, .slice s.hf.oa s.fns.length s.hf.cap, .string b.nm, .int .i64 b.params, .slice b.hl.oa b.locals.length b.hl.cap, .slice b.hb.oa b.blocks.length b.hb.cap] 87)).cell? ⟨N + 1 + 1, 1, none⟩ = some (.slice hu.oa nu hu.cap) ∧ (W0.alloc (.cells #[.slice s.hs.oa s.structs.length s.hs.cap, .slice s.he.oa s.enums.length s.he.cap, .slice s.hf.oa s.fns.length s.hf.cap, .string b.nm, .int .i64 b.params, .slice b.hl.oa b.locals.length b.hl.cap, .slice b.hb.oa b.blocks.length b.hb.cap] 87)).cell? ⟨N + 1 + 1, 2, none⟩ = some (.int .i64 loc) ∧ (W0.alloc (.cells #[.slice s.hs.oa s.structs.length s.hs.cap, .slice s.he.oa s.enums.length s.he.cap, .slice s.hf.oa s.fns.length s.hf.cap, .string b.nm, .int .i64 b.params, .slice b.hl.oa b.locals.length b.hl.cap, .slice b.hb.oa b.blocks.length b.hb.cap] 87)).cell? ⟨N + 1 + 1, 3, none⟩ = some (.slice ph.oa np ph.cap) ∧ (W0.alloc (.cells #[.slice s.hs.oa s.structs.length s.hs.cap, .slice s.he.oa s.enums.length s.he.cap, .slice s.hf.oa s.fns.length s.hf.cap, .string b.nm, .int .i64 b.params, .slice b.hl.oa b.locals.length b.hl.cap, .slice b.hb.oa b.blocks.length b.hb.cap] 87)).cell? ⟨N + 1 + 1, 4, none⟩ = some (.int .i64 which) ∧ (W0.alloc (.cells #[.slice s.hs.oa s.structs.length s.hs.cap, .slice s.he.oa s.enums.length s.he.cap, .slice s.hf.oa s.fns.length s.hf.cap, .string b.nm, .int .i64 b.params, .slice b.hl.oa b.locals.length b.hl.cap, .slice b.hb.oa b.blocks.length b.hb.cap] 87)).cell? ⟨N + 1 + 1, 5, none⟩ = some (.int .i64 tag) := by
    refine ⟨?_, ?_, ?_, ?_, ?_, ?_⟩ <;> simp only [World.cell?, hx2'] <;> rfl
  clear hx2 hx2'
  go_upto_region 2 with
    (first
      | (go_loud (go_at_call 28; refine (HSP.out W0.heap.size _ (HB0.out.trans (HBV.out.mono HB0.out.size)) HV.out).mono ?_; rintro e W1 ⟨hb1, hp1⟩; obtain ⟨⟨k1, nm1, h1, l1⟩, er, f, rfl, hr1, hr2, ht1⟩ := hp1; simp only [tyV, tyC]; have HB1 := Lib.hid (show Below W0.heap.size W0 W1 from HBV.out.trans (hb1.mono (by simp))); have HT1 := Lib.hid (And.intro (TyH.und f _ _ _ (ebp_out (Nat.le_refl _) fun _ _ => rfl) ht1) (And.intro hr1 hr2)); clear hb1 ht1 hr1 hr2))
      | (refine wpList_store_box rfl 46 (.tmp 8) (.tmp 17) rfl W1.heap.size 0 rfl (.agg #[.int .i64 k1, .string nm1, .slice h1.oa l1.length h1.cap]) rfl [.int .i64 k1, .string nm1, .slice h1.oa l1.length h1.cap] rfl [.int .i64 0, .string ⟨#[]⟩, .slice none 0 0] 46 (heap_alloc_new W1 (.cells #[.int .i64 0, .string ⟨#[]⟩, .slice none 0 0] 46)) (Nat.le_refl _) (show (Tryz.prog.info? 46).map (·.size) = some 3 by kernel_rfl) ?ca1 W1.heap.size (Nat.le_refl _) (W1.alloc (.cells #[.int .i64 0, .string ⟨#[]⟩, .slice none 0 0] 46)) (Below.refl _ _) ?_; rotate_left; intro W2 hb2 hbx hoth))
  try case ca1 => first | exact ⟨rfl, rfl, rfl⟩ | (intro v hv; simp at hv; rcases hv with rfl | rfl | rfl <;> rfl)
  have hb12 : Below W1.heap.size W1 W2 := (alloc_below W1 (.cells #[.int .i64 0, .string ⟨#[]⟩, .slice none 0 0] 46)).trans hb2
  have HB2 := Lib.hid (HB1.out.trans (hb12.mono HB1.out.size))
  have HT2 := Lib.hid (TyH.below f HT1.out.1 hb12)
  obtain ⟨m0, m1, m2, mf, ml⟩ := cells3p hbx
  clear hb2 hbx hoth hb12 z0 z1 z2 zf zl y0 y1 y2 y3 yf yl pl v0 v1 v2 v3 v4 v5
  have htn : tyN (.mk k1 nm1 h1 l1) ≤ 1000000 := by rw [← tyN_er, HT1.out.2.2]; exact HTN.out
  have hcp := copied_any f (.mk k1 nm1 h1 l1) W2 HT2.out htn
  simp only [tyV, tyC] at hcp
  have HCP := Lib.hid hcp
  clear hcp htn
  go_wp2_with
    (first
      | (go_at_call 25; refine HCP.out.mono ?_; rintro e W3 ⟨⟨k2, nm2, h2, l2⟩, rfl, hb3, he3, hy3⟩; simp only [tyC]; have HB3 := Lib.hid (HB2.out.trans (hb3.mono HB2.out.size)); have HY3 := Lib.hid (And.intro he3 hy3); have HS3 := Lib.hid hb3.size; clear hb3 he3 hy3)
      | (refine wpList_store_box rfl 46 (.tmp 6) (.tmp 20) rfl (N + 1 + 1 + 1) 0 rfl (.agg #[.int .i64 k2, .string nm2, .slice h2.oa l2.length h2.cap]) rfl [.int .i64 k2, .string nm2, .slice h2.oa l2.length h2.cap] rfl [.int .i64 0, .string ⟨#[]⟩, .slice none 0 0] 46 ((HB3.out.block (N + 1 + 1 + 1) (blk_lt HX.out.2.2.2)).trans HX.out.2.2.2) (Nat.le_refl _) (show (Tryz.prog.info? 46).map (·.size) = some 3 by kernel_rfl) ?ca2 (N + 1 + 1 + 1) (Nat.le_refl _) W3 (Below.refl _ _) ?_))
  try case ca2 => first | exact ⟨rfl, rfl, rfl⟩ | (intro v hv; simp at hv; rcases hv with rfl | rfl | rfl <;> rfl)
  intro WF hb hbx hoth
  have HF := Lib.hid (And.intro hb hoth)
  obtain ⟨f0, f1, f2, ff, fl⟩ := cells3p hbx
  clear hb hbx hoth m0 m1 m2 mf ml
  go_wp2
  refine bodyPost_ret (v := .tuple #[.agg #[.int .i64 k2, .string nm2, .slice h2.oa l2.length h2.cap], .int .i64 er]) (by simp [results, Tryz.results14, go_sem, f0, f1, f2]) rfl ⟨(HB0.out.trans (HB3.out.mono HB0.out.size)).trans (HF.out.1.mono (by have := HN.out; omega)), .mk k2 nm2 h2 l2, er, f, rfl, HT1.out.2.1, HY3.out.1.trans HT1.out.2.2, ?_⟩
  · refine TyH.und f _ _ _ (eb_und HF.out.1.size fun y hy h1 h2 => ⟨?_, h2, HF.out.2 y ?_⟩) HY3.out.2
    · have := HB0.out.size; have := HB2.out.size; omega
    · have h3 := blk_lt HX.out.2.2.2
      have := HB2.out.size
      omega
end Go.Proofs.YtmcjeicdjneinaaGreatDoor
