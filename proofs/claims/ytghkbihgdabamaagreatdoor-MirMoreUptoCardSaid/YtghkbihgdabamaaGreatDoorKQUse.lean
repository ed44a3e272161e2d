/-
  mir's use: the type of a use. Conditions: the view, its source, its body and the use lie in the heap; types are not too large.
-/
import Derived.Test.YtghkbihgdabamaaGreatDoorKQSett
namespace Go.Proofs.YtghkbihgdabamaaGreatDoor
open Go.RowKit

theorem cells5p {w : World} {k : Nat} {v0 v1 v2 v3 v4 : Value} {t : TypeId} (h : w.heap[k]? = some (.cells #[v0, v1, v2, v3, v4] t)) :
    w.cell? ⟨k, 0, none⟩ = some v0 ∧ w.cell? ⟨k, 1, none⟩ = some v1 ∧ w.cell? ⟨k, 2, none⟩ = some v2 ∧ w.cell? ⟨k, 3, none⟩ = some v3 ∧ w.cell? ⟨k, 4, none⟩ = some v4 ∧ (∀ j, w.frozen? ⟨k, j, none⟩ = false) ∧ k < w.heap.size := by
  have hl := (Array.getElem?_eq_some_iff.1 h).1
  exact ⟨by simp [World.cell?, h], by simp [World.cell?, h], by simp [World.cell?, h], by simp [World.cell?, h], by simp [World.cell?, h], fun j => by simp [World.frozen?, h], hl⟩
/-- the type at a spot, moved or copied -/
def useO : Option (Ty5 × Bool) → Int → Bool → Nat → Option Ty5
  | none, _, _, _ => none
  | some r, n, mv, np => if n ≠ 0 ∨ mv = copiesT r.1 ∨ (mv = true ∧ 0 < np) then none else some r.1
def useR (s : So5) (n : Nat) (b : Bo) (u : Us) : Option Ty5 := if u.num = true then (if u.mv || !noSpB u.s then none else some (.mk 1 nil5 h0 []))
  else useO (spotR s n b u.s) u.n u.mv u.s.path.length
/-- what use answers; kf: the blocks that the type's own data may stand in -/
def UseP (kf : Nat → Bool) (w' : World) (R : Option Ty5) (e : Ending) : Prop := match R with
  | some t => ∃ y, e = .returned (.tuple #[tyV y, .int .i64 0]) ∧ erTy y = t ∧ ∃ f, TyH f (ebp w' kf) y
  | none => e = .returned (.tuple #[.agg #[.int .i64 0, .string ⟨#[]⟩, .slice none 0 0], .int .i64 84])
set_option maxRecDepth 100000 in
set_option maxHeartbeats 4000000 in
theorem mnumber_any (w : World) : Calls Tryz.prog 117 #[] w fun e w' => e = .returned (.agg #[.int .i64 1, .string ⟨#[]⟩, .slice none 0 0]) ∧ Below w.heap.size w w' := by
  obtain ⟨W0, hW⟩ : ∃ W, W = w.alloc (.cells #[.int .i64 0, .string ⟨#[]⟩, .slice none 0 0] 46) := ⟨_, rfl⟩
  have hx0 : W0.heap[w.heap.size]? = some (.cells #[.int .i64 0, .string ⟨#[]⟩, .slice none 0 0] 46) := by rw [hW]; exact heap_alloc_new _ _
  have hb0 : Below w.heap.size w W0 := by rw [hW]; exact alloc_below _ _
  obtain ⟨N, hN⟩ : ∃ N, N = w.heap.size := ⟨_, rfl⟩
  rw [← hN] at hx0 hb0
  have HX := Lib.hid hx0
  have HB0 := Lib.hid hb0
  have HN := Lib.hid hN
  clear hx0 hb0
  go_enter Tryz.func117, Tryz.ntmps117
  go_upto_region 1 with fail
  rw [← hW]
  clear hW
  try simp only [← hN]
  clear hN
  go_wp2_with (go_loud (refine wpList_store_box rfl 46 (.tmp 0) (.tmp 1) rfl N 0 rfl (.agg #[.int .i64 1, .string ⟨#[]⟩, .slice none 0 0]) rfl [.int .i64 1, .string ⟨#[]⟩, .slice none 0 0] rfl [.int .i64 0, .string ⟨#[]⟩, .slice none 0 0] 46 HX.out (Nat.le_refl _) (show (Tryz.prog.info? 46).map (·.size) = some 3 by kernel_rfl) ?ca N (Nat.le_refl _) W0 (Below.refl _ _) ?_))
  try case ca => first | exact ⟨rfl, rfl, rfl⟩ | (intro v hv; simp at hv; rcases hv with rfl | rfl | rfl <;> rfl)
  intro WF hb hbx hoth
  have HF := Lib.hid (show Below w.heap.size w WF by rw [← HN.out]; exact HB0.out.trans hb)
  obtain ⟨f0, f1, f2, ff, fl⟩ := cells3p hbx
  clear hb hbx hoth
  go_wp2
  exact bodyPost_ret (v := .agg #[.int .i64 1, .string ⟨#[]⟩, .slice none 0 0]) (by simp [results, Tryz.results117, go_sem, f0, f1, f2]) rfl ⟨rfl, HF.out⟩
set_option maxRecDepth 100000 in
set_option maxHeartbeats 40000000 in
theorem use_num (kf : Nat → Bool) (v : Nat) (n : Int) (mv : Bool) (x : Sp) (w : World) : Calls Tryz.prog 120 #[.pointer (some ⟨v, 0, none⟩), usV ⟨true, n, mv, x⟩] w fun e w' => Below w.heap.size w w' ∧ UseP kf w' (if mv || !noSpB x then none else some (.mk 1 nil5 h0 [])) e := by
  obtain ⟨loc, h, path⟩ := x
  simp only [usV, usC, spC, List.cons_append, List.nil_append]
  have hsp := fun W => isNoSpot_any ⟨loc, h, path⟩ W
  obtain ⟨B, hB⟩ : ∃ B, B = noSpB ⟨loc, h, path⟩ := ⟨_, rfl⟩
  rw [← hB]
  simp only [← hB] at hsp
  simp only [spV, spC] at hsp
  have HS := Lib.hid hsp
  clear hsp hB
  obtain ⟨W0, hW⟩ : ∃ W, W = (w.alloc (.cells #[.bool true, .int .i64 n, .bool mv, .int .i64 loc, .slice h.oa path.length h.cap] 42)).alloc (.cells #[.int .i64 0, .string ⟨#[]⟩, .slice none 0 0] 46) := ⟨_, rfl⟩
  obtain ⟨hb0, hx0, hx1⟩ := pal2 w (.cells #[.bool true, .int .i64 n, .bool mv, .int .i64 loc, .slice h.oa path.length h.cap] 42) (.cells #[.int .i64 0, .string ⟨#[]⟩, .slice none 0 0] 46)
  rw [← hW] at hb0 hx0 hx1
  obtain ⟨N, hN⟩ : ∃ N, N = w.heap.size := ⟨_, rfl⟩
  rw [← hN] at hx0 hx1 hb0
  have HX := Lib.hid (And.intro hx0 hx1)
  have HB0 := Lib.hid hb0
  have HN := Lib.hid hN
  clear hx0 hx1 hb0
  cases mv with
  | true =>
    go_enter Tryz.func120, Tryz.ntmps120
    go_upto_region 1 with fail
    rw [← hW]
    clear hW
    try simp only [← hN]
    clear hN
    obtain ⟨p0, p1, p2, p3, p4, pf, pl⟩ := cells5p HX.out.1
    go_wp2_with (first
      | (go_loud (go_at_call 86; refine (HS.out _).mono ?_; rintro e W1 ⟨rfl, hb1⟩; have HK1 := Lib.hid (show Below W0.heap.size W0 W1 from hb1); clear hb1))
      | (go_loud (go_at_call 117; refine (mnumber_any W1).mono ?_; rintro e W2 ⟨rfl, hb1⟩; have HK2 := Lib.hid (HK1.out.trans (hb1.mono HK1.out.size)); clear hb1))
      | (go_loud (refine wpList_store_box rfl 46 (.tmp 4) (.tmp 19) rfl (N + 1) 0 rfl (.agg #[.int .i64 0, .string ⟨#[]⟩, .slice none 0 0]) rfl [.int .i64 0, .string ⟨#[]⟩, .slice none 0 0] rfl [.int .i64 0, .string ⟨#[]⟩, .slice none 0 0] 46 HX.out.2 (Nat.le_refl _) (show (Tryz.prog.info? 46).map (·.size) = some 3 by kernel_rfl) ?cb1 (N + 1) (Nat.le_refl _) W0 (Below.refl _ _) ?_)))
    try case cb1 => first | exact ⟨rfl, rfl, rfl⟩ | (intro v hv; simp at hv; rcases hv with rfl | rfl | rfl <;> rfl)
    intro WF hb hbx hoth
    have HF := Lib.hid (show Below w.heap.size w WF by rw [← HN.out]; exact (HB0.out).trans (hb.mono (by omega)))
    obtain ⟨f0, f1, f2, ff, fl⟩ := cells3p hbx
    clear hb hbx hoth p0 p1 p2 p3 p4 pf pl
    go_wp2
    refine bodyPost_ret (v := .tuple #[.agg #[.int .i64 0, .string ⟨#[]⟩, .slice none 0 0], .int .i64 84]) (by simp [results, Tryz.results120, go_sem, f0, f1, f2]) rfl ⟨HF.out, ?_⟩
    rfl
  | false =>
    cases B with
    | false =>
      go_enter Tryz.func120, Tryz.ntmps120
      go_upto_region 1 with fail
      rw [← hW]
      clear hW
      try simp only [← hN]
      clear hN
      obtain ⟨p0, p1, p2, p3, p4, pf, pl⟩ := cells5p HX.out.1
      go_wp2_with (first
        | (go_loud (go_at_call 86; refine (HS.out _).mono ?_; rintro e W1 ⟨rfl, hb1⟩; have HK1 := Lib.hid (show Below W0.heap.size W0 W1 from hb1); clear hb1))
        | (go_loud (go_at_call 117; refine (mnumber_any W1).mono ?_; rintro e W2 ⟨rfl, hb1⟩; have HK2 := Lib.hid (HK1.out.trans (hb1.mono HK1.out.size)); clear hb1))
        | (go_loud (refine wpList_store_box rfl 46 (.tmp 4) (.tmp 19) rfl (N + 1) 0 rfl (.agg #[.int .i64 0, .string ⟨#[]⟩, .slice none 0 0]) rfl [.int .i64 0, .string ⟨#[]⟩, .slice none 0 0] rfl [.int .i64 0, .string ⟨#[]⟩, .slice none 0 0] 46 ((HK1.out.block (N + 1) (blk_lt HX.out.2)).trans HX.out.2) (Nat.le_refl _) (show (Tryz.prog.info? 46).map (·.size) = some 3 by kernel_rfl) ?cb2 (N + 1) (Nat.le_refl _) W1 (Below.refl _ _) ?_)))
      try case cb2 => first | exact ⟨rfl, rfl, rfl⟩ | (intro v hv; simp at hv; rcases hv with rfl | rfl | rfl <;> rfl)
      intro WF hb hbx hoth
      have HF := Lib.hid (show Below w.heap.size w WF by rw [← HN.out]; exact (HB0.out.trans (HK1.out.mono (by have := blk_lt HX.out.2; omega))).trans (hb.mono (by omega)))
      obtain ⟨f0, f1, f2, ff, fl⟩ := cells3p hbx
      clear hb hbx hoth p0 p1 p2 p3 p4 pf pl
      go_wp2
      refine bodyPost_ret (v := .tuple #[.agg #[.int .i64 0, .string ⟨#[]⟩, .slice none 0 0], .int .i64 84]) (by simp [results, Tryz.results120, go_sem, f0, f1, f2]) rfl ⟨HF.out, ?_⟩
      rfl
    | true =>
      go_enter Tryz.func120, Tryz.ntmps120
      go_upto_region 1 with fail
      rw [← hW]
      clear hW
      try simp only [← hN]
      clear hN
      obtain ⟨p0, p1, p2, p3, p4, pf, pl⟩ := cells5p HX.out.1
      go_wp2_with (first
        | (go_loud (go_at_call 86; refine (HS.out _).mono ?_; rintro e W1 ⟨rfl, hb1⟩; have HK1 := Lib.hid (show Below W0.heap.size W0 W1 from hb1); clear hb1))
        | (go_loud (go_at_call 117; refine (mnumber_any W1).mono ?_; rintro e W2 ⟨rfl, hb1⟩; have HK2 := Lib.hid (HK1.out.trans (hb1.mono HK1.out.size)); clear hb1))
        | (go_loud (refine wpList_store_box rfl 46 (.tmp 4) (.tmp 20) rfl (N + 1) 0 rfl (.agg #[.int .i64 1, .string ⟨#[]⟩, .slice none 0 0]) rfl [.int .i64 1, .string ⟨#[]⟩, .slice none 0 0] rfl [.int .i64 0, .string ⟨#[]⟩, .slice none 0 0] 46 ((HK2.out.block (N + 1) (blk_lt HX.out.2)).trans HX.out.2) (Nat.le_refl _) (show (Tryz.prog.info? 46).map (·.size) = some 3 by kernel_rfl) ?cb3 (N + 1) (Nat.le_refl _) W2 (Below.refl _ _) ?_)))
      try case cb3 => first | exact ⟨rfl, rfl, rfl⟩ | (intro v hv; simp at hv; rcases hv with rfl | rfl | rfl <;> rfl)
      intro WF hb hbx hoth
      have HF := Lib.hid (show Below w.heap.size w WF by rw [← HN.out]; exact (HB0.out.trans (HK2.out.mono (by have := blk_lt HX.out.2; omega))).trans (hb.mono (by omega)))
      obtain ⟨f0, f1, f2, ff, fl⟩ := cells3p hbx
      clear hb hbx hoth p0 p1 p2 p3 p4 pf pl
      go_wp2
      refine bodyPost_ret (v := .tuple #[.agg #[.int .i64 1, .string ⟨#[]⟩, .slice none 0 0], .int .i64 0]) (by simp [results, Tryz.results120, go_sem, f0, f1, f2]) rfl ⟨HF.out, ?_⟩
      exact ⟨.mk 1 nil5 h0 [], rfl, rfl, 1, ⟨by decide, by decide⟩, Row.nil _ _ _ _⟩
theorem SpotK.val {kf : Nat → Bool} {w' : World} {R : Option (Ty5 × Bool)} {e : Ending} (h : SpotK kf w' R e) : ∃ y sh er f, e = .returned (.tuple #[tyV y, .bool sh, .int .i64 er]) ∧ TyH f (ebp w' kf) y ∧ TyR y sh er R := by
  cases R with
  | none => exact ⟨ty0, false, 84, 1, h, ⟨by unfold I64; omega, Row.nil _ _ _ _⟩, rfl, rfl, rfl⟩
  | some r =>
    obtain ⟨y, h1, h2, f, h3⟩ := h
    exact ⟨y, r.2, 0, f, h1, h3, h2, rfl, rfl⟩
set_option maxRecDepth 100000 in
set_option maxHeartbeats 40000000 in
theorem use_spot (kf : Nat → Bool) (m : Nat) (s : So5) (b : Bo) (v : Nat) (n : Int) (mv : Bool) (x : Sp) (w : World) (hs : SoH m w s) (hsn : SoN s) (hv : ViewAt w v s b) (hb : BoH m w b) (hx : SpH w x) (hk : ∀ y, w.heap.size ≤ y → kf y = true) (hbk : ∀ lo ∈ b.locals, TyH m (ebp w kf) lo.ty) :
    Calls Tryz.prog 120 #[.pointer (some ⟨v, 0, none⟩), usV ⟨false, n, mv, x⟩] w fun e w' => Below w.heap.size w w' ∧ UseP kf w' (useO (spotR s m b x) n mv x.path.length) e := by
  obtain ⟨R, hR⟩ : ∃ R, R = spotR s m b x := ⟨_, rfl⟩
  rw [← hR]
  have HSP := Lib.hid (show ∀ W a c, Below w.heap.size w W → w.heap.size ≤ a → w.heap.size ≤ c → a < W.heap.size → c < W.heap.size → Calls Tryz.prog 24 #[.pointer (some ⟨v, 0, none⟩), spV x] W fun e w' => Below W.heap.size W w' ∧ SpotK (fun y => kf y && (y != a && y != c)) w' R e from fun W a c hW ha hc ha2 hc2 => by
    rw [hR]
    exact spotK_any _ m s b v x W (SoH.below hs hW) hsn (hv.below hW) (BoH.below hb hW) (SpH.below hx hW) (fun y hy => by have h1 := hW.size; simp [hk y (by omega)]; omega) fun lo hlo => TyH.und m _ _ _ (ebp_und hW.size fun y hl hy => ⟨by simp [hy]; omega, hW.block y hl⟩) (hbk lo hlo))
  have hlp : x.path.length ≤ 9223372036854775807 := by
    have h1 : x.path.length ≤ x.h.cap := hx.2.1
    have h2 : x.h.cap ≤ maxLen := hx.2.2.1
    unfold maxLen at h2
    omega
  obtain ⟨loc, h, path⟩ := x
  simp only [usV, usC, spV, spC, List.cons_append, List.nil_append] at HSP hlp ⊢
  obtain ⟨np, hnp⟩ : ∃ k, path.length = k := ⟨_, rfl⟩
  rw [hnp] at hlp
  have HLP := Lib.hid hlp
  clear hs hsn hv hb hx hR hlp hk hbk
  obtain ⟨W0, hW⟩ : ∃ W, W = (w.alloc (.cells #[.bool false, .int .i64 n, .bool mv, .int .i64 loc, .slice h.oa path.length h.cap] 42)).alloc (.cells #[.int .i64 0, .string ⟨#[]⟩, .slice none 0 0] 46) := ⟨_, rfl⟩
  obtain ⟨hb0, hx0, hx1⟩ := pal2 w (.cells #[.bool false, .int .i64 n, .bool mv, .int .i64 loc, .slice h.oa path.length h.cap] 42) (.cells #[.int .i64 0, .string ⟨#[]⟩, .slice none 0 0] 46)
  rw [← hW] at hb0 hx0 hx1
  obtain ⟨N, hN⟩ : ∃ N, N = w.heap.size := ⟨_, rfl⟩
  rw [← hN] at hx0 hx1 hb0
  have HX := Lib.hid (And.intro hx0 hx1)
  have HB0 := Lib.hid hb0
  have HN := Lib.hid hN
  clear hx0 hx1 hb0
  rw [hnp] at HX HSP hW ⊢
  clear hnp
  go_enter Tryz.func120, Tryz.ntmps120
  go_upto_region 1 with fail
  rw [← hW]
  clear hW
  try simp only [← hN]
  clear hN
  obtain ⟨p0, p1, p2, p3, p4, pf, pl⟩ := cells5p HX.out.1
  go_upto_region 6 with
    (first
      | (go_loud (go_at_call 24; refine (HSP.out W0 N (N + 1) (by rw [← HN.out]; exact HB0.out) (by rw [← HN.out]; exact Nat.le_refl _) (by rw [← HN.out]; exact Nat.le_succ _) (blk_lt HX.out.1) (blk_lt HX.out.2)).mono ?_; rintro e W1 ⟨hb1, hp1⟩; obtain ⟨⟨k1, nm1, h1, l1⟩, sh, er, f, rfl, ht1, hr1⟩ := hp1.val; simp only [tyV, tyC]; have HS1 := Lib.hid hb1; have HT1 := Lib.hid (And.intro ht1 hr1); clear hb1 hp1 ht1 hr1))
      | (go_loud (refine wpList_store_box rfl 46 (.tmp 6) (.tmp 26) rfl W1.heap.size 0 rfl (.agg #[.int .i64 k1, .string nm1, .slice h1.oa l1.length h1.cap]) rfl [.int .i64 k1, .string nm1, .slice h1.oa l1.length h1.cap] rfl [.int .i64 0, .string ⟨#[]⟩, .slice none 0 0] 46 (heap_alloc_new W1 (.cells #[.int .i64 0, .string ⟨#[]⟩, .slice none 0 0] 46)) (Nat.le_refl _) (show (Tryz.prog.info? 46).map (·.size) = some 3 by kernel_rfl) ?ca1 W1.heap.size (Nat.le_refl _) (W1.alloc (.cells #[.int .i64 0, .string ⟨#[]⟩, .slice none 0 0] 46)) (Below.refl _ _) ?_)))
  try case ca1 => first | exact ⟨rfl, rfl, rfl⟩ | (intro v hv; simp at hv; rcases hv with rfl | rfl | rfl <;> rfl)
  intro W2 hb2 hbx hoth
  have HB2 := Lib.hid (show Below W0.heap.size W0 W2 from HS1.out.trans (((alloc_below W1 (.cells #[.int .i64 0, .string ⟨#[]⟩, .slice none 0 0] 46)).trans hb2).mono HS1.out.size))
  obtain ⟨M, hM⟩ : ∃ M, M = W1.heap.size := ⟨_, rfl⟩
  have HM := Lib.hid (show W2.heap[M]? = some (.cells #[.int .i64 k1, .string nm1, .slice h1.oa l1.length h1.cap] 46) ∧ W0.heap.size ≤ M ∧ W1.heap.size ≤ W2.heap.size ∧ Below W1.heap.size W1 W2 by rw [hM]; exact ⟨hbx, HS1.out.size, Nat.le_trans (alloc_below W1 _).size hb2.size, (alloc_below W1 (.cells #[.int .i64 0, .string ⟨#[]⟩, .slice none 0 0] 46)).trans hb2⟩)
  have HX2 := Lib.hid (show W2.heap[N]? = some (.cells #[.bool false, .int .i64 n, .bool mv, .int .i64 loc, .slice h.oa np h.cap] 42) ∧ W2.heap[N + 1]? = some (.cells #[.int .i64 0, .string ⟨#[]⟩, .slice none 0 0] 46) from ⟨(HB2.out.block N (blk_lt HX.out.1)).trans HX.out.1, (HB2.out.block (N + 1) (blk_lt HX.out.2)).trans HX.out.2⟩)
  try simp only [← hM]
  clear hM hb2 hbx hoth p0 p1 p2 p3 p4 pf pl
  have hcp := fun W => copies_any (.mk k1 nm1 h1 l1) W
  simp only [tyV, tyC] at hcp
  obtain ⟨m0, m1, m2, mf, ml⟩ := cells3p HM.out.1
  obtain ⟨p0, p1, p2, p3, p4, pf, pl⟩ := cells5p HX2.out.1
  have HP := Lib.hid (And.intro p1 (And.intro p2 (And.intro p4 (And.intro m0 (And.intro m1 m2)))))
  cases R with
  | none =>
    obtain ⟨-, -, rfl⟩ := HT1.out.2
    clear hcp
    go_wp2_with fail
    refine wp_region_held_drew (S := (fun w' => w'.cell? ⟨N, 1, none⟩ = some (.int .i64 n) ∧ w'.cell? ⟨N, 2, none⟩ = some (.bool mv) ∧ w'.cell? ⟨N, 4, none⟩ = some (.slice h.oa np h.cap) ∧ w'.cell? ⟨M, 0, none⟩ = some (.int .i64 k1) ∧ w'.cell? ⟨M, 1, none⟩ = some (.string nm1) ∧ w'.cell? ⟨M, 2, none⟩ = some (.slice h1.oa l1.length h1.cap))) (by kernel_rfl) ?_ (fun hHeld => ?_)
    · exact HP.out
    clear m0 m1 m2 p1 p2 p4 p0 p3
    refine wpAnyH_take (i := 0) (oi := { dst := some 29, op := Op.move (Operand.tmp 8), type := 47, pos := "view.go:62", after := #[], guard := none }) (v := ?vq0_1) rfl (by kernel_rfl) (by kernel_rfl) (by kernel_rfl) (fun _ _ _ h => h) (Or.inl ⟨by rfl, ?hq0_1⟩) (by assumption) ?_
    case hq0_1 => intro w hSw; (try dsimp only at hSw); go_simp; try (with_reducible rfl)
    (try simp only [Act.put, qA, qB, qC])
    refine wpAnyH_take (i := 1) (oi := { dst := some 30, op := Op.binOp BinOp.neq 47 (Operand.tmp 29) (Operand.const (Value.int IntKind.i64 0)) 47, type := 4, pos := "view.go:62", after := #[{ on := 0, ground := Ground.data }], guard := none }) (v := ?vq1_2) rfl (by kernel_rfl) (by kernel_rfl) (by kernel_rfl) (fun _ _ _ h => h) (Or.inl ⟨by rfl, ?hq1_2⟩) (by assumption) ?_
    case hq1_2 => intro w hSw; (try dsimp only at hSw); go_simp; try (with_reducible rfl)
    (try simp only [Act.put, qA, qB, qC])
    refine wpAnyH_take (i := 2) (oi := { dst := some 31, op := Op.move (Operand.tmp 30), type := 4, pos := "view.go:62", after := #[{ on := 1, ground := Ground.data }], guard := none }) (v := ?vq2_3) rfl (by kernel_rfl) (by kernel_rfl) (by kernel_rfl) (fun _ _ _ h => h) (Or.inl ⟨by rfl, ?hq2_3⟩) (by assumption) ?_
    case hq2_3 => intro w hSw; (try dsimp only at hSw); go_simp; try (with_reducible rfl)
    (try simp only [Act.put, qA, qB, qC])
    refine wpAnyH_take (i := 3) (oi := { dst := some 32, op := Op.fieldAddr 42 (Operand.tmp 3) 1, type := 0, pos := "view.go:62", after := #[{ on := 2, ground := Ground.guard }], guard := some (2, false) }) (v := undef) rfl (by kernel_rfl) (by kernel_rfl) (by kernel_rfl) (fun _ _ _ h => h) (Or.inr ⟨by rfl, rfl⟩) (by assumption) ?_
    (try simp only [Act.put, qA, qB, qC])
    refine wpAnyH_take (i := 4) (oi := { dst := some 33, op := Op.load 3 (Operand.tmp 32), type := 3, pos := "view.go:62", after := #[{ on := 3, ground := Ground.data }, { on := 2, ground := Ground.guard }], guard := some (2, false) }) (v := undef) rfl (by kernel_rfl) (by kernel_rfl) (by kernel_rfl) (fun _ _ _ h => h) (Or.inr ⟨by rfl, rfl⟩) (by assumption) ?_
    (try simp only [Act.put, qA, qB, qC])
    refine wpAnyH_take (i := 5) (oi := { dst := some 34, op := Op.binOp BinOp.neq 3 (Operand.tmp 33) (Operand.const (Value.int IntKind.i64 0)) 3, type := 4, pos := "view.go:62", after := #[{ on := 4, ground := Ground.data }, { on := 2, ground := Ground.guard }], guard := some (2, false) }) (v := undef) rfl (by kernel_rfl) (by kernel_rfl) (by kernel_rfl) (fun _ _ _ h => h) (Or.inr ⟨by rfl, rfl⟩) (by assumption) ?_
    (try simp only [Act.put, qA, qB, qC])
    refine wpAnyH_take (i := 6) (oi := { dst := some 35, op := Op.pick (Operand.tmp 31) (Operand.const (Value.bool true)) (Operand.tmp 34), type := 4, pos := "view.go:62", after := #[{ on := 2, ground := Ground.data }, { on := 5, ground := Ground.data }], guard := none }) (v := ?vq6_4) rfl (by kernel_rfl) (by kernel_rfl) (by kernel_rfl) (fun _ _ _ h => h) (Or.inl ⟨by rfl, ?hq6_4⟩) (by assumption) ?_
    case hq6_4 => intro w hSw; (try dsimp only at hSw); go_simp; try (with_reducible rfl)
    (try simp only [Act.put, qA, qB, qC])
    refine wpAnyH_take (i := 7) (oi := { dst := some 36, op := Op.move (Operand.tmp 35), type := 4, pos := "view.go:62", after := #[{ on := 6, ground := Ground.data }, { on := 2, ground := Ground.chain }], guard := none }) (v := ?vq7_5) rfl (by kernel_rfl) (by kernel_rfl) (by kernel_rfl) (fun _ _ _ h => h) (Or.inl ⟨by rfl, ?hq7_5⟩) (by assumption) ?_
    case hq7_5 => intro w hSw; (try dsimp only at hSw); go_simp; try (with_reducible rfl)
    (try simp only [Act.put, qA, qB, qC])
    refine wpAnyH_take (i := 8) (oi := { dst := some 37, op := Op.fieldAddr 42 (Operand.tmp 3) 2, type := 0, pos := "view.go:62", after := #[{ on := 7, ground := Ground.guard }], guard := some (7, false) }) (v := undef) rfl (by kernel_rfl) (by kernel_rfl) (by kernel_rfl) (fun _ _ _ h => h) (Or.inr ⟨by rfl, rfl⟩) (by assumption) ?_
    (try simp only [Act.put, qA, qB, qC])
    refine wpAnyH_take (i := 10) (oi := { dst := some 39, op := Op.load 46 (Operand.tmp 6), type := 46, pos := "view.go:62", after := #[{ on := 7, ground := Ground.guard }], guard := some (7, false) }) (v := undef) rfl (by kernel_rfl) (by kernel_rfl) (by kernel_rfl) (fun _ _ _ h => h) (Or.inr ⟨by rfl, rfl⟩) (by assumption) ?_
    (try simp only [Act.put, qA, qB, qC])
    refine wpAnyH_take (i := 9) (oi := { dst := some 38, op := Op.load 4 (Operand.tmp 37), type := 4, pos := "view.go:62", after := #[{ on := 8, ground := Ground.data }, { on := 7, ground := Ground.guard }], guard := some (7, false) }) (v := undef) rfl (by kernel_rfl) (by kernel_rfl) (by kernel_rfl) (fun _ _ _ h => h) (Or.inr ⟨by rfl, rfl⟩) (by assumption) ?_
    (try simp only [Act.put, qA, qB, qC])
    refine wpAnyH_take (i := 11) (oi := { dst := some 40, op := Op.call { callee := Callee.value (Operand.func 142), args := #[Operand.tmp 39], argTypes := #[46] }, type := 4, pos := "view.go:62", after := #[{ on := 10, ground := Ground.data }, { on := 7, ground := Ground.chain }, { on := 7, ground := Ground.guard }], guard := some (7, false) }) (v := undef) rfl (by kernel_rfl) (by kernel_rfl) (by kernel_rfl) (fun _ _ _ h => h) (Or.inr ⟨by rfl, rfl⟩) (by assumption) ?_
    (try simp only [Act.put, qA, qB, qC])
    refine wpAnyH_take (i := 12) (oi := { dst := some 41, op := Op.binOp BinOp.eql 4 (Operand.tmp 38) (Operand.tmp 40) 4, type := 4, pos := "view.go:62", after := #[{ on := 9, ground := Ground.data }, { on := 11, ground := Ground.data }, { on := 7, ground := Ground.guard }], guard := some (7, false) }) (v := undef) rfl (by kernel_rfl) (by kernel_rfl) (by kernel_rfl) (fun _ _ _ h => h) (Or.inr ⟨by rfl, rfl⟩) (by assumption) ?_
    (try simp only [Act.put, qA, qB, qC])
    refine wpAnyH_take (i := 13) (oi := { dst := some 42, op := Op.pick (Operand.tmp 36) (Operand.const (Value.bool true)) (Operand.tmp 41), type := 4, pos := "view.go:62", after := #[{ on := 7, ground := Ground.data }, { on := 12, ground := Ground.data }], guard := none }) (v := ?vq13_6) rfl (by kernel_rfl) (by kernel_rfl) (by kernel_rfl) (fun _ _ _ h => h) (Or.inl ⟨by rfl, ?hq13_6⟩) (by assumption) ?_
    case hq13_6 => intro w hSw; (try dsimp only at hSw); go_simp; try (with_reducible rfl)
    (try simp only [Act.put, qA, qB, qC])
    refine wpAnyH_take (i := 14) (oi := { dst := some 43, op := Op.move (Operand.tmp 42), type := 4, pos := "view.go:62", after := #[{ on := 13, ground := Ground.data }, { on := 11, ground := Ground.chain }], guard := none }) (v := ?vq14_7) rfl (by kernel_rfl) (by kernel_rfl) (by kernel_rfl) (fun _ _ _ h => h) (Or.inl ⟨by rfl, ?hq14_7⟩) (by assumption) ?_
    case hq14_7 => intro w hSw; (try dsimp only at hSw); go_simp; try (with_reducible rfl)
    (try simp only [Act.put, qA, qB, qC])
    refine wpAnyH_take (i := 15) (oi := { dst := some 44, op := Op.fieldAddr 42 (Operand.tmp 3) 2, type := 0, pos := "view.go:62", after := #[{ on := 14, ground := Ground.guard }], guard := some (14, false) }) (v := undef) rfl (by kernel_rfl) (by kernel_rfl) (by kernel_rfl) (fun _ _ _ h => h) (Or.inr ⟨by rfl, rfl⟩) (by assumption) ?_
    (try simp only [Act.put, qA, qB, qC])
    refine wpAnyH_take (i := 16) (oi := { dst := some 45, op := Op.load 4 (Operand.tmp 44), type := 4, pos := "view.go:62", after := #[{ on := 15, ground := Ground.data }, { on := 14, ground := Ground.guard }], guard := some (14, false) }) (v := undef) rfl (by kernel_rfl) (by kernel_rfl) (by kernel_rfl) (fun _ _ _ h => h) (Or.inr ⟨by rfl, rfl⟩) (by assumption) ?_
    (try simp only [Act.put, qA, qB, qC])
    refine wpAnyH_take (i := 17) (oi := { dst := some 46, op := Op.move (Operand.tmp 45), type := 4, pos := "view.go:62", after := #[{ on := 16, ground := Ground.data }, { on := 14, ground := Ground.chain }, { on := 14, ground := Ground.guard }], guard := some (14, false) }) (v := undef) rfl (by kernel_rfl) (by kernel_rfl) (by kernel_rfl) (fun _ _ _ h => h) (Or.inr ⟨by rfl, rfl⟩) (by assumption) ?_
    (try simp only [Act.put, qA, qB, qC])
    refine wpAnyH_take (i := 18) (oi := { dst := some 47, op := Op.fieldAddr 42 (Operand.tmp 3) 3, type := 0, pos := "view.go:62", after := #[{ on := 17, ground := Ground.guard }], guard := some (17, true) }) (v := undef) rfl (by kernel_rfl) (by kernel_rfl) (by kernel_rfl) (fun _ _ _ h => h) (Or.inr ⟨by rfl, rfl⟩) (by assumption) ?_
    (try simp only [Act.put, qA, qB, qC])
    refine wpAnyH_take (i := 19) (oi := { dst := some 48, op := Op.fieldAddr 33 (Operand.tmp 47) 1, type := 0, pos := "view.go:62", after := #[{ on := 18, ground := Ground.data }, { on := 17, ground := Ground.guard }], guard := some (17, true) }) (v := undef) rfl (by kernel_rfl) (by kernel_rfl) (by kernel_rfl) (fun _ _ _ h => h) (Or.inr ⟨by rfl, rfl⟩) (by assumption) ?_
    (try simp only [Act.put, qA, qB, qC])
    refine wpAnyH_take (i := 20) (oi := { dst := some 49, op := Op.load 31 (Operand.tmp 48), type := 31, pos := "view.go:62", after := #[{ on := 19, ground := Ground.data }, { on := 17, ground := Ground.guard }], guard := some (17, true) }) (v := undef) rfl (by kernel_rfl) (by kernel_rfl) (by kernel_rfl) (fun _ _ _ h => h) (Or.inr ⟨by rfl, rfl⟩) (by assumption) ?_
    (try simp only [Act.put, qA, qB, qC])
    refine wpAnyH_take (i := 21) (oi := { dst := some 50, op := Op.call { callee := Callee.builtin Builtin.len, args := #[Operand.tmp 49], argTypes := #[31] }, type := 3, pos := "view.go:62", after := #[{ on := 20, ground := Ground.data }, { on := 17, ground := Ground.guard }], guard := some (17, true) }) (v := undef) rfl (by kernel_rfl) (by kernel_rfl) (by kernel_rfl) (fun _ _ _ h => h) (Or.inr ⟨by rfl, rfl⟩) (by assumption) ?_
    (try simp only [Act.put, qA, qB, qC])
    refine wpAnyH_take (i := 22) (oi := { dst := some 51, op := Op.binOp BinOp.gtr 3 (Operand.tmp 50) (Operand.const (Value.int IntKind.i64 0)) 3, type := 4, pos := "view.go:62", after := #[{ on := 21, ground := Ground.data }, { on := 17, ground := Ground.guard }], guard := some (17, true) }) (v := undef) rfl (by kernel_rfl) (by kernel_rfl) (by kernel_rfl) (fun _ _ _ h => h) (Or.inr ⟨by rfl, rfl⟩) (by assumption) ?_
    (try simp only [Act.put, qA, qB, qC])
    refine wpAnyH_take (i := 23) (oi := { dst := some 52, op := Op.pick (Operand.tmp 46) (Operand.tmp 51) (Operand.const (Value.bool false)), type := 4, pos := "view.go:62", after := #[{ on := 17, ground := Ground.data }, { on := 22, ground := Ground.data }, { on := 14, ground := Ground.guard }], guard := some (14, false) }) (v := undef) rfl (by kernel_rfl) (by kernel_rfl) (by kernel_rfl) (fun _ _ _ h => h) (Or.inr ⟨by rfl, rfl⟩) (by assumption) ?_
    (try simp only [Act.put, qA, qB, qC])
    refine wpAnyH_take (i := 24) (oi := { dst := some 53, op := Op.pick (Operand.tmp 43) (Operand.const (Value.bool true)) (Operand.tmp 52), type := 4, pos := "view.go:62", after := #[{ on := 14, ground := Ground.data }, { on := 23, ground := Ground.data }], guard := none }) (v := ?vq24_8) rfl (by kernel_rfl) (by kernel_rfl) (by kernel_rfl) (fun _ _ _ h => h) (Or.inl ⟨by rfl, ?hq24_8⟩) (by assumption) ?_
    case hq24_8 => intro w hSw; (try dsimp only at hSw); go_simp; try (with_reducible rfl)
    (try simp only [Act.put, qA, qB, qC])
    refine wpAnyH_done (by kernel_rfl) ?_ _
    go_wp2_with (go_loud (refine wpList_store_box rfl 46 (.tmp 4) (.tmp 54) rfl (N + 1) 0 rfl (.agg #[.int .i64 0, .string ⟨#[]⟩, .slice none 0 0]) rfl [.int .i64 0, .string ⟨#[]⟩, .slice none 0 0] rfl [.int .i64 0, .string ⟨#[]⟩, .slice none 0 0] 46 (show W2.drew.heap[N + 1]? = _ from HX2.out.2) (Nat.le_refl _) (show (Tryz.prog.info? 46).map (·.size) = some 3 by kernel_rfl) ?cz1 (N + 1) (Nat.le_refl _) W2.drew (Below.refl _ _) ?_))
    try case cz1 => first | exact ⟨rfl, rfl, rfl⟩ | (intro v hv; simp at hv; rcases hv with rfl | rfl | rfl <;> rfl)
    intro WF hb hbx hoth
    have HF := Lib.hid (show Below w.heap.size w WF by rw [← HN.out]; exact HB0.out.trans (((HB2.out.trans (show Below W0.heap.size W2 W2.drew from ⟨rfl, rfl, rfl, Nat.le_refl _, fun _ _ => rfl⟩)).mono (by have := blk_lt HX.out.1; omega) : Below N W0 W2.drew).trans (hb.mono (by omega))))
    obtain ⟨f0, f1, f2, ff, fl⟩ := cells3p hbx
    clear hb hbx hoth
    go_wp2
    refine bodyPost_ret (v := .tuple #[.agg #[.int .i64 0, .string ⟨#[]⟩, .slice none 0 0], .int .i64 84]) (by simp [results, Tryz.results120, go_sem, f0, f1, f2]) rfl ⟨HF.out, ?_⟩
    rfl
  | some r =>
    obtain ⟨hy, rfl, rfl⟩ := HT1.out.2
    have hn2 : copiesT (.mk k1 nm1 h1 l1) = copiesT r.1 := by rw [← hy, copiesT_er]
    obtain ⟨c, hc⟩ : ∃ c, copiesT r.1 = c := ⟨_, rfl⟩
    rw [hc] at hn2
    simp only [hn2] at hcp
    have HCP := Lib.hid hcp
    have HC := Lib.hid (And.intro hy hc)
    obtain ⟨r1, r2⟩ := r
    clear hcp hn2 hy hc
    by_cases hn0 : n = 0
    · subst hn0
      cases mv with
      | false =>
        cases c with
        | false =>
          go_wp2_with fail
          refine wp_region_held_drew (S := (fun w' => w'.cell? ⟨N, 1, none⟩ = some (.int .i64 0) ∧ w'.cell? ⟨N, 2, none⟩ = some (.bool false) ∧ w'.cell? ⟨N, 4, none⟩ = some (.slice h.oa np h.cap) ∧ w'.cell? ⟨M, 0, none⟩ = some (.int .i64 k1) ∧ w'.cell? ⟨M, 1, none⟩ = some (.string nm1) ∧ w'.cell? ⟨M, 2, none⟩ = some (.slice h1.oa l1.length h1.cap))) (by kernel_rfl) ?_ (fun hHeld => ?_)
          · exact HP.out
          clear m0 m1 m2 p1 p2 p4 p0 p3
          refine wpAnyH_take (i := 0) (oi := { dst := some 29, op := Op.move (Operand.tmp 8), type := 47, pos := "view.go:62", after := #[], guard := none }) (v := ?vq0_9) rfl (by kernel_rfl) (by kernel_rfl) (by kernel_rfl) (fun _ _ _ h => h) (Or.inl ⟨by rfl, ?hq0_9⟩) (by assumption) ?_
          case hq0_9 => intro w hSw; (try dsimp only at hSw); go_simp; try (with_reducible rfl)
          (try simp only [Act.put, qA, qB, qC])
          refine wpAnyH_take (i := 1) (oi := { dst := some 30, op := Op.binOp BinOp.neq 47 (Operand.tmp 29) (Operand.const (Value.int IntKind.i64 0)) 47, type := 4, pos := "view.go:62", after := #[{ on := 0, ground := Ground.data }], guard := none }) (v := ?vq1_10) rfl (by kernel_rfl) (by kernel_rfl) (by kernel_rfl) (fun _ _ _ h => h) (Or.inl ⟨by rfl, ?hq1_10⟩) (by assumption) ?_
          case hq1_10 => intro w hSw; (try dsimp only at hSw); go_simp; try (with_reducible rfl)
          (try simp only [Act.put, qA, qB, qC])
          refine wpAnyH_take (i := 2) (oi := { dst := some 31, op := Op.move (Operand.tmp 30), type := 4, pos := "view.go:62", after := #[{ on := 1, ground := Ground.data }], guard := none }) (v := ?vq2_11) rfl (by kernel_rfl) (by kernel_rfl) (by kernel_rfl) (fun _ _ _ h => h) (Or.inl ⟨by rfl, ?hq2_11⟩) (by assumption) ?_
          case hq2_11 => intro w hSw; (try dsimp only at hSw); go_simp; try (with_reducible rfl)
          (try simp only [Act.put, qA, qB, qC])
          refine wpAnyH_take (i := 3) (oi := { dst := some 32, op := Op.fieldAddr 42 (Operand.tmp 3) 1, type := 0, pos := "view.go:62", after := #[{ on := 2, ground := Ground.guard }], guard := some (2, false) }) (v := ?vq3_12) rfl (by kernel_rfl) (by kernel_rfl) (by kernel_rfl) (fun _ _ _ h => h) (Or.inl ⟨by rfl, ?hq3_12⟩) (by assumption) ?_
          case hq3_12 => intro w hSw; (try dsimp only at hSw); go_simp; try (with_reducible rfl)
          (try simp only [Act.put, qA, qB, qC])
          refine wpAnyH_take (i := 4) (oi := { dst := some 33, op := Op.load 3 (Operand.tmp 32), type := 3, pos := "view.go:62", after := #[{ on := 3, ground := Ground.data }, { on := 2, ground := Ground.guard }], guard := some (2, false) }) (v := ?vq4_13) rfl (by kernel_rfl) (by kernel_rfl) (by kernel_rfl) (fun _ _ _ h => h) (Or.inl ⟨by rfl, ?hq4_13⟩) (by assumption) ?_
          case hq4_13 => intro w hSw; (try dsimp only at hSw); go_simp; try (with_reducible rfl)
          (try simp only [Act.put, qA, qB, qC])
          refine wpAnyH_take (i := 5) (oi := { dst := some 34, op := Op.binOp BinOp.neq 3 (Operand.tmp 33) (Operand.const (Value.int IntKind.i64 0)) 3, type := 4, pos := "view.go:62", after := #[{ on := 4, ground := Ground.data }, { on := 2, ground := Ground.guard }], guard := some (2, false) }) (v := ?vq5_14) rfl (by kernel_rfl) (by kernel_rfl) (by kernel_rfl) (fun _ _ _ h => h) (Or.inl ⟨by rfl, ?hq5_14⟩) (by assumption) ?_
          case hq5_14 => intro w hSw; (try dsimp only at hSw); go_simp; try (with_reducible rfl)
          (try simp only [Act.put, qA, qB, qC])
          refine wpAnyH_take (i := 6) (oi := { dst := some 35, op := Op.pick (Operand.tmp 31) (Operand.const (Value.bool true)) (Operand.tmp 34), type := 4, pos := "view.go:62", after := #[{ on := 2, ground := Ground.data }, { on := 5, ground := Ground.data }], guard := none }) (v := ?vq6_15) rfl (by kernel_rfl) (by kernel_rfl) (by kernel_rfl) (fun _ _ _ h => h) (Or.inl ⟨by rfl, ?hq6_15⟩) (by assumption) ?_
          case hq6_15 => intro w hSw; (try dsimp only at hSw); go_simp; try (with_reducible rfl)
          (try simp only [Act.put, qA, qB, qC])
          refine wpAnyH_take (i := 7) (oi := { dst := some 36, op := Op.move (Operand.tmp 35), type := 4, pos := "view.go:62", after := #[{ on := 6, ground := Ground.data }, { on := 2, ground := Ground.chain }], guard := none }) (v := ?vq7_16) rfl (by kernel_rfl) (by kernel_rfl) (by kernel_rfl) (fun _ _ _ h => h) (Or.inl ⟨by rfl, ?hq7_16⟩) (by assumption) ?_
          case hq7_16 => intro w hSw; (try dsimp only at hSw); go_simp; try (with_reducible rfl)
          (try simp only [Act.put, qA, qB, qC])
          refine wpAnyH_take (i := 8) (oi := { dst := some 37, op := Op.fieldAddr 42 (Operand.tmp 3) 2, type := 0, pos := "view.go:62", after := #[{ on := 7, ground := Ground.guard }], guard := some (7, false) }) (v := ?vq8_17) rfl (by kernel_rfl) (by kernel_rfl) (by kernel_rfl) (fun _ _ _ h => h) (Or.inl ⟨by rfl, ?hq8_17⟩) (by assumption) ?_
          case hq8_17 => intro w hSw; (try dsimp only at hSw); go_simp; try (with_reducible rfl)
          (try simp only [Act.put, qA, qB, qC])
          refine wpAnyH_take (i := 10) (oi := { dst := some 39, op := Op.load 46 (Operand.tmp 6), type := 46, pos := "view.go:62", after := #[{ on := 7, ground := Ground.guard }], guard := some (7, false) }) (v := ?vq10_18) rfl (by kernel_rfl) (by kernel_rfl) (by kernel_rfl) (fun _ _ _ h => h) (Or.inl ⟨by rfl, ?hq10_18⟩) (by assumption) ?_
          case hq10_18 => intro w hSw; (try dsimp only at hSw); go_simp; try (with_reducible rfl)
          (try simp only [Act.put, qA, qB, qC])
          refine wpAnyH_take (i := 9) (oi := { dst := some 38, op := Op.load 4 (Operand.tmp 37), type := 4, pos := "view.go:62", after := #[{ on := 8, ground := Ground.data }, { on := 7, ground := Ground.guard }], guard := some (7, false) }) (v := ?vq9_19) rfl (by kernel_rfl) (by kernel_rfl) (by kernel_rfl) (fun _ _ _ h => h) (Or.inl ⟨by rfl, ?hq9_19⟩) (by assumption) ?_
          case hq9_19 => intro w hSw; (try dsimp only at hSw); go_simp; try (with_reducible rfl)
          (try simp only [Act.put, qA, qB, qC])
          refine wpAnyH_ready (rs := [11]) (by kernel_rfl) (by simp) ?_
          refine AllReadyH.cons (o := { dst := some 40, op := Op.call { callee := Callee.value (Operand.func 142), args := #[Operand.tmp 39], argTypes := #[46] }, type := 4, pos := "view.go:62", after := #[{ on := 10, ground := Ground.data }, { on := 7, ground := Ground.chain }, { on := 7, ground := Ground.guard }], guard := some (7, false) }) rfl (fun K hK => ?_) AllReadyH.nil
          go_simp
          refine (HCP.out W2.drew).mono ?_
          rintro e W3 ⟨rfl, hb1⟩
          have HB3 := Lib.hid (show Below W2.heap.size W2 W3 from (show Below W2.heap.size W2 W2.drew from ⟨rfl, rfl, rfl, Nat.le_refl _, fun _ _ => rfl⟩).trans hb1)
          have HX3 := Lib.hid (And.intro ((HB3.out.block N (blk_lt HX2.out.1)).trans HX2.out.1) (And.intro ((HB3.out.block (N + 1) (blk_lt HX2.out.2)).trans HX2.out.2) ((HB3.out.block M (blk_lt HM.out.1)).trans HM.out.1)))
          clear hb1
          refine hK.out _ _ ?_ (fun hHeld => ?_)
          · exact ⟨(cells5p HX3.out.1).2.1, (cells5p HX3.out.1).2.2.1, (cells5p HX3.out.1).2.2.2.2.1, (cells3p HX3.out.2.2).1, (cells3p HX3.out.2.2).2.1, (cells3p HX3.out.2.2).2.2.1⟩
          clear hK K
          (try simp only [Act.put, qA, qB, qC])
          refine wpAnyH_take (i := 12) (oi := { dst := some 41, op := Op.binOp BinOp.eql 4 (Operand.tmp 38) (Operand.tmp 40) 4, type := 4, pos := "view.go:62", after := #[{ on := 9, ground := Ground.data }, { on := 11, ground := Ground.data }, { on := 7, ground := Ground.guard }], guard := some (7, false) }) (v := ?vq12_20) rfl (by kernel_rfl) (by kernel_rfl) (by kernel_rfl) (fun _ _ _ h => h) (Or.inl ⟨by rfl, ?hq12_20⟩) (by assumption) ?_
          case hq12_20 => intro w hSw; (try dsimp only at hSw); go_simp; try (with_reducible rfl)
          (try simp only [Act.put, qA, qB, qC])
          refine wpAnyH_take (i := 13) (oi := { dst := some 42, op := Op.pick (Operand.tmp 36) (Operand.const (Value.bool true)) (Operand.tmp 41), type := 4, pos := "view.go:62", after := #[{ on := 7, ground := Ground.data }, { on := 12, ground := Ground.data }], guard := none }) (v := ?vq13_21) rfl (by kernel_rfl) (by kernel_rfl) (by kernel_rfl) (fun _ _ _ h => h) (Or.inl ⟨by rfl, ?hq13_21⟩) (by assumption) ?_
          case hq13_21 => intro w hSw; (try dsimp only at hSw); go_simp; try (with_reducible rfl)
          (try simp only [Act.put, qA, qB, qC])
          refine wpAnyH_take (i := 14) (oi := { dst := some 43, op := Op.move (Operand.tmp 42), type := 4, pos := "view.go:62", after := #[{ on := 13, ground := Ground.data }, { on := 11, ground := Ground.chain }], guard := none }) (v := ?vq14_22) rfl (by kernel_rfl) (by kernel_rfl) (by kernel_rfl) (fun _ _ _ h => h) (Or.inl ⟨by rfl, ?hq14_22⟩) (by assumption) ?_
          case hq14_22 => intro w hSw; (try dsimp only at hSw); go_simp; try (with_reducible rfl)
          (try simp only [Act.put, qA, qB, qC])
          refine wpAnyH_take (i := 15) (oi := { dst := some 44, op := Op.fieldAddr 42 (Operand.tmp 3) 2, type := 0, pos := "view.go:62", after := #[{ on := 14, ground := Ground.guard }], guard := some (14, false) }) (v := undef) rfl (by kernel_rfl) (by kernel_rfl) (by kernel_rfl) (fun _ _ _ h => h) (Or.inr ⟨by rfl, rfl⟩) (by assumption) ?_
          (try simp only [Act.put, qA, qB, qC])
          refine wpAnyH_take (i := 16) (oi := { dst := some 45, op := Op.load 4 (Operand.tmp 44), type := 4, pos := "view.go:62", after := #[{ on := 15, ground := Ground.data }, { on := 14, ground := Ground.guard }], guard := some (14, false) }) (v := undef) rfl (by kernel_rfl) (by kernel_rfl) (by kernel_rfl) (fun _ _ _ h => h) (Or.inr ⟨by rfl, rfl⟩) (by assumption) ?_
          (try simp only [Act.put, qA, qB, qC])
          refine wpAnyH_take (i := 17) (oi := { dst := some 46, op := Op.move (Operand.tmp 45), type := 4, pos := "view.go:62", after := #[{ on := 16, ground := Ground.data }, { on := 14, ground := Ground.chain }, { on := 14, ground := Ground.guard }], guard := some (14, false) }) (v := undef) rfl (by kernel_rfl) (by kernel_rfl) (by kernel_rfl) (fun _ _ _ h => h) (Or.inr ⟨by rfl, rfl⟩) (by assumption) ?_
          (try simp only [Act.put, qA, qB, qC])
          refine wpAnyH_take (i := 18) (oi := { dst := some 47, op := Op.fieldAddr 42 (Operand.tmp 3) 3, type := 0, pos := "view.go:62", after := #[{ on := 17, ground := Ground.guard }], guard := some (17, true) }) (v := undef) rfl (by kernel_rfl) (by kernel_rfl) (by kernel_rfl) (fun _ _ _ h => h) (Or.inr ⟨by rfl, rfl⟩) (by assumption) ?_
          (try simp only [Act.put, qA, qB, qC])
          refine wpAnyH_take (i := 19) (oi := { dst := some 48, op := Op.fieldAddr 33 (Operand.tmp 47) 1, type := 0, pos := "view.go:62", after := #[{ on := 18, ground := Ground.data }, { on := 17, ground := Ground.guard }], guard := some (17, true) }) (v := undef) rfl (by kernel_rfl) (by kernel_rfl) (by kernel_rfl) (fun _ _ _ h => h) (Or.inr ⟨by rfl, rfl⟩) (by assumption) ?_
          (try simp only [Act.put, qA, qB, qC])
          refine wpAnyH_take (i := 20) (oi := { dst := some 49, op := Op.load 31 (Operand.tmp 48), type := 31, pos := "view.go:62", after := #[{ on := 19, ground := Ground.data }, { on := 17, ground := Ground.guard }], guard := some (17, true) }) (v := undef) rfl (by kernel_rfl) (by kernel_rfl) (by kernel_rfl) (fun _ _ _ h => h) (Or.inr ⟨by rfl, rfl⟩) (by assumption) ?_
          (try simp only [Act.put, qA, qB, qC])
          refine wpAnyH_take (i := 21) (oi := { dst := some 50, op := Op.call { callee := Callee.builtin Builtin.len, args := #[Operand.tmp 49], argTypes := #[31] }, type := 3, pos := "view.go:62", after := #[{ on := 20, ground := Ground.data }, { on := 17, ground := Ground.guard }], guard := some (17, true) }) (v := undef) rfl (by kernel_rfl) (by kernel_rfl) (by kernel_rfl) (fun _ _ _ h => h) (Or.inr ⟨by rfl, rfl⟩) (by assumption) ?_
          (try simp only [Act.put, qA, qB, qC])
          refine wpAnyH_take (i := 22) (oi := { dst := some 51, op := Op.binOp BinOp.gtr 3 (Operand.tmp 50) (Operand.const (Value.int IntKind.i64 0)) 3, type := 4, pos := "view.go:62", after := #[{ on := 21, ground := Ground.data }, { on := 17, ground := Ground.guard }], guard := some (17, true) }) (v := undef) rfl (by kernel_rfl) (by kernel_rfl) (by kernel_rfl) (fun _ _ _ h => h) (Or.inr ⟨by rfl, rfl⟩) (by assumption) ?_
          (try simp only [Act.put, qA, qB, qC])
          refine wpAnyH_take (i := 23) (oi := { dst := some 52, op := Op.pick (Operand.tmp 46) (Operand.tmp 51) (Operand.const (Value.bool false)), type := 4, pos := "view.go:62", after := #[{ on := 17, ground := Ground.data }, { on := 22, ground := Ground.data }, { on := 14, ground := Ground.guard }], guard := some (14, false) }) (v := undef) rfl (by kernel_rfl) (by kernel_rfl) (by kernel_rfl) (fun _ _ _ h => h) (Or.inr ⟨by rfl, rfl⟩) (by assumption) ?_
          (try simp only [Act.put, qA, qB, qC])
          refine wpAnyH_take (i := 24) (oi := { dst := some 53, op := Op.pick (Operand.tmp 43) (Operand.const (Value.bool true)) (Operand.tmp 52), type := 4, pos := "view.go:62", after := #[{ on := 14, ground := Ground.data }, { on := 23, ground := Ground.data }], guard := none }) (v := ?vq24_23) rfl (by kernel_rfl) (by kernel_rfl) (by kernel_rfl) (fun _ _ _ h => h) (Or.inl ⟨by rfl, ?hq24_23⟩) (by assumption) ?_
          case hq24_23 => intro w hSw; (try dsimp only at hSw); go_simp; try (with_reducible rfl)
          (try simp only [Act.put, qA, qB, qC])
          refine wpAnyH_done (by kernel_rfl) ?_ _
          go_wp2_with (go_loud (refine wpList_store_box rfl 46 (.tmp 4) (.tmp 54) rfl (N + 1) 0 rfl (.agg #[.int .i64 0, .string ⟨#[]⟩, .slice none 0 0]) rfl [.int .i64 0, .string ⟨#[]⟩, .slice none 0 0] rfl [.int .i64 0, .string ⟨#[]⟩, .slice none 0 0] 46 (show W3.heap[N + 1]? = _ from HX3.out.2.1) (Nat.le_refl _) (show (Tryz.prog.info? 46).map (·.size) = some 3 by kernel_rfl) ?cz11 (N + 1) (Nat.le_refl _) W3 (Below.refl _ _) ?_))
          try case cz11 => first | exact ⟨rfl, rfl, rfl⟩ | (intro v hv; simp at hv; rcases hv with rfl | rfl | rfl <;> rfl)
          intro WF hb hbx hoth
          have HF := Lib.hid (show Below w.heap.size w WF by rw [← HN.out]; exact HB0.out.trans (((HB2.out.trans (HB3.out.mono HB2.out.size)).mono (by have := blk_lt HX.out.1; omega) : Below N W0 W3).trans (hb.mono (by omega))))
          obtain ⟨f0, f1, f2, ff, fl⟩ := cells3p hbx
          clear hb hbx hoth
          go_wp2
          refine bodyPost_ret (v := .tuple #[.agg #[.int .i64 0, .string ⟨#[]⟩, .slice none 0 0], .int .i64 84]) (by simp [results, Tryz.results120, go_sem, f0, f1, f2]) rfl ⟨HF.out, ?_⟩
          simp only [useO]
          rw [if_pos (by exact Or.inr (Or.inl HC.out.2.symm))]
          rfl
        | true =>
          go_wp2_with fail
          refine wp_region_held_drew (S := (fun w' => w'.cell? ⟨N, 1, none⟩ = some (.int .i64 0) ∧ w'.cell? ⟨N, 2, none⟩ = some (.bool false) ∧ w'.cell? ⟨N, 4, none⟩ = some (.slice h.oa np h.cap) ∧ w'.cell? ⟨M, 0, none⟩ = some (.int .i64 k1) ∧ w'.cell? ⟨M, 1, none⟩ = some (.string nm1) ∧ w'.cell? ⟨M, 2, none⟩ = some (.slice h1.oa l1.length h1.cap))) (by kernel_rfl) ?_ (fun hHeld => ?_)
          · exact HP.out
          clear m0 m1 m2 p1 p2 p4 p0 p3
          refine wpAnyH_take (i := 0) (oi := { dst := some 29, op := Op.move (Operand.tmp 8), type := 47, pos := "view.go:62", after := #[], guard := none }) (v := ?vq0_24) rfl (by kernel_rfl) (by kernel_rfl) (by kernel_rfl) (fun _ _ _ h => h) (Or.inl ⟨by rfl, ?hq0_24⟩) (by assumption) ?_
          case hq0_24 => intro w hSw; (try dsimp only at hSw); go_simp; try (with_reducible rfl)
          (try simp only [Act.put, qA, qB, qC])
          refine wpAnyH_take (i := 1) (oi := { dst := some 30, op := Op.binOp BinOp.neq 47 (Operand.tmp 29) (Operand.const (Value.int IntKind.i64 0)) 47, type := 4, pos := "view.go:62", after := #[{ on := 0, ground := Ground.data }], guard := none }) (v := ?vq1_25) rfl (by kernel_rfl) (by kernel_rfl) (by kernel_rfl) (fun _ _ _ h => h) (Or.inl ⟨by rfl, ?hq1_25⟩) (by assumption) ?_
          case hq1_25 => intro w hSw; (try dsimp only at hSw); go_simp; try (with_reducible rfl)
          (try simp only [Act.put, qA, qB, qC])
          refine wpAnyH_take (i := 2) (oi := { dst := some 31, op := Op.move (Operand.tmp 30), type := 4, pos := "view.go:62", after := #[{ on := 1, ground := Ground.data }], guard := none }) (v := ?vq2_26) rfl (by kernel_rfl) (by kernel_rfl) (by kernel_rfl) (fun _ _ _ h => h) (Or.inl ⟨by rfl, ?hq2_26⟩) (by assumption) ?_
          case hq2_26 => intro w hSw; (try dsimp only at hSw); go_simp; try (with_reducible rfl)
          (try simp only [Act.put, qA, qB, qC])
          refine wpAnyH_take (i := 3) (oi := { dst := some 32, op := Op.fieldAddr 42 (Operand.tmp 3) 1, type := 0, pos := "view.go:62", after := #[{ on := 2, ground := Ground.guard }], guard := some (2, false) }) (v := ?vq3_27) rfl (by kernel_rfl) (by kernel_rfl) (by kernel_rfl) (fun _ _ _ h => h) (Or.inl ⟨by rfl, ?hq3_27⟩) (by assumption) ?_
          case hq3_27 => intro w hSw; (try dsimp only at hSw); go_simp; try (with_reducible rfl)
          (try simp only [Act.put, qA, qB, qC])
          refine wpAnyH_take (i := 4) (oi := { dst := some 33, op := Op.load 3 (Operand.tmp 32), type := 3, pos := "view.go:62", after := #[{ on := 3, ground := Ground.data }, { on := 2, ground := Ground.guard }], guard := some (2, false) }) (v := ?vq4_28) rfl (by kernel_rfl) (by kernel_rfl) (by kernel_rfl) (fun _ _ _ h => h) (Or.inl ⟨by rfl, ?hq4_28⟩) (by assumption) ?_
          case hq4_28 => intro w hSw; (try dsimp only at hSw); go_simp; try (with_reducible rfl)
          (try simp only [Act.put, qA, qB, qC])
          refine wpAnyH_take (i := 5) (oi := { dst := some 34, op := Op.binOp BinOp.neq 3 (Operand.tmp 33) (Operand.const (Value.int IntKind.i64 0)) 3, type := 4, pos := "view.go:62", after := #[{ on := 4, ground := Ground.data }, { on := 2, ground := Ground.guard }], guard := some (2, false) }) (v := ?vq5_29) rfl (by kernel_rfl) (by kernel_rfl) (by kernel_rfl) (fun _ _ _ h => h) (Or.inl ⟨by rfl, ?hq5_29⟩) (by assumption) ?_
          case hq5_29 => intro w hSw; (try dsimp only at hSw); go_simp; try (with_reducible rfl)
          (try simp only [Act.put, qA, qB, qC])
          refine wpAnyH_take (i := 6) (oi := { dst := some 35, op := Op.pick (Operand.tmp 31) (Operand.const (Value.bool true)) (Operand.tmp 34), type := 4, pos := "view.go:62", after := #[{ on := 2, ground := Ground.data }, { on := 5, ground := Ground.data }], guard := none }) (v := ?vq6_30) rfl (by kernel_rfl) (by kernel_rfl) (by kernel_rfl) (fun _ _ _ h => h) (Or.inl ⟨by rfl, ?hq6_30⟩) (by assumption) ?_
          case hq6_30 => intro w hSw; (try dsimp only at hSw); go_simp; try (with_reducible rfl)
          (try simp only [Act.put, qA, qB, qC])
          refine wpAnyH_take (i := 7) (oi := { dst := some 36, op := Op.move (Operand.tmp 35), type := 4, pos := "view.go:62", after := #[{ on := 6, ground := Ground.data }, { on := 2, ground := Ground.chain }], guard := none }) (v := ?vq7_31) rfl (by kernel_rfl) (by kernel_rfl) (by kernel_rfl) (fun _ _ _ h => h) (Or.inl ⟨by rfl, ?hq7_31⟩) (by assumption) ?_
          case hq7_31 => intro w hSw; (try dsimp only at hSw); go_simp; try (with_reducible rfl)
          (try simp only [Act.put, qA, qB, qC])
          refine wpAnyH_take (i := 8) (oi := { dst := some 37, op := Op.fieldAddr 42 (Operand.tmp 3) 2, type := 0, pos := "view.go:62", after := #[{ on := 7, ground := Ground.guard }], guard := some (7, false) }) (v := ?vq8_32) rfl (by kernel_rfl) (by kernel_rfl) (by kernel_rfl) (fun _ _ _ h => h) (Or.inl ⟨by rfl, ?hq8_32⟩) (by assumption) ?_
          case hq8_32 => intro w hSw; (try dsimp only at hSw); go_simp; try (with_reducible rfl)
          (try simp only [Act.put, qA, qB, qC])
          refine wpAnyH_take (i := 10) (oi := { dst := some 39, op := Op.load 46 (Operand.tmp 6), type := 46, pos := "view.go:62", after := #[{ on := 7, ground := Ground.guard }], guard := some (7, false) }) (v := ?vq10_33) rfl (by kernel_rfl) (by kernel_rfl) (by kernel_rfl) (fun _ _ _ h => h) (Or.inl ⟨by rfl, ?hq10_33⟩) (by assumption) ?_
          case hq10_33 => intro w hSw; (try dsimp only at hSw); go_simp; try (with_reducible rfl)
          (try simp only [Act.put, qA, qB, qC])
          refine wpAnyH_take (i := 9) (oi := { dst := some 38, op := Op.load 4 (Operand.tmp 37), type := 4, pos := "view.go:62", after := #[{ on := 8, ground := Ground.data }, { on := 7, ground := Ground.guard }], guard := some (7, false) }) (v := ?vq9_34) rfl (by kernel_rfl) (by kernel_rfl) (by kernel_rfl) (fun _ _ _ h => h) (Or.inl ⟨by rfl, ?hq9_34⟩) (by assumption) ?_
          case hq9_34 => intro w hSw; (try dsimp only at hSw); go_simp; try (with_reducible rfl)
          (try simp only [Act.put, qA, qB, qC])
          refine wpAnyH_ready (rs := [11]) (by kernel_rfl) (by simp) ?_
          refine AllReadyH.cons (o := { dst := some 40, op := Op.call { callee := Callee.value (Operand.func 142), args := #[Operand.tmp 39], argTypes := #[46] }, type := 4, pos := "view.go:62", after := #[{ on := 10, ground := Ground.data }, { on := 7, ground := Ground.chain }, { on := 7, ground := Ground.guard }], guard := some (7, false) }) rfl (fun K hK => ?_) AllReadyH.nil
          go_simp
          refine (HCP.out W2.drew).mono ?_
          rintro e W3 ⟨rfl, hb1⟩
          have HB3 := Lib.hid (show Below W2.heap.size W2 W3 from (show Below W2.heap.size W2 W2.drew from ⟨rfl, rfl, rfl, Nat.le_refl _, fun _ _ => rfl⟩).trans hb1)
          have HX3 := Lib.hid (And.intro ((HB3.out.block N (blk_lt HX2.out.1)).trans HX2.out.1) (And.intro ((HB3.out.block (N + 1) (blk_lt HX2.out.2)).trans HX2.out.2) ((HB3.out.block M (blk_lt HM.out.1)).trans HM.out.1)))
          clear hb1
          refine hK.out _ _ ?_ (fun hHeld => ?_)
          · exact ⟨(cells5p HX3.out.1).2.1, (cells5p HX3.out.1).2.2.1, (cells5p HX3.out.1).2.2.2.2.1, (cells3p HX3.out.2.2).1, (cells3p HX3.out.2.2).2.1, (cells3p HX3.out.2.2).2.2.1⟩
          clear hK K
          (try simp only [Act.put, qA, qB, qC])
          refine wpAnyH_take (i := 12) (oi := { dst := some 41, op := Op.binOp BinOp.eql 4 (Operand.tmp 38) (Operand.tmp 40) 4, type := 4, pos := "view.go:62", after := #[{ on := 9, ground := Ground.data }, { on := 11, ground := Ground.data }, { on := 7, ground := Ground.guard }], guard := some (7, false) }) (v := ?vq12_35) rfl (by kernel_rfl) (by kernel_rfl) (by kernel_rfl) (fun _ _ _ h => h) (Or.inl ⟨by rfl, ?hq12_35⟩) (by assumption) ?_
          case hq12_35 => intro w hSw; (try dsimp only at hSw); go_simp; try (with_reducible rfl)
          (try simp only [Act.put, qA, qB, qC])
          refine wpAnyH_take (i := 13) (oi := { dst := some 42, op := Op.pick (Operand.tmp 36) (Operand.const (Value.bool true)) (Operand.tmp 41), type := 4, pos := "view.go:62", after := #[{ on := 7, ground := Ground.data }, { on := 12, ground := Ground.data }], guard := none }) (v := ?vq13_36) rfl (by kernel_rfl) (by kernel_rfl) (by kernel_rfl) (fun _ _ _ h => h) (Or.inl ⟨by rfl, ?hq13_36⟩) (by assumption) ?_
          case hq13_36 => intro w hSw; (try dsimp only at hSw); go_simp; try (with_reducible rfl)
          (try simp only [Act.put, qA, qB, qC])
          refine wpAnyH_take (i := 14) (oi := { dst := some 43, op := Op.move (Operand.tmp 42), type := 4, pos := "view.go:62", after := #[{ on := 13, ground := Ground.data }, { on := 11, ground := Ground.chain }], guard := none }) (v := ?vq14_37) rfl (by kernel_rfl) (by kernel_rfl) (by kernel_rfl) (fun _ _ _ h => h) (Or.inl ⟨by rfl, ?hq14_37⟩) (by assumption) ?_
          case hq14_37 => intro w hSw; (try dsimp only at hSw); go_simp; try (with_reducible rfl)
          (try simp only [Act.put, qA, qB, qC])
          refine wpAnyH_take (i := 15) (oi := { dst := some 44, op := Op.fieldAddr 42 (Operand.tmp 3) 2, type := 0, pos := "view.go:62", after := #[{ on := 14, ground := Ground.guard }], guard := some (14, false) }) (v := ?vq15_38) rfl (by kernel_rfl) (by kernel_rfl) (by kernel_rfl) (fun _ _ _ h => h) (Or.inl ⟨by rfl, ?hq15_38⟩) (by assumption) ?_
          case hq15_38 => intro w hSw; (try dsimp only at hSw); go_simp; try (with_reducible rfl)
          (try simp only [Act.put, qA, qB, qC])
          refine wpAnyH_take (i := 16) (oi := { dst := some 45, op := Op.load 4 (Operand.tmp 44), type := 4, pos := "view.go:62", after := #[{ on := 15, ground := Ground.data }, { on := 14, ground := Ground.guard }], guard := some (14, false) }) (v := ?vq16_39) rfl (by kernel_rfl) (by kernel_rfl) (by kernel_rfl) (fun _ _ _ h => h) (Or.inl ⟨by rfl, ?hq16_39⟩) (by assumption) ?_
          case hq16_39 => intro w hSw; (try dsimp only at hSw); go_simp; try (with_reducible rfl)
          (try simp only [Act.put, qA, qB, qC])
          refine wpAnyH_take (i := 17) (oi := { dst := some 46, op := Op.move (Operand.tmp 45), type := 4, pos := "view.go:62", after := #[{ on := 16, ground := Ground.data }, { on := 14, ground := Ground.chain }, { on := 14, ground := Ground.guard }], guard := some (14, false) }) (v := ?vq17_40) rfl (by kernel_rfl) (by kernel_rfl) (by kernel_rfl) (fun _ _ _ h => h) (Or.inl ⟨by rfl, ?hq17_40⟩) (by assumption) ?_
          case hq17_40 => intro w hSw; (try dsimp only at hSw); go_simp; try (with_reducible rfl)
          (try simp only [Act.put, qA, qB, qC])
          refine wpAnyH_take (i := 18) (oi := { dst := some 47, op := Op.fieldAddr 42 (Operand.tmp 3) 3, type := 0, pos := "view.go:62", after := #[{ on := 17, ground := Ground.guard }], guard := some (17, true) }) (v := undef) rfl (by kernel_rfl) (by kernel_rfl) (by kernel_rfl) (fun _ _ _ h => h) (Or.inr ⟨by rfl, rfl⟩) (by assumption) ?_
          (try simp only [Act.put, qA, qB, qC])
          refine wpAnyH_take (i := 19) (oi := { dst := some 48, op := Op.fieldAddr 33 (Operand.tmp 47) 1, type := 0, pos := "view.go:62", after := #[{ on := 18, ground := Ground.data }, { on := 17, ground := Ground.guard }], guard := some (17, true) }) (v := undef) rfl (by kernel_rfl) (by kernel_rfl) (by kernel_rfl) (fun _ _ _ h => h) (Or.inr ⟨by rfl, rfl⟩) (by assumption) ?_
          (try simp only [Act.put, qA, qB, qC])
          refine wpAnyH_take (i := 20) (oi := { dst := some 49, op := Op.load 31 (Operand.tmp 48), type := 31, pos := "view.go:62", after := #[{ on := 19, ground := Ground.data }, { on := 17, ground := Ground.guard }], guard := some (17, true) }) (v := undef) rfl (by kernel_rfl) (by kernel_rfl) (by kernel_rfl) (fun _ _ _ h => h) (Or.inr ⟨by rfl, rfl⟩) (by assumption) ?_
          (try simp only [Act.put, qA, qB, qC])
          refine wpAnyH_take (i := 21) (oi := { dst := some 50, op := Op.call { callee := Callee.builtin Builtin.len, args := #[Operand.tmp 49], argTypes := #[31] }, type := 3, pos := "view.go:62", after := #[{ on := 20, ground := Ground.data }, { on := 17, ground := Ground.guard }], guard := some (17, true) }) (v := undef) rfl (by kernel_rfl) (by kernel_rfl) (by kernel_rfl) (fun _ _ _ h => h) (Or.inr ⟨by rfl, rfl⟩) (by assumption) ?_
          (try simp only [Act.put, qA, qB, qC])
          refine wpAnyH_take (i := 22) (oi := { dst := some 51, op := Op.binOp BinOp.gtr 3 (Operand.tmp 50) (Operand.const (Value.int IntKind.i64 0)) 3, type := 4, pos := "view.go:62", after := #[{ on := 21, ground := Ground.data }, { on := 17, ground := Ground.guard }], guard := some (17, true) }) (v := undef) rfl (by kernel_rfl) (by kernel_rfl) (by kernel_rfl) (fun _ _ _ h => h) (Or.inr ⟨by rfl, rfl⟩) (by assumption) ?_
          (try simp only [Act.put, qA, qB, qC])
          refine wpAnyH_take (i := 23) (oi := { dst := some 52, op := Op.pick (Operand.tmp 46) (Operand.tmp 51) (Operand.const (Value.bool false)), type := 4, pos := "view.go:62", after := #[{ on := 17, ground := Ground.data }, { on := 22, ground := Ground.data }, { on := 14, ground := Ground.guard }], guard := some (14, false) }) (v := ?vq23_41) rfl (by kernel_rfl) (by kernel_rfl) (by kernel_rfl) (fun _ _ _ h => h) (Or.inl ⟨by rfl, ?hq23_41⟩) (by assumption) ?_
          case hq23_41 => intro w hSw; (try dsimp only at hSw); go_simp; try (with_reducible rfl)
          (try simp only [Act.put, qA, qB, qC])
          refine wpAnyH_take (i := 24) (oi := { dst := some 53, op := Op.pick (Operand.tmp 43) (Operand.const (Value.bool true)) (Operand.tmp 52), type := 4, pos := "view.go:62", after := #[{ on := 14, ground := Ground.data }, { on := 23, ground := Ground.data }], guard := none }) (v := ?vq24_42) rfl (by kernel_rfl) (by kernel_rfl) (by kernel_rfl) (fun _ _ _ h => h) (Or.inl ⟨by rfl, ?hq24_42⟩) (by assumption) ?_
          case hq24_42 => intro w hSw; (try dsimp only at hSw); go_simp; try (with_reducible rfl)
          (try simp only [Act.put, qA, qB, qC])
          refine wpAnyH_done (by kernel_rfl) ?_ _
          obtain ⟨m0, m1, m2, mf, ml⟩ := cells3p HX3.out.2.2
          go_wp2_with (go_loud (refine wpList_store_box rfl 46 (.tmp 4) (.tmp 55) rfl (N + 1) 0 rfl (.agg #[.int .i64 k1, .string nm1, .slice h1.oa l1.length h1.cap]) rfl [.int .i64 k1, .string nm1, .slice h1.oa l1.length h1.cap] rfl [.int .i64 0, .string ⟨#[]⟩, .slice none 0 0] 46 (show W3.heap[N + 1]? = _ from HX3.out.2.1) (Nat.le_refl _) (show (Tryz.prog.info? 46).map (·.size) = some 3 by kernel_rfl) ?cz12 (N + 1) (Nat.le_refl _) W3 (Below.refl _ _) ?_))
          try case cz12 => first | exact ⟨rfl, rfl, rfl⟩ | (intro v hv; simp at hv; rcases hv with rfl | rfl | rfl <;> rfl)
          intro WF hb hbx hoth
          have HF := Lib.hid (show Below w.heap.size w WF by rw [← HN.out]; exact HB0.out.trans (((HB2.out.trans (HB3.out.mono HB2.out.size)).mono (by have := blk_lt HX.out.1; omega) : Below N W0 W3).trans (hb.mono (by omega))))
          have HTF := Lib.hid (show ∃ f, TyH f (ebp WF kf) (.mk k1 nm1 h1 l1) from ⟨f, (TyH.und f _ _ _ (ebp_und (Nat.le_trans (Nat.le_trans HM.out.2.2.1 HB3.out.size) hb.size) fun z hl hz => by simp at hz; exact ⟨hz.1, (hoth z hz.2.2).trans ((HB3.out.block z (Nat.lt_of_lt_of_le hl HM.out.2.2.1)).trans (HM.out.2.2.2.block z hl))⟩) HT1.out.1)⟩)
          obtain ⟨f0, f1, f2, ff, fl⟩ := cells3p hbx
          clear hb hbx hoth m0 m1 m2 mf ml
          go_wp2
          refine bodyPost_ret (v := .tuple #[.agg #[.int .i64 k1, .string nm1, .slice h1.oa l1.length h1.cap], .int .i64 0]) (by simp [results, Tryz.results120, go_sem, f0, f1, f2]) rfl ⟨HF.out, ?_⟩
          simp only [useO]
          rw [if_neg (by rw [show copiesT r1 = true from HC.out.2]; simp)]
          exact ⟨.mk k1 nm1 h1 l1, rfl, HC.out.1, HTF.out⟩
      | true =>
        cases c with
        | false =>
          by_cases hl0 : np = 0
          · have HL0 := Lib.hid hl0
            clear hl0
            go_wp2_with fail
            refine wp_region_held_drew (S := (fun w' => w'.cell? ⟨N, 1, none⟩ = some (.int .i64 0) ∧ w'.cell? ⟨N, 2, none⟩ = some (.bool true) ∧ w'.cell? ⟨N, 4, none⟩ = some (.slice h.oa np h.cap) ∧ w'.cell? ⟨M, 0, none⟩ = some (.int .i64 k1) ∧ w'.cell? ⟨M, 1, none⟩ = some (.string nm1) ∧ w'.cell? ⟨M, 2, none⟩ = some (.slice h1.oa l1.length h1.cap))) (by kernel_rfl) ?_ (fun hHeld => ?_)
            · exact HP.out
            clear m0 m1 m2 p1 p2 p4 p0 p3
            refine wpAnyH_take (i := 0) (oi := { dst := some 29, op := Op.move (Operand.tmp 8), type := 47, pos := "view.go:62", after := #[], guard := none }) (v := ?vq0_43) rfl (by kernel_rfl) (by kernel_rfl) (by kernel_rfl) (fun _ _ _ h => h) (Or.inl ⟨by rfl, ?hq0_43⟩) (by assumption) ?_
            case hq0_43 => intro w hSw; (try dsimp only at hSw); go_simp; try (with_reducible rfl)
            (try simp only [Act.put, qA, qB, qC])
            refine wpAnyH_take (i := 1) (oi := { dst := some 30, op := Op.binOp BinOp.neq 47 (Operand.tmp 29) (Operand.const (Value.int IntKind.i64 0)) 47, type := 4, pos := "view.go:62", after := #[{ on := 0, ground := Ground.data }], guard := none }) (v := ?vq1_44) rfl (by kernel_rfl) (by kernel_rfl) (by kernel_rfl) (fun _ _ _ h => h) (Or.inl ⟨by rfl, ?hq1_44⟩) (by assumption) ?_
            case hq1_44 => intro w hSw; (try dsimp only at hSw); go_simp; try (with_reducible rfl)
            (try simp only [Act.put, qA, qB, qC])
            refine wpAnyH_take (i := 2) (oi := { dst := some 31, op := Op.move (Operand.tmp 30), type := 4, pos := "view.go:62", after := #[{ on := 1, ground := Ground.data }], guard := none }) (v := ?vq2_45) rfl (by kernel_rfl) (by kernel_rfl) (by kernel_rfl) (fun _ _ _ h => h) (Or.inl ⟨by rfl, ?hq2_45⟩) (by assumption) ?_
            case hq2_45 => intro w hSw; (try dsimp only at hSw); go_simp; try (with_reducible rfl)
            (try simp only [Act.put, qA, qB, qC])
            refine wpAnyH_take (i := 3) (oi := { dst := some 32, op := Op.fieldAddr 42 (Operand.tmp 3) 1, type := 0, pos := "view.go:62", after := #[{ on := 2, ground := Ground.guard }], guard := some (2, false) }) (v := ?vq3_46) rfl (by kernel_rfl) (by kernel_rfl) (by kernel_rfl) (fun _ _ _ h => h) (Or.inl ⟨by rfl, ?hq3_46⟩) (by assumption) ?_
            case hq3_46 => intro w hSw; (try dsimp only at hSw); go_simp; try (with_reducible rfl)
            (try simp only [Act.put, qA, qB, qC])
            refine wpAnyH_take (i := 4) (oi := { dst := some 33, op := Op.load 3 (Operand.tmp 32), type := 3, pos := "view.go:62", after := #[{ on := 3, ground := Ground.data }, { on := 2, ground := Ground.guard }], guard := some (2, false) }) (v := ?vq4_47) rfl (by kernel_rfl) (by kernel_rfl) (by kernel_rfl) (fun _ _ _ h => h) (Or.inl ⟨by rfl, ?hq4_47⟩) (by assumption) ?_
            case hq4_47 => intro w hSw; (try dsimp only at hSw); go_simp; try (with_reducible rfl)
            (try simp only [Act.put, qA, qB, qC])
            refine wpAnyH_take (i := 5) (oi := { dst := some 34, op := Op.binOp BinOp.neq 3 (Operand.tmp 33) (Operand.const (Value.int IntKind.i64 0)) 3, type := 4, pos := "view.go:62", after := #[{ on := 4, ground := Ground.data }, { on := 2, ground := Ground.guard }], guard := some (2, false) }) (v := ?vq5_48) rfl (by kernel_rfl) (by kernel_rfl) (by kernel_rfl) (fun _ _ _ h => h) (Or.inl ⟨by rfl, ?hq5_48⟩) (by assumption) ?_
            case hq5_48 => intro w hSw; (try dsimp only at hSw); go_simp; try (with_reducible rfl)
            (try simp only [Act.put, qA, qB, qC])
            refine wpAnyH_take (i := 6) (oi := { dst := some 35, op := Op.pick (Operand.tmp 31) (Operand.const (Value.bool true)) (Operand.tmp 34), type := 4, pos := "view.go:62", after := #[{ on := 2, ground := Ground.data }, { on := 5, ground := Ground.data }], guard := none }) (v := ?vq6_49) rfl (by kernel_rfl) (by kernel_rfl) (by kernel_rfl) (fun _ _ _ h => h) (Or.inl ⟨by rfl, ?hq6_49⟩) (by assumption) ?_
            case hq6_49 => intro w hSw; (try dsimp only at hSw); go_simp; try (with_reducible rfl)
            (try simp only [Act.put, qA, qB, qC])
            refine wpAnyH_take (i := 7) (oi := { dst := some 36, op := Op.move (Operand.tmp 35), type := 4, pos := "view.go:62", after := #[{ on := 6, ground := Ground.data }, { on := 2, ground := Ground.chain }], guard := none }) (v := ?vq7_50) rfl (by kernel_rfl) (by kernel_rfl) (by kernel_rfl) (fun _ _ _ h => h) (Or.inl ⟨by rfl, ?hq7_50⟩) (by assumption) ?_
            case hq7_50 => intro w hSw; (try dsimp only at hSw); go_simp; try (with_reducible rfl)
            (try simp only [Act.put, qA, qB, qC])
            refine wpAnyH_take (i := 8) (oi := { dst := some 37, op := Op.fieldAddr 42 (Operand.tmp 3) 2, type := 0, pos := "view.go:62", after := #[{ on := 7, ground := Ground.guard }], guard := some (7, false) }) (v := ?vq8_51) rfl (by kernel_rfl) (by kernel_rfl) (by kernel_rfl) (fun _ _ _ h => h) (Or.inl ⟨by rfl, ?hq8_51⟩) (by assumption) ?_
            case hq8_51 => intro w hSw; (try dsimp only at hSw); go_simp; try (with_reducible rfl)
            (try simp only [Act.put, qA, qB, qC])
            refine wpAnyH_take (i := 10) (oi := { dst := some 39, op := Op.load 46 (Operand.tmp 6), type := 46, pos := "view.go:62", after := #[{ on := 7, ground := Ground.guard }], guard := some (7, false) }) (v := ?vq10_52) rfl (by kernel_rfl) (by kernel_rfl) (by kernel_rfl) (fun _ _ _ h => h) (Or.inl ⟨by rfl, ?hq10_52⟩) (by assumption) ?_
            case hq10_52 => intro w hSw; (try dsimp only at hSw); go_simp; try (with_reducible rfl)
            (try simp only [Act.put, qA, qB, qC])
            refine wpAnyH_take (i := 9) (oi := { dst := some 38, op := Op.load 4 (Operand.tmp 37), type := 4, pos := "view.go:62", after := #[{ on := 8, ground := Ground.data }, { on := 7, ground := Ground.guard }], guard := some (7, false) }) (v := ?vq9_53) rfl (by kernel_rfl) (by kernel_rfl) (by kernel_rfl) (fun _ _ _ h => h) (Or.inl ⟨by rfl, ?hq9_53⟩) (by assumption) ?_
            case hq9_53 => intro w hSw; (try dsimp only at hSw); go_simp; try (with_reducible rfl)
            (try simp only [Act.put, qA, qB, qC])
            refine wpAnyH_ready (rs := [11]) (by kernel_rfl) (by simp) ?_
            refine AllReadyH.cons (o := { dst := some 40, op := Op.call { callee := Callee.value (Operand.func 142), args := #[Operand.tmp 39], argTypes := #[46] }, type := 4, pos := "view.go:62", after := #[{ on := 10, ground := Ground.data }, { on := 7, ground := Ground.chain }, { on := 7, ground := Ground.guard }], guard := some (7, false) }) rfl (fun K hK => ?_) AllReadyH.nil
            go_simp
            refine (HCP.out W2.drew).mono ?_
            rintro e W3 ⟨rfl, hb1⟩
            have HB3 := Lib.hid (show Below W2.heap.size W2 W3 from (show Below W2.heap.size W2 W2.drew from ⟨rfl, rfl, rfl, Nat.le_refl _, fun _ _ => rfl⟩).trans hb1)
            have HX3 := Lib.hid (And.intro ((HB3.out.block N (blk_lt HX2.out.1)).trans HX2.out.1) (And.intro ((HB3.out.block (N + 1) (blk_lt HX2.out.2)).trans HX2.out.2) ((HB3.out.block M (blk_lt HM.out.1)).trans HM.out.1)))
            clear hb1
            refine hK.out _ _ ?_ (fun hHeld => ?_)
            · exact ⟨(cells5p HX3.out.1).2.1, (cells5p HX3.out.1).2.2.1, (cells5p HX3.out.1).2.2.2.2.1, (cells3p HX3.out.2.2).1, (cells3p HX3.out.2.2).2.1, (cells3p HX3.out.2.2).2.2.1⟩
            clear hK K
            (try simp only [Act.put, qA, qB, qC])
            refine wpAnyH_take (i := 12) (oi := { dst := some 41, op := Op.binOp BinOp.eql 4 (Operand.tmp 38) (Operand.tmp 40) 4, type := 4, pos := "view.go:62", after := #[{ on := 9, ground := Ground.data }, { on := 11, ground := Ground.data }, { on := 7, ground := Ground.guard }], guard := some (7, false) }) (v := ?vq12_54) rfl (by kernel_rfl) (by kernel_rfl) (by kernel_rfl) (fun _ _ _ h => h) (Or.inl ⟨by rfl, ?hq12_54⟩) (by assumption) ?_
            case hq12_54 => intro w hSw; (try dsimp only at hSw); go_simp; try (with_reducible rfl)
            (try simp only [Act.put, qA, qB, qC])
            refine wpAnyH_take (i := 13) (oi := { dst := some 42, op := Op.pick (Operand.tmp 36) (Operand.const (Value.bool true)) (Operand.tmp 41), type := 4, pos := "view.go:62", after := #[{ on := 7, ground := Ground.data }, { on := 12, ground := Ground.data }], guard := none }) (v := ?vq13_55) rfl (by kernel_rfl) (by kernel_rfl) (by kernel_rfl) (fun _ _ _ h => h) (Or.inl ⟨by rfl, ?hq13_55⟩) (by assumption) ?_
            case hq13_55 => intro w hSw; (try dsimp only at hSw); go_simp; try (with_reducible rfl)
            (try simp only [Act.put, qA, qB, qC])
            refine wpAnyH_take (i := 14) (oi := { dst := some 43, op := Op.move (Operand.tmp 42), type := 4, pos := "view.go:62", after := #[{ on := 13, ground := Ground.data }, { on := 11, ground := Ground.chain }], guard := none }) (v := ?vq14_56) rfl (by kernel_rfl) (by kernel_rfl) (by kernel_rfl) (fun _ _ _ h => h) (Or.inl ⟨by rfl, ?hq14_56⟩) (by assumption) ?_
            case hq14_56 => intro w hSw; (try dsimp only at hSw); go_simp; try (with_reducible rfl)
            (try simp only [Act.put, qA, qB, qC])
            refine wpAnyH_take (i := 15) (oi := { dst := some 44, op := Op.fieldAddr 42 (Operand.tmp 3) 2, type := 0, pos := "view.go:62", after := #[{ on := 14, ground := Ground.guard }], guard := some (14, false) }) (v := ?vq15_57) rfl (by kernel_rfl) (by kernel_rfl) (by kernel_rfl) (fun _ _ _ h => h) (Or.inl ⟨by rfl, ?hq15_57⟩) (by assumption) ?_
            case hq15_57 => intro w hSw; (try dsimp only at hSw); go_simp; try (with_reducible rfl)
            (try simp only [Act.put, qA, qB, qC])
            refine wpAnyH_take (i := 16) (oi := { dst := some 45, op := Op.load 4 (Operand.tmp 44), type := 4, pos := "view.go:62", after := #[{ on := 15, ground := Ground.data }, { on := 14, ground := Ground.guard }], guard := some (14, false) }) (v := ?vq16_58) rfl (by kernel_rfl) (by kernel_rfl) (by kernel_rfl) (fun _ _ _ h => h) (Or.inl ⟨by rfl, ?hq16_58⟩) (by assumption) ?_
            case hq16_58 => intro w hSw; (try dsimp only at hSw); go_simp; try (with_reducible rfl)
            (try simp only [Act.put, qA, qB, qC])
            refine wpAnyH_take (i := 17) (oi := { dst := some 46, op := Op.move (Operand.tmp 45), type := 4, pos := "view.go:62", after := #[{ on := 16, ground := Ground.data }, { on := 14, ground := Ground.chain }, { on := 14, ground := Ground.guard }], guard := some (14, false) }) (v := ?vq17_59) rfl (by kernel_rfl) (by kernel_rfl) (by kernel_rfl) (fun _ _ _ h => h) (Or.inl ⟨by rfl, ?hq17_59⟩) (by assumption) ?_
            case hq17_59 => intro w hSw; (try dsimp only at hSw); go_simp; try (with_reducible rfl)
            (try simp only [Act.put, qA, qB, qC])
            refine wpAnyH_take (i := 18) (oi := { dst := some 47, op := Op.fieldAddr 42 (Operand.tmp 3) 3, type := 0, pos := "view.go:62", after := #[{ on := 17, ground := Ground.guard }], guard := some (17, true) }) (v := ?vq18_60) rfl (by kernel_rfl) (by kernel_rfl) (by kernel_rfl) (fun _ _ _ h => h) (Or.inl ⟨by rfl, ?hq18_60⟩) (by assumption) ?_
            case hq18_60 => intro w hSw; (try dsimp only at hSw); go_simp; try (with_reducible rfl)
            (try simp only [Act.put, qA, qB, qC])
            refine wpAnyH_take (i := 19) (oi := { dst := some 48, op := Op.fieldAddr 33 (Operand.tmp 47) 1, type := 0, pos := "view.go:62", after := #[{ on := 18, ground := Ground.data }, { on := 17, ground := Ground.guard }], guard := some (17, true) }) (v := ?vq19_61) rfl (by kernel_rfl) (by kernel_rfl) (by kernel_rfl) (fun _ _ _ h => h) (Or.inl ⟨by rfl, ?hq19_61⟩) (by assumption) ?_
            case hq19_61 => intro w hSw; (try dsimp only at hSw); go_simp; try (with_reducible rfl)
            (try simp only [Act.put, qA, qB, qC])
            refine wpAnyH_take (i := 20) (oi := { dst := some 49, op := Op.load 31 (Operand.tmp 48), type := 31, pos := "view.go:62", after := #[{ on := 19, ground := Ground.data }, { on := 17, ground := Ground.guard }], guard := some (17, true) }) (v := ?vq20_62) rfl (by kernel_rfl) (by kernel_rfl) (by kernel_rfl) (fun _ _ _ h => h) (Or.inl ⟨by rfl, ?hq20_62⟩) (by assumption) ?_
            case hq20_62 => intro w hSw; (try dsimp only at hSw); go_simp; try (with_reducible rfl)
            (try simp only [Act.put, qA, qB, qC])
            refine wpAnyH_take (i := 21) (oi := { dst := some 50, op := Op.call { callee := Callee.builtin Builtin.len, args := #[Operand.tmp 49], argTypes := #[31] }, type := 3, pos := "view.go:62", after := #[{ on := 20, ground := Ground.data }, { on := 17, ground := Ground.guard }], guard := some (17, true) }) (v := ?vq21_63) rfl (by kernel_rfl) (by kernel_rfl) (by kernel_rfl) (fun _ _ _ h => h) (Or.inl ⟨by rfl, ?hq21_63⟩) (by assumption) ?_
            case hq21_63 => intro w hSw; (try dsimp only at hSw); go_simp; try (with_reducible rfl)
            (try simp only [Act.put, qA, qB, qC])
            refine wpAnyH_take (i := 22) (oi := { dst := some 51, op := Op.binOp BinOp.gtr 3 (Operand.tmp 50) (Operand.const (Value.int IntKind.i64 0)) 3, type := 4, pos := "view.go:62", after := #[{ on := 21, ground := Ground.data }, { on := 17, ground := Ground.guard }], guard := some (17, true) }) (v := .bool false) rfl (by kernel_rfl) (by kernel_rfl) (by kernel_rfl) (fun _ _ _ h => h) (Or.inl ⟨by rfl, ?hq22_64⟩) (by assumption) ?_
            case hq22_64 => intro w hSw; (try dsimp only at hSw); go_simp; first | done | (with_reducible rfl) | (have h0 := HL0.out; simp [h0])
            (try simp only [Act.put, qA, qB, qC])
            refine wpAnyH_take (i := 23) (oi := { dst := some 52, op := Op.pick (Operand.tmp 46) (Operand.tmp 51) (Operand.const (Value.bool false)), type := 4, pos := "view.go:62", after := #[{ on := 17, ground := Ground.data }, { on := 22, ground := Ground.data }, { on := 14, ground := Ground.guard }], guard := some (14, false) }) (v := ?vq23_65) rfl (by kernel_rfl) (by kernel_rfl) (by kernel_rfl) (fun _ _ _ h => h) (Or.inl ⟨by rfl, ?hq23_65⟩) (by assumption) ?_
            case hq23_65 => intro w hSw; (try dsimp only at hSw); go_simp; try (with_reducible rfl)
            (try simp only [Act.put, qA, qB, qC])
            refine wpAnyH_take (i := 24) (oi := { dst := some 53, op := Op.pick (Operand.tmp 43) (Operand.const (Value.bool true)) (Operand.tmp 52), type := 4, pos := "view.go:62", after := #[{ on := 14, ground := Ground.data }, { on := 23, ground := Ground.data }], guard := none }) (v := ?vq24_66) rfl (by kernel_rfl) (by kernel_rfl) (by kernel_rfl) (fun _ _ _ h => h) (Or.inl ⟨by rfl, ?hq24_66⟩) (by assumption) ?_
            case hq24_66 => intro w hSw; (try dsimp only at hSw); go_simp; try (with_reducible rfl)
            (try simp only [Act.put, qA, qB, qC])
            refine wpAnyH_done (by kernel_rfl) ?_ _
            obtain ⟨m0, m1, m2, mf, ml⟩ := cells3p HX3.out.2.2
            go_wp2_with (go_loud (refine wpList_store_box rfl 46 (.tmp 4) (.tmp 55) rfl (N + 1) 0 rfl (.agg #[.int .i64 k1, .string nm1, .slice h1.oa l1.length h1.cap]) rfl [.int .i64 k1, .string nm1, .slice h1.oa l1.length h1.cap] rfl [.int .i64 0, .string ⟨#[]⟩, .slice none 0 0] 46 (show W3.heap[N + 1]? = _ from HX3.out.2.1) (Nat.le_refl _) (show (Tryz.prog.info? 46).map (·.size) = some 3 by kernel_rfl) ?cz13 (N + 1) (Nat.le_refl _) W3 (Below.refl _ _) ?_))
            try case cz13 => first | exact ⟨rfl, rfl, rfl⟩ | (intro v hv; simp at hv; rcases hv with rfl | rfl | rfl <;> rfl)
            intro WF hb hbx hoth
            have HF := Lib.hid (show Below w.heap.size w WF by rw [← HN.out]; exact HB0.out.trans (((HB2.out.trans (HB3.out.mono HB2.out.size)).mono (by have := blk_lt HX.out.1; omega) : Below N W0 W3).trans (hb.mono (by omega))))
            have HTF := Lib.hid (show ∃ f, TyH f (ebp WF kf) (.mk k1 nm1 h1 l1) from ⟨f, (TyH.und f _ _ _ (ebp_und (Nat.le_trans (Nat.le_trans HM.out.2.2.1 HB3.out.size) hb.size) fun z hl hz => by simp at hz; exact ⟨hz.1, (hoth z hz.2.2).trans ((HB3.out.block z (Nat.lt_of_lt_of_le hl HM.out.2.2.1)).trans (HM.out.2.2.2.block z hl))⟩) HT1.out.1)⟩)
            obtain ⟨f0, f1, f2, ff, fl⟩ := cells3p hbx
            clear hb hbx hoth m0 m1 m2 mf ml
            go_wp2
            refine bodyPost_ret (v := .tuple #[.agg #[.int .i64 k1, .string nm1, .slice h1.oa l1.length h1.cap], .int .i64 0]) (by simp [results, Tryz.results120, go_sem, f0, f1, f2]) rfl ⟨HF.out, ?_⟩
            simp only [useO]
            rw [if_neg (by rw [show copiesT r1 = false from HC.out.2]; have h0 := HL0.out; simp [h0])]
            exact ⟨.mk k1 nm1 h1 l1, rfl, HC.out.1, HTF.out⟩
          · have HL0 := Lib.hid (show 0 < np by omega)
            clear hl0
            go_wp2_with fail
            refine wp_region_held_drew (S := (fun w' => w'.cell? ⟨N, 1, none⟩ = some (.int .i64 0) ∧ w'.cell? ⟨N, 2, none⟩ = some (.bool true) ∧ w'.cell? ⟨N, 4, none⟩ = some (.slice h.oa np h.cap) ∧ w'.cell? ⟨M, 0, none⟩ = some (.int .i64 k1) ∧ w'.cell? ⟨M, 1, none⟩ = some (.string nm1) ∧ w'.cell? ⟨M, 2, none⟩ = some (.slice h1.oa l1.length h1.cap))) (by kernel_rfl) ?_ (fun hHeld => ?_)
            · exact HP.out
            clear m0 m1 m2 p1 p2 p4 p0 p3
            refine wpAnyH_take (i := 0) (oi := { dst := some 29, op := Op.move (Operand.tmp 8), type := 47, pos := "view.go:62", after := #[], guard := none }) (v := ?vq0_67) rfl (by kernel_rfl) (by kernel_rfl) (by kernel_rfl) (fun _ _ _ h => h) (Or.inl ⟨by rfl, ?hq0_67⟩) (by assumption) ?_
            case hq0_67 => intro w hSw; (try dsimp only at hSw); go_simp; try (with_reducible rfl)
            (try simp only [Act.put, qA, qB, qC])
            refine wpAnyH_take (i := 1) (oi := { dst := some 30, op := Op.binOp BinOp.neq 47 (Operand.tmp 29) (Operand.const (Value.int IntKind.i64 0)) 47, type := 4, pos := "view.go:62", after := #[{ on := 0, ground := Ground.data }], guard := none }) (v := ?vq1_68) rfl (by kernel_rfl) (by kernel_rfl) (by kernel_rfl) (fun _ _ _ h => h) (Or.inl ⟨by rfl, ?hq1_68⟩) (by assumption) ?_
            case hq1_68 => intro w hSw; (try dsimp only at hSw); go_simp; try (with_reducible rfl)
            (try simp only [Act.put, qA, qB, qC])
            refine wpAnyH_take (i := 2) (oi := { dst := some 31, op := Op.move (Operand.tmp 30), type := 4, pos := "view.go:62", after := #[{ on := 1, ground := Ground.data }], guard := none }) (v := ?vq2_69) rfl (by kernel_rfl) (by kernel_rfl) (by kernel_rfl) (fun _ _ _ h => h) (Or.inl ⟨by rfl, ?hq2_69⟩) (by assumption) ?_
            case hq2_69 => intro w hSw; (try dsimp only at hSw); go_simp; try (with_reducible rfl)
            (try simp only [Act.put, qA, qB, qC])
            refine wpAnyH_take (i := 3) (oi := { dst := some 32, op := Op.fieldAddr 42 (Operand.tmp 3) 1, type := 0, pos := "view.go:62", after := #[{ on := 2, ground := Ground.guard }], guard := some (2, false) }) (v := ?vq3_70) rfl (by kernel_rfl) (by kernel_rfl) (by kernel_rfl) (fun _ _ _ h => h) (Or.inl ⟨by rfl, ?hq3_70⟩) (by assumption) ?_
            case hq3_70 => intro w hSw; (try dsimp only at hSw); go_simp; try (with_reducible rfl)
            (try simp only [Act.put, qA, qB, qC])
            refine wpAnyH_take (i := 4) (oi := { dst := some 33, op := Op.load 3 (Operand.tmp 32), type := 3, pos := "view.go:62", after := #[{ on := 3, ground := Ground.data }, { on := 2, ground := Ground.guard }], guard := some (2, false) }) (v := ?vq4_71) rfl (by kernel_rfl) (by kernel_rfl) (by kernel_rfl) (fun _ _ _ h => h) (Or.inl ⟨by rfl, ?hq4_71⟩) (by assumption) ?_
            case hq4_71 => intro w hSw; (try dsimp only at hSw); go_simp; try (with_reducible rfl)
            (try simp only [Act.put, qA, qB, qC])
            refine wpAnyH_take (i := 5) (oi := { dst := some 34, op := Op.binOp BinOp.neq 3 (Operand.tmp 33) (Operand.const (Value.int IntKind.i64 0)) 3, type := 4, pos := "view.go:62", after := #[{ on := 4, ground := Ground.data }, { on := 2, ground := Ground.guard }], guard := some (2, false) }) (v := ?vq5_72) rfl (by kernel_rfl) (by kernel_rfl) (by kernel_rfl) (fun _ _ _ h => h) (Or.inl ⟨by rfl, ?hq5_72⟩) (by assumption) ?_
            case hq5_72 => intro w hSw; (try dsimp only at hSw); go_simp; try (with_reducible rfl)
            (try simp only [Act.put, qA, qB, qC])
            refine wpAnyH_take (i := 6) (oi := { dst := some 35, op := Op.pick (Operand.tmp 31) (Operand.const (Value.bool true)) (Operand.tmp 34), type := 4, pos := "view.go:62", after := #[{ on := 2, ground := Ground.data }, { on := 5, ground := Ground.data }], guard := none }) (v := ?vq6_73) rfl (by kernel_rfl) (by kernel_rfl) (by kernel_rfl) (fun _ _ _ h => h) (Or.inl ⟨by rfl, ?hq6_73⟩) (by assumption) ?_
            case hq6_73 => intro w hSw; (try dsimp only at hSw); go_simp; try (with_reducible rfl)
            (try simp only [Act.put, qA, qB, qC])
            refine wpAnyH_take (i := 7) (oi := { dst := some 36, op := Op.move (Operand.tmp 35), type := 4, pos := "view.go:62", after := #[{ on := 6, ground := Ground.data }, { on := 2, ground := Ground.chain }], guard := none }) (v := ?vq7_74) rfl (by kernel_rfl) (by kernel_rfl) (by kernel_rfl) (fun _ _ _ h => h) (Or.inl ⟨by rfl, ?hq7_74⟩) (by assumption) ?_
            case hq7_74 => intro w hSw; (try dsimp only at hSw); go_simp; try (with_reducible rfl)
            (try simp only [Act.put, qA, qB, qC])
            refine wpAnyH_take (i := 8) (oi := { dst := some 37, op := Op.fieldAddr 42 (Operand.tmp 3) 2, type := 0, pos := "view.go:62", after := #[{ on := 7, ground := Ground.guard }], guard := some (7, false) }) (v := ?vq8_75) rfl (by kernel_rfl) (by kernel_rfl) (by kernel_rfl) (fun _ _ _ h => h) (Or.inl ⟨by rfl, ?hq8_75⟩) (by assumption) ?_
            case hq8_75 => intro w hSw; (try dsimp only at hSw); go_simp; try (with_reducible rfl)
            (try simp only [Act.put, qA, qB, qC])
            refine wpAnyH_take (i := 10) (oi := { dst := some 39, op := Op.load 46 (Operand.tmp 6), type := 46, pos := "view.go:62", after := #[{ on := 7, ground := Ground.guard }], guard := some (7, false) }) (v := ?vq10_76) rfl (by kernel_rfl) (by kernel_rfl) (by kernel_rfl) (fun _ _ _ h => h) (Or.inl ⟨by rfl, ?hq10_76⟩) (by assumption) ?_
            case hq10_76 => intro w hSw; (try dsimp only at hSw); go_simp; try (with_reducible rfl)
            (try simp only [Act.put, qA, qB, qC])
            refine wpAnyH_take (i := 9) (oi := { dst := some 38, op := Op.load 4 (Operand.tmp 37), type := 4, pos := "view.go:62", after := #[{ on := 8, ground := Ground.data }, { on := 7, ground := Ground.guard }], guard := some (7, false) }) (v := ?vq9_77) rfl (by kernel_rfl) (by kernel_rfl) (by kernel_rfl) (fun _ _ _ h => h) (Or.inl ⟨by rfl, ?hq9_77⟩) (by assumption) ?_
            case hq9_77 => intro w hSw; (try dsimp only at hSw); go_simp; try (with_reducible rfl)
            (try simp only [Act.put, qA, qB, qC])
            refine wpAnyH_ready (rs := [11]) (by kernel_rfl) (by simp) ?_
            refine AllReadyH.cons (o := { dst := some 40, op := Op.call { callee := Callee.value (Operand.func 142), args := #[Operand.tmp 39], argTypes := #[46] }, type := 4, pos := "view.go:62", after := #[{ on := 10, ground := Ground.data }, { on := 7, ground := Ground.chain }, { on := 7, ground := Ground.guard }], guard := some (7, false) }) rfl (fun K hK => ?_) AllReadyH.nil
            go_simp
            refine (HCP.out W2.drew).mono ?_
            rintro e W3 ⟨rfl, hb1⟩
            have HB3 := Lib.hid (show Below W2.heap.size W2 W3 from (show Below W2.heap.size W2 W2.drew from ⟨rfl, rfl, rfl, Nat.le_refl _, fun _ _ => rfl⟩).trans hb1)
            have HX3 := Lib.hid (And.intro ((HB3.out.block N (blk_lt HX2.out.1)).trans HX2.out.1) (And.intro ((HB3.out.block (N + 1) (blk_lt HX2.out.2)).trans HX2.out.2) ((HB3.out.block M (blk_lt HM.out.1)).trans HM.out.1)))
            clear hb1
            refine hK.out _ _ ?_ (fun hHeld => ?_)
            · exact ⟨(cells5p HX3.out.1).2.1, (cells5p HX3.out.1).2.2.1, (cells5p HX3.out.1).2.2.2.2.1, (cells3p HX3.out.2.2).1, (cells3p HX3.out.2.2).2.1, (cells3p HX3.out.2.2).2.2.1⟩
            clear hK K
            (try simp only [Act.put, qA, qB, qC])
            refine wpAnyH_take (i := 12) (oi := { dst := some 41, op := Op.binOp BinOp.eql 4 (Operand.tmp 38) (Operand.tmp 40) 4, type := 4, pos := "view.go:62", after := #[{ on := 9, ground := Ground.data }, { on := 11, ground := Ground.data }, { on := 7, ground := Ground.guard }], guard := some (7, false) }) (v := ?vq12_78) rfl (by kernel_rfl) (by kernel_rfl) (by kernel_rfl) (fun _ _ _ h => h) (Or.inl ⟨by rfl, ?hq12_78⟩) (by assumption) ?_
            case hq12_78 => intro w hSw; (try dsimp only at hSw); go_simp; try (with_reducible rfl)
            (try simp only [Act.put, qA, qB, qC])
            refine wpAnyH_take (i := 13) (oi := { dst := some 42, op := Op.pick (Operand.tmp 36) (Operand.const (Value.bool true)) (Operand.tmp 41), type := 4, pos := "view.go:62", after := #[{ on := 7, ground := Ground.data }, { on := 12, ground := Ground.data }], guard := none }) (v := ?vq13_79) rfl (by kernel_rfl) (by kernel_rfl) (by kernel_rfl) (fun _ _ _ h => h) (Or.inl ⟨by rfl, ?hq13_79⟩) (by assumption) ?_
            case hq13_79 => intro w hSw; (try dsimp only at hSw); go_simp; try (with_reducible rfl)
            (try simp only [Act.put, qA, qB, qC])
            refine wpAnyH_take (i := 14) (oi := { dst := some 43, op := Op.move (Operand.tmp 42), type := 4, pos := "view.go:62", after := #[{ on := 13, ground := Ground.data }, { on := 11, ground := Ground.chain }], guard := none }) (v := ?vq14_80) rfl (by kernel_rfl) (by kernel_rfl) (by kernel_rfl) (fun _ _ _ h => h) (Or.inl ⟨by rfl, ?hq14_80⟩) (by assumption) ?_
            case hq14_80 => intro w hSw; (try dsimp only at hSw); go_simp; try (with_reducible rfl)
            (try simp only [Act.put, qA, qB, qC])
            refine wpAnyH_take (i := 15) (oi := { dst := some 44, op := Op.fieldAddr 42 (Operand.tmp 3) 2, type := 0, pos := "view.go:62", after := #[{ on := 14, ground := Ground.guard }], guard := some (14, false) }) (v := ?vq15_81) rfl (by kernel_rfl) (by kernel_rfl) (by kernel_rfl) (fun _ _ _ h => h) (Or.inl ⟨by rfl, ?hq15_81⟩) (by assumption) ?_
            case hq15_81 => intro w hSw; (try dsimp only at hSw); go_simp; try (with_reducible rfl)
            (try simp only [Act.put, qA, qB, qC])
            refine wpAnyH_take (i := 16) (oi := { dst := some 45, op := Op.load 4 (Operand.tmp 44), type := 4, pos := "view.go:62", after := #[{ on := 15, ground := Ground.data }, { on := 14, ground := Ground.guard }], guard := some (14, false) }) (v := ?vq16_82) rfl (by kernel_rfl) (by kernel_rfl) (by kernel_rfl) (fun _ _ _ h => h) (Or.inl ⟨by rfl, ?hq16_82⟩) (by assumption) ?_
            case hq16_82 => intro w hSw; (try dsimp only at hSw); go_simp; try (with_reducible rfl)
            (try simp only [Act.put, qA, qB, qC])
            refine wpAnyH_take (i := 17) (oi := { dst := some 46, op := Op.move (Operand.tmp 45), type := 4, pos := "view.go:62", after := #[{ on := 16, ground := Ground.data }, { on := 14, ground := Ground.chain }, { on := 14, ground := Ground.guard }], guard := some (14, false) }) (v := ?vq17_83) rfl (by kernel_rfl) (by kernel_rfl) (by kernel_rfl) (fun _ _ _ h => h) (Or.inl ⟨by rfl, ?hq17_83⟩) (by assumption) ?_
            case hq17_83 => intro w hSw; (try dsimp only at hSw); go_simp; try (with_reducible rfl)
            (try simp only [Act.put, qA, qB, qC])
            refine wpAnyH_take (i := 18) (oi := { dst := some 47, op := Op.fieldAddr 42 (Operand.tmp 3) 3, type := 0, pos := "view.go:62", after := #[{ on := 17, ground := Ground.guard }], guard := some (17, true) }) (v := ?vq18_84) rfl (by kernel_rfl) (by kernel_rfl) (by kernel_rfl) (fun _ _ _ h => h) (Or.inl ⟨by rfl, ?hq18_84⟩) (by assumption) ?_
            case hq18_84 => intro w hSw; (try dsimp only at hSw); go_simp; try (with_reducible rfl)
            (try simp only [Act.put, qA, qB, qC])
            refine wpAnyH_take (i := 19) (oi := { dst := some 48, op := Op.fieldAddr 33 (Operand.tmp 47) 1, type := 0, pos := "view.go:62", after := #[{ on := 18, ground := Ground.data }, { on := 17, ground := Ground.guard }], guard := some (17, true) }) (v := ?vq19_85) rfl (by kernel_rfl) (by kernel_rfl) (by kernel_rfl) (fun _ _ _ h => h) (Or.inl ⟨by rfl, ?hq19_85⟩) (by assumption) ?_
            case hq19_85 => intro w hSw; (try dsimp only at hSw); go_simp; try (with_reducible rfl)
            (try simp only [Act.put, qA, qB, qC])
            refine wpAnyH_take (i := 20) (oi := { dst := some 49, op := Op.load 31 (Operand.tmp 48), type := 31, pos := "view.go:62", after := #[{ on := 19, ground := Ground.data }, { on := 17, ground := Ground.guard }], guard := some (17, true) }) (v := ?vq20_86) rfl (by kernel_rfl) (by kernel_rfl) (by kernel_rfl) (fun _ _ _ h => h) (Or.inl ⟨by rfl, ?hq20_86⟩) (by assumption) ?_
            case hq20_86 => intro w hSw; (try dsimp only at hSw); go_simp; try (with_reducible rfl)
            (try simp only [Act.put, qA, qB, qC])
            refine wpAnyH_take (i := 21) (oi := { dst := some 50, op := Op.call { callee := Callee.builtin Builtin.len, args := #[Operand.tmp 49], argTypes := #[31] }, type := 3, pos := "view.go:62", after := #[{ on := 20, ground := Ground.data }, { on := 17, ground := Ground.guard }], guard := some (17, true) }) (v := ?vq21_87) rfl (by kernel_rfl) (by kernel_rfl) (by kernel_rfl) (fun _ _ _ h => h) (Or.inl ⟨by rfl, ?hq21_87⟩) (by assumption) ?_
            case hq21_87 => intro w hSw; (try dsimp only at hSw); go_simp; try (with_reducible rfl)
            (try simp only [Act.put, qA, qB, qC])
            refine wpAnyH_take (i := 22) (oi := { dst := some 51, op := Op.binOp BinOp.gtr 3 (Operand.tmp 50) (Operand.const (Value.int IntKind.i64 0)) 3, type := 4, pos := "view.go:62", after := #[{ on := 21, ground := Ground.data }, { on := 17, ground := Ground.guard }], guard := some (17, true) }) (v := .bool true) rfl (by kernel_rfl) (by kernel_rfl) (by kernel_rfl) (fun _ _ _ h => h) (Or.inl ⟨by rfl, ?hq22_88⟩) (by assumption) ?_
            case hq22_88 => intro w hSw; (try dsimp only at hSw); go_simp; first | done | (with_reducible rfl) | (have h0 := HL0.out; simp [h0])
            (try simp only [Act.put, qA, qB, qC])
            refine wpAnyH_take (i := 23) (oi := { dst := some 52, op := Op.pick (Operand.tmp 46) (Operand.tmp 51) (Operand.const (Value.bool false)), type := 4, pos := "view.go:62", after := #[{ on := 17, ground := Ground.data }, { on := 22, ground := Ground.data }, { on := 14, ground := Ground.guard }], guard := some (14, false) }) (v := ?vq23_89) rfl (by kernel_rfl) (by kernel_rfl) (by kernel_rfl) (fun _ _ _ h => h) (Or.inl ⟨by rfl, ?hq23_89⟩) (by assumption) ?_
            case hq23_89 => intro w hSw; (try dsimp only at hSw); go_simp; try (with_reducible rfl)
            (try simp only [Act.put, qA, qB, qC])
            refine wpAnyH_take (i := 24) (oi := { dst := some 53, op := Op.pick (Operand.tmp 43) (Operand.const (Value.bool true)) (Operand.tmp 52), type := 4, pos := "view.go:62", after := #[{ on := 14, ground := Ground.data }, { on := 23, ground := Ground.data }], guard := none }) (v := ?vq24_90) rfl (by kernel_rfl) (by kernel_rfl) (by kernel_rfl) (fun _ _ _ h => h) (Or.inl ⟨by rfl, ?hq24_90⟩) (by assumption) ?_
            case hq24_90 => intro w hSw; (try dsimp only at hSw); go_simp; try (with_reducible rfl)
            (try simp only [Act.put, qA, qB, qC])
            refine wpAnyH_done (by kernel_rfl) ?_ _
            go_wp2_with (go_loud (refine wpList_store_box rfl 46 (.tmp 4) (.tmp 54) rfl (N + 1) 0 rfl (.agg #[.int .i64 0, .string ⟨#[]⟩, .slice none 0 0]) rfl [.int .i64 0, .string ⟨#[]⟩, .slice none 0 0] rfl [.int .i64 0, .string ⟨#[]⟩, .slice none 0 0] 46 (show W3.heap[N + 1]? = _ from HX3.out.2.1) (Nat.le_refl _) (show (Tryz.prog.info? 46).map (·.size) = some 3 by kernel_rfl) ?cz14 (N + 1) (Nat.le_refl _) W3 (Below.refl _ _) ?_))
            try case cz14 => first | exact ⟨rfl, rfl, rfl⟩ | (intro v hv; simp at hv; rcases hv with rfl | rfl | rfl <;> rfl)
            intro WF hb hbx hoth
            have HF := Lib.hid (show Below w.heap.size w WF by rw [← HN.out]; exact HB0.out.trans (((HB2.out.trans (HB3.out.mono HB2.out.size)).mono (by have := blk_lt HX.out.1; omega) : Below N W0 W3).trans (hb.mono (by omega))))
            obtain ⟨f0, f1, f2, ff, fl⟩ := cells3p hbx
            clear hb hbx hoth
            go_wp2
            refine bodyPost_ret (v := .tuple #[.agg #[.int .i64 0, .string ⟨#[]⟩, .slice none 0 0], .int .i64 84]) (by simp [results, Tryz.results120, go_sem, f0, f1, f2]) rfl ⟨HF.out, ?_⟩
            simp only [useO]
            rw [if_pos (by first | exact Or.inr (Or.inr ⟨rfl, HL0.out⟩) | exact Or.inr (Or.inr ⟨trivial, HL0.out⟩) | simp [HL0.out])]
            rfl
        | true =>
          go_wp2_with fail
          refine wp_region_held_drew (S := (fun w' => w'.cell? ⟨N, 1, none⟩ = some (.int .i64 0) ∧ w'.cell? ⟨N, 2, none⟩ = some (.bool true) ∧ w'.cell? ⟨N, 4, none⟩ = some (.slice h.oa np h.cap) ∧ w'.cell? ⟨M, 0, none⟩ = some (.int .i64 k1) ∧ w'.cell? ⟨M, 1, none⟩ = some (.string nm1) ∧ w'.cell? ⟨M, 2, none⟩ = some (.slice h1.oa l1.length h1.cap))) (by kernel_rfl) ?_ (fun hHeld => ?_)
          · exact HP.out
          clear m0 m1 m2 p1 p2 p4 p0 p3
          refine wpAnyH_take (i := 0) (oi := { dst := some 29, op := Op.move (Operand.tmp 8), type := 47, pos := "view.go:62", after := #[], guard := none }) (v := ?vq0_91) rfl (by kernel_rfl) (by kernel_rfl) (by kernel_rfl) (fun _ _ _ h => h) (Or.inl ⟨by rfl, ?hq0_91⟩) (by assumption) ?_
          case hq0_91 => intro w hSw; (try dsimp only at hSw); go_simp; try (with_reducible rfl)
          (try simp only [Act.put, qA, qB, qC])
          refine wpAnyH_take (i := 1) (oi := { dst := some 30, op := Op.binOp BinOp.neq 47 (Operand.tmp 29) (Operand.const (Value.int IntKind.i64 0)) 47, type := 4, pos := "view.go:62", after := #[{ on := 0, ground := Ground.data }], guard := none }) (v := ?vq1_92) rfl (by kernel_rfl) (by kernel_rfl) (by kernel_rfl) (fun _ _ _ h => h) (Or.inl ⟨by rfl, ?hq1_92⟩) (by assumption) ?_
          case hq1_92 => intro w hSw; (try dsimp only at hSw); go_simp; try (with_reducible rfl)
          (try simp only [Act.put, qA, qB, qC])
          refine wpAnyH_take (i := 2) (oi := { dst := some 31, op := Op.move (Operand.tmp 30), type := 4, pos := "view.go:62", after := #[{ on := 1, ground := Ground.data }], guard := none }) (v := ?vq2_93) rfl (by kernel_rfl) (by kernel_rfl) (by kernel_rfl) (fun _ _ _ h => h) (Or.inl ⟨by rfl, ?hq2_93⟩) (by assumption) ?_
          case hq2_93 => intro w hSw; (try dsimp only at hSw); go_simp; try (with_reducible rfl)
          (try simp only [Act.put, qA, qB, qC])
          refine wpAnyH_take (i := 3) (oi := { dst := some 32, op := Op.fieldAddr 42 (Operand.tmp 3) 1, type := 0, pos := "view.go:62", after := #[{ on := 2, ground := Ground.guard }], guard := some (2, false) }) (v := ?vq3_94) rfl (by kernel_rfl) (by kernel_rfl) (by kernel_rfl) (fun _ _ _ h => h) (Or.inl ⟨by rfl, ?hq3_94⟩) (by assumption) ?_
          case hq3_94 => intro w hSw; (try dsimp only at hSw); go_simp; try (with_reducible rfl)
          (try simp only [Act.put, qA, qB, qC])
          refine wpAnyH_take (i := 4) (oi := { dst := some 33, op := Op.load 3 (Operand.tmp 32), type := 3, pos := "view.go:62", after := #[{ on := 3, ground := Ground.data }, { on := 2, ground := Ground.guard }], guard := some (2, false) }) (v := ?vq4_95) rfl (by kernel_rfl) (by kernel_rfl) (by kernel_rfl) (fun _ _ _ h => h) (Or.inl ⟨by rfl, ?hq4_95⟩) (by assumption) ?_
          case hq4_95 => intro w hSw; (try dsimp only at hSw); go_simp; try (with_reducible rfl)
          (try simp only [Act.put, qA, qB, qC])
          refine wpAnyH_take (i := 5) (oi := { dst := some 34, op := Op.binOp BinOp.neq 3 (Operand.tmp 33) (Operand.const (Value.int IntKind.i64 0)) 3, type := 4, pos := "view.go:62", after := #[{ on := 4, ground := Ground.data }, { on := 2, ground := Ground.guard }], guard := some (2, false) }) (v := ?vq5_96) rfl (by kernel_rfl) (by kernel_rfl) (by kernel_rfl) (fun _ _ _ h => h) (Or.inl ⟨by rfl, ?hq5_96⟩) (by assumption) ?_
          case hq5_96 => intro w hSw; (try dsimp only at hSw); go_simp; try (with_reducible rfl)
          (try simp only [Act.put, qA, qB, qC])
          refine wpAnyH_take (i := 6) (oi := { dst := some 35, op := Op.pick (Operand.tmp 31) (Operand.const (Value.bool true)) (Operand.tmp 34), type := 4, pos := "view.go:62", after := #[{ on := 2, ground := Ground.data }, { on := 5, ground := Ground.data }], guard := none }) (v := ?vq6_97) rfl (by kernel_rfl) (by kernel_rfl) (by kernel_rfl) (fun _ _ _ h => h) (Or.inl ⟨by rfl, ?hq6_97⟩) (by assumption) ?_
          case hq6_97 => intro w hSw; (try dsimp only at hSw); go_simp; try (with_reducible rfl)
          (try simp only [Act.put, qA, qB, qC])
          refine wpAnyH_take (i := 7) (oi := { dst := some 36, op := Op.move (Operand.tmp 35), type := 4, pos := "view.go:62", after := #[{ on := 6, ground := Ground.data }, { on := 2, ground := Ground.chain }], guard := none }) (v := ?vq7_98) rfl (by kernel_rfl) (by kernel_rfl) (by kernel_rfl) (fun _ _ _ h => h) (Or.inl ⟨by rfl, ?hq7_98⟩) (by assumption) ?_
          case hq7_98 => intro w hSw; (try dsimp only at hSw); go_simp; try (with_reducible rfl)
          (try simp only [Act.put, qA, qB, qC])
          refine wpAnyH_take (i := 8) (oi := { dst := some 37, op := Op.fieldAddr 42 (Operand.tmp 3) 2, type := 0, pos := "view.go:62", after := #[{ on := 7, ground := Ground.guard }], guard := some (7, false) }) (v := ?vq8_99) rfl (by kernel_rfl) (by kernel_rfl) (by kernel_rfl) (fun _ _ _ h => h) (Or.inl ⟨by rfl, ?hq8_99⟩) (by assumption) ?_
          case hq8_99 => intro w hSw; (try dsimp only at hSw); go_simp; try (with_reducible rfl)
          (try simp only [Act.put, qA, qB, qC])
          refine wpAnyH_take (i := 10) (oi := { dst := some 39, op := Op.load 46 (Operand.tmp 6), type := 46, pos := "view.go:62", after := #[{ on := 7, ground := Ground.guard }], guard := some (7, false) }) (v := ?vq10_100) rfl (by kernel_rfl) (by kernel_rfl) (by kernel_rfl) (fun _ _ _ h => h) (Or.inl ⟨by rfl, ?hq10_100⟩) (by assumption) ?_
          case hq10_100 => intro w hSw; (try dsimp only at hSw); go_simp; try (with_reducible rfl)
          (try simp only [Act.put, qA, qB, qC])
          refine wpAnyH_take (i := 9) (oi := { dst := some 38, op := Op.load 4 (Operand.tmp 37), type := 4, pos := "view.go:62", after := #[{ on := 8, ground := Ground.data }, { on := 7, ground := Ground.guard }], guard := some (7, false) }) (v := ?vq9_101) rfl (by kernel_rfl) (by kernel_rfl) (by kernel_rfl) (fun _ _ _ h => h) (Or.inl ⟨by rfl, ?hq9_101⟩) (by assumption) ?_
          case hq9_101 => intro w hSw; (try dsimp only at hSw); go_simp; try (with_reducible rfl)
          (try simp only [Act.put, qA, qB, qC])
          refine wpAnyH_ready (rs := [11]) (by kernel_rfl) (by simp) ?_
          refine AllReadyH.cons (o := { dst := some 40, op := Op.call { callee := Callee.value (Operand.func 142), args := #[Operand.tmp 39], argTypes := #[46] }, type := 4, pos := "view.go:62", after := #[{ on := 10, ground := Ground.data }, { on := 7, ground := Ground.chain }, { on := 7, ground := Ground.guard }], guard := some (7, false) }) rfl (fun K hK => ?_) AllReadyH.nil
          go_simp
          refine (HCP.out W2.drew).mono ?_
          rintro e W3 ⟨rfl, hb1⟩
          have HB3 := Lib.hid (show Below W2.heap.size W2 W3 from (show Below W2.heap.size W2 W2.drew from ⟨rfl, rfl, rfl, Nat.le_refl _, fun _ _ => rfl⟩).trans hb1)
          have HX3 := Lib.hid (And.intro ((HB3.out.block N (blk_lt HX2.out.1)).trans HX2.out.1) (And.intro ((HB3.out.block (N + 1) (blk_lt HX2.out.2)).trans HX2.out.2) ((HB3.out.block M (blk_lt HM.out.1)).trans HM.out.1)))
          clear hb1
          refine hK.out _ _ ?_ (fun hHeld => ?_)
          · exact ⟨(cells5p HX3.out.1).2.1, (cells5p HX3.out.1).2.2.1, (cells5p HX3.out.1).2.2.2.2.1, (cells3p HX3.out.2.2).1, (cells3p HX3.out.2.2).2.1, (cells3p HX3.out.2.2).2.2.1⟩
          clear hK K
          (try simp only [Act.put, qA, qB, qC])
          refine wpAnyH_take (i := 12) (oi := { dst := some 41, op := Op.binOp BinOp.eql 4 (Operand.tmp 38) (Operand.tmp 40) 4, type := 4, pos := "view.go:62", after := #[{ on := 9, ground := Ground.data }, { on := 11, ground := Ground.data }, { on := 7, ground := Ground.guard }], guard := some (7, false) }) (v := ?vq12_102) rfl (by kernel_rfl) (by kernel_rfl) (by kernel_rfl) (fun _ _ _ h => h) (Or.inl ⟨by rfl, ?hq12_102⟩) (by assumption) ?_
          case hq12_102 => intro w hSw; (try dsimp only at hSw); go_simp; try (with_reducible rfl)
          (try simp only [Act.put, qA, qB, qC])
          refine wpAnyH_take (i := 13) (oi := { dst := some 42, op := Op.pick (Operand.tmp 36) (Operand.const (Value.bool true)) (Operand.tmp 41), type := 4, pos := "view.go:62", after := #[{ on := 7, ground := Ground.data }, { on := 12, ground := Ground.data }], guard := none }) (v := ?vq13_103) rfl (by kernel_rfl) (by kernel_rfl) (by kernel_rfl) (fun _ _ _ h => h) (Or.inl ⟨by rfl, ?hq13_103⟩) (by assumption) ?_
          case hq13_103 => intro w hSw; (try dsimp only at hSw); go_simp; try (with_reducible rfl)
          (try simp only [Act.put, qA, qB, qC])
          refine wpAnyH_take (i := 14) (oi := { dst := some 43, op := Op.move (Operand.tmp 42), type := 4, pos := "view.go:62", after := #[{ on := 13, ground := Ground.data }, { on := 11, ground := Ground.chain }], guard := none }) (v := ?vq14_104) rfl (by kernel_rfl) (by kernel_rfl) (by kernel_rfl) (fun _ _ _ h => h) (Or.inl ⟨by rfl, ?hq14_104⟩) (by assumption) ?_
          case hq14_104 => intro w hSw; (try dsimp only at hSw); go_simp; try (with_reducible rfl)
          (try simp only [Act.put, qA, qB, qC])
          refine wpAnyH_take (i := 15) (oi := { dst := some 44, op := Op.fieldAddr 42 (Operand.tmp 3) 2, type := 0, pos := "view.go:62", after := #[{ on := 14, ground := Ground.guard }], guard := some (14, false) }) (v := undef) rfl (by kernel_rfl) (by kernel_rfl) (by kernel_rfl) (fun _ _ _ h => h) (Or.inr ⟨by rfl, rfl⟩) (by assumption) ?_
          (try simp only [Act.put, qA, qB, qC])
          refine wpAnyH_take (i := 16) (oi := { dst := some 45, op := Op.load 4 (Operand.tmp 44), type := 4, pos := "view.go:62", after := #[{ on := 15, ground := Ground.data }, { on := 14, ground := Ground.guard }], guard := some (14, false) }) (v := undef) rfl (by kernel_rfl) (by kernel_rfl) (by kernel_rfl) (fun _ _ _ h => h) (Or.inr ⟨by rfl, rfl⟩) (by assumption) ?_
          (try simp only [Act.put, qA, qB, qC])
          refine wpAnyH_take (i := 17) (oi := { dst := some 46, op := Op.move (Operand.tmp 45), type := 4, pos := "view.go:62", after := #[{ on := 16, ground := Ground.data }, { on := 14, ground := Ground.chain }, { on := 14, ground := Ground.guard }], guard := some (14, false) }) (v := undef) rfl (by kernel_rfl) (by kernel_rfl) (by kernel_rfl) (fun _ _ _ h => h) (Or.inr ⟨by rfl, rfl⟩) (by assumption) ?_
          (try simp only [Act.put, qA, qB, qC])
          refine wpAnyH_take (i := 18) (oi := { dst := some 47, op := Op.fieldAddr 42 (Operand.tmp 3) 3, type := 0, pos := "view.go:62", after := #[{ on := 17, ground := Ground.guard }], guard := some (17, true) }) (v := undef) rfl (by kernel_rfl) (by kernel_rfl) (by kernel_rfl) (fun _ _ _ h => h) (Or.inr ⟨by rfl, rfl⟩) (by assumption) ?_
          (try simp only [Act.put, qA, qB, qC])
          refine wpAnyH_take (i := 19) (oi := { dst := some 48, op := Op.fieldAddr 33 (Operand.tmp 47) 1, type := 0, pos := "view.go:62", after := #[{ on := 18, ground := Ground.data }, { on := 17, ground := Ground.guard }], guard := some (17, true) }) (v := undef) rfl (by kernel_rfl) (by kernel_rfl) (by kernel_rfl) (fun _ _ _ h => h) (Or.inr ⟨by rfl, rfl⟩) (by assumption) ?_
          (try simp only [Act.put, qA, qB, qC])
          refine wpAnyH_take (i := 20) (oi := { dst := some 49, op := Op.load 31 (Operand.tmp 48), type := 31, pos := "view.go:62", after := #[{ on := 19, ground := Ground.data }, { on := 17, ground := Ground.guard }], guard := some (17, true) }) (v := undef) rfl (by kernel_rfl) (by kernel_rfl) (by kernel_rfl) (fun _ _ _ h => h) (Or.inr ⟨by rfl, rfl⟩) (by assumption) ?_
          (try simp only [Act.put, qA, qB, qC])
          refine wpAnyH_take (i := 21) (oi := { dst := some 50, op := Op.call { callee := Callee.builtin Builtin.len, args := #[Operand.tmp 49], argTypes := #[31] }, type := 3, pos := "view.go:62", after := #[{ on := 20, ground := Ground.data }, { on := 17, ground := Ground.guard }], guard := some (17, true) }) (v := undef) rfl (by kernel_rfl) (by kernel_rfl) (by kernel_rfl) (fun _ _ _ h => h) (Or.inr ⟨by rfl, rfl⟩) (by assumption) ?_
          (try simp only [Act.put, qA, qB, qC])
          refine wpAnyH_take (i := 22) (oi := { dst := some 51, op := Op.binOp BinOp.gtr 3 (Operand.tmp 50) (Operand.const (Value.int IntKind.i64 0)) 3, type := 4, pos := "view.go:62", after := #[{ on := 21, ground := Ground.data }, { on := 17, ground := Ground.guard }], guard := some (17, true) }) (v := undef) rfl (by kernel_rfl) (by kernel_rfl) (by kernel_rfl) (fun _ _ _ h => h) (Or.inr ⟨by rfl, rfl⟩) (by assumption) ?_
          (try simp only [Act.put, qA, qB, qC])
          refine wpAnyH_take (i := 23) (oi := { dst := some 52, op := Op.pick (Operand.tmp 46) (Operand.tmp 51) (Operand.const (Value.bool false)), type := 4, pos := "view.go:62", after := #[{ on := 17, ground := Ground.data }, { on := 22, ground := Ground.data }, { on := 14, ground := Ground.guard }], guard := some (14, false) }) (v := undef) rfl (by kernel_rfl) (by kernel_rfl) (by kernel_rfl) (fun _ _ _ h => h) (Or.inr ⟨by rfl, rfl⟩) (by assumption) ?_
          (try simp only [Act.put, qA, qB, qC])
          refine wpAnyH_take (i := 24) (oi := { dst := some 53, op := Op.pick (Operand.tmp 43) (Operand.const (Value.bool true)) (Operand.tmp 52), type := 4, pos := "view.go:62", after := #[{ on := 14, ground := Ground.data }, { on := 23, ground := Ground.data }], guard := none }) (v := ?vq24_105) rfl (by kernel_rfl) (by kernel_rfl) (by kernel_rfl) (fun _ _ _ h => h) (Or.inl ⟨by rfl, ?hq24_105⟩) (by assumption) ?_
          case hq24_105 => intro w hSw; (try dsimp only at hSw); go_simp; try (with_reducible rfl)
          (try simp only [Act.put, qA, qB, qC])
          refine wpAnyH_done (by kernel_rfl) ?_ _
          go_wp2_with (go_loud (refine wpList_store_box rfl 46 (.tmp 4) (.tmp 54) rfl (N + 1) 0 rfl (.agg #[.int .i64 0, .string ⟨#[]⟩, .slice none 0 0]) rfl [.int .i64 0, .string ⟨#[]⟩, .slice none 0 0] rfl [.int .i64 0, .string ⟨#[]⟩, .slice none 0 0] 46 (show W3.heap[N + 1]? = _ from HX3.out.2.1) (Nat.le_refl _) (show (Tryz.prog.info? 46).map (·.size) = some 3 by kernel_rfl) ?cz15 (N + 1) (Nat.le_refl _) W3 (Below.refl _ _) ?_))
          try case cz15 => first | exact ⟨rfl, rfl, rfl⟩ | (intro v hv; simp at hv; rcases hv with rfl | rfl | rfl <;> rfl)
          intro WF hb hbx hoth
          have HF := Lib.hid (show Below w.heap.size w WF by rw [← HN.out]; exact HB0.out.trans (((HB2.out.trans (HB3.out.mono HB2.out.size)).mono (by have := blk_lt HX.out.1; omega) : Below N W0 W3).trans (hb.mono (by omega))))
          obtain ⟨f0, f1, f2, ff, fl⟩ := cells3p hbx
          clear hb hbx hoth
          go_wp2
          refine bodyPost_ret (v := .tuple #[.agg #[.int .i64 0, .string ⟨#[]⟩, .slice none 0 0], .int .i64 84]) (by simp [results, Tryz.results120, go_sem, f0, f1, f2]) rfl ⟨HF.out, ?_⟩
          simp only [useO]
          rw [if_pos (by exact Or.inr (Or.inl HC.out.2.symm))]
          rfl
    · have HN0 := Lib.hid hn0
      clear hn0
      go_wp2_with fail
      refine wp_region_held_drew (S := (fun w' => w'.cell? ⟨N, 1, none⟩ = some (.int .i64 n) ∧ w'.cell? ⟨N, 2, none⟩ = some (.bool mv) ∧ w'.cell? ⟨N, 4, none⟩ = some (.slice h.oa np h.cap) ∧ w'.cell? ⟨M, 0, none⟩ = some (.int .i64 k1) ∧ w'.cell? ⟨M, 1, none⟩ = some (.string nm1) ∧ w'.cell? ⟨M, 2, none⟩ = some (.slice h1.oa l1.length h1.cap))) (by kernel_rfl) ?_ (fun hHeld => ?_)
      · exact HP.out
      clear m0 m1 m2 p1 p2 p4 p0 p3
      refine wpAnyH_take (i := 0) (oi := { dst := some 29, op := Op.move (Operand.tmp 8), type := 47, pos := "view.go:62", after := #[], guard := none }) (v := ?vq0_106) rfl (by kernel_rfl) (by kernel_rfl) (by kernel_rfl) (fun _ _ _ h => h) (Or.inl ⟨by rfl, ?hq0_106⟩) (by assumption) ?_
      case hq0_106 => intro w hSw; (try dsimp only at hSw); go_simp; try (with_reducible rfl)
      (try simp only [Act.put, qA, qB, qC])
      refine wpAnyH_take (i := 1) (oi := { dst := some 30, op := Op.binOp BinOp.neq 47 (Operand.tmp 29) (Operand.const (Value.int IntKind.i64 0)) 47, type := 4, pos := "view.go:62", after := #[{ on := 0, ground := Ground.data }], guard := none }) (v := ?vq1_107) rfl (by kernel_rfl) (by kernel_rfl) (by kernel_rfl) (fun _ _ _ h => h) (Or.inl ⟨by rfl, ?hq1_107⟩) (by assumption) ?_
      case hq1_107 => intro w hSw; (try dsimp only at hSw); go_simp; try (with_reducible rfl)
      (try simp only [Act.put, qA, qB, qC])
      refine wpAnyH_take (i := 2) (oi := { dst := some 31, op := Op.move (Operand.tmp 30), type := 4, pos := "view.go:62", after := #[{ on := 1, ground := Ground.data }], guard := none }) (v := ?vq2_108) rfl (by kernel_rfl) (by kernel_rfl) (by kernel_rfl) (fun _ _ _ h => h) (Or.inl ⟨by rfl, ?hq2_108⟩) (by assumption) ?_
      case hq2_108 => intro w hSw; (try dsimp only at hSw); go_simp; try (with_reducible rfl)
      (try simp only [Act.put, qA, qB, qC])
      refine wpAnyH_take (i := 3) (oi := { dst := some 32, op := Op.fieldAddr 42 (Operand.tmp 3) 1, type := 0, pos := "view.go:62", after := #[{ on := 2, ground := Ground.guard }], guard := some (2, false) }) (v := ?vq3_109) rfl (by kernel_rfl) (by kernel_rfl) (by kernel_rfl) (fun _ _ _ h => h) (Or.inl ⟨by rfl, ?hq3_109⟩) (by assumption) ?_
      case hq3_109 => intro w hSw; (try dsimp only at hSw); go_simp; try (with_reducible rfl)
      (try simp only [Act.put, qA, qB, qC])
      refine wpAnyH_take (i := 4) (oi := { dst := some 33, op := Op.load 3 (Operand.tmp 32), type := 3, pos := "view.go:62", after := #[{ on := 3, ground := Ground.data }, { on := 2, ground := Ground.guard }], guard := some (2, false) }) (v := ?vq4_110) rfl (by kernel_rfl) (by kernel_rfl) (by kernel_rfl) (fun _ _ _ h => h) (Or.inl ⟨by rfl, ?hq4_110⟩) (by assumption) ?_
      case hq4_110 => intro w hSw; (try dsimp only at hSw); go_simp; try (with_reducible rfl)
      (try simp only [Act.put, qA, qB, qC])
      refine wpAnyH_take (i := 5) (oi := { dst := some 34, op := Op.binOp BinOp.neq 3 (Operand.tmp 33) (Operand.const (Value.int IntKind.i64 0)) 3, type := 4, pos := "view.go:62", after := #[{ on := 4, ground := Ground.data }, { on := 2, ground := Ground.guard }], guard := some (2, false) }) (v := .bool true) rfl (by kernel_rfl) (by kernel_rfl) (by kernel_rfl) (fun _ _ _ h => h) (Or.inl ⟨by rfl, ?hq5_111⟩) (by assumption) ?_
      case hq5_111 => intro w hSw; (try dsimp only at hSw); go_simp; first | done | (with_reducible rfl) | (have h0 := HN0.out; simp [h0])
      (try simp only [Act.put, qA, qB, qC])
      refine wpAnyH_take (i := 6) (oi := { dst := some 35, op := Op.pick (Operand.tmp 31) (Operand.const (Value.bool true)) (Operand.tmp 34), type := 4, pos := "view.go:62", after := #[{ on := 2, ground := Ground.data }, { on := 5, ground := Ground.data }], guard := none }) (v := ?vq6_112) rfl (by kernel_rfl) (by kernel_rfl) (by kernel_rfl) (fun _ _ _ h => h) (Or.inl ⟨by rfl, ?hq6_112⟩) (by assumption) ?_
      case hq6_112 => intro w hSw; (try dsimp only at hSw); go_simp; try (with_reducible rfl)
      (try simp only [Act.put, qA, qB, qC])
      refine wpAnyH_take (i := 7) (oi := { dst := some 36, op := Op.move (Operand.tmp 35), type := 4, pos := "view.go:62", after := #[{ on := 6, ground := Ground.data }, { on := 2, ground := Ground.chain }], guard := none }) (v := ?vq7_113) rfl (by kernel_rfl) (by kernel_rfl) (by kernel_rfl) (fun _ _ _ h => h) (Or.inl ⟨by rfl, ?hq7_113⟩) (by assumption) ?_
      case hq7_113 => intro w hSw; (try dsimp only at hSw); go_simp; try (with_reducible rfl)
      (try simp only [Act.put, qA, qB, qC])
      refine wpAnyH_take (i := 8) (oi := { dst := some 37, op := Op.fieldAddr 42 (Operand.tmp 3) 2, type := 0, pos := "view.go:62", after := #[{ on := 7, ground := Ground.guard }], guard := some (7, false) }) (v := undef) rfl (by kernel_rfl) (by kernel_rfl) (by kernel_rfl) (fun _ _ _ h => h) (Or.inr ⟨by rfl, rfl⟩) (by assumption) ?_
      (try simp only [Act.put, qA, qB, qC])
      refine wpAnyH_take (i := 10) (oi := { dst := some 39, op := Op.load 46 (Operand.tmp 6), type := 46, pos := "view.go:62", after := #[{ on := 7, ground := Ground.guard }], guard := some (7, false) }) (v := undef) rfl (by kernel_rfl) (by kernel_rfl) (by kernel_rfl) (fun _ _ _ h => h) (Or.inr ⟨by rfl, rfl⟩) (by assumption) ?_
      (try simp only [Act.put, qA, qB, qC])
      refine wpAnyH_take (i := 9) (oi := { dst := some 38, op := Op.load 4 (Operand.tmp 37), type := 4, pos := "view.go:62", after := #[{ on := 8, ground := Ground.data }, { on := 7, ground := Ground.guard }], guard := some (7, false) }) (v := undef) rfl (by kernel_rfl) (by kernel_rfl) (by kernel_rfl) (fun _ _ _ h => h) (Or.inr ⟨by rfl, rfl⟩) (by assumption) ?_
      (try simp only [Act.put, qA, qB, qC])
      refine wpAnyH_take (i := 11) (oi := { dst := some 40, op := Op.call { callee := Callee.value (Operand.func 142), args := #[Operand.tmp 39], argTypes := #[46] }, type := 4, pos := "view.go:62", after := #[{ on := 10, ground := Ground.data }, { on := 7, ground := Ground.chain }, { on := 7, ground := Ground.guard }], guard := some (7, false) }) (v := undef) rfl (by kernel_rfl) (by kernel_rfl) (by kernel_rfl) (fun _ _ _ h => h) (Or.inr ⟨by rfl, rfl⟩) (by assumption) ?_
      (try simp only [Act.put, qA, qB, qC])
      refine wpAnyH_take (i := 12) (oi := { dst := some 41, op := Op.binOp BinOp.eql 4 (Operand.tmp 38) (Operand.tmp 40) 4, type := 4, pos := "view.go:62", after := #[{ on := 9, ground := Ground.data }, { on := 11, ground := Ground.data }, { on := 7, ground := Ground.guard }], guard := some (7, false) }) (v := undef) rfl (by kernel_rfl) (by kernel_rfl) (by kernel_rfl) (fun _ _ _ h => h) (Or.inr ⟨by rfl, rfl⟩) (by assumption) ?_
      (try simp only [Act.put, qA, qB, qC])
      refine wpAnyH_take (i := 13) (oi := { dst := some 42, op := Op.pick (Operand.tmp 36) (Operand.const (Value.bool true)) (Operand.tmp 41), type := 4, pos := "view.go:62", after := #[{ on := 7, ground := Ground.data }, { on := 12, ground := Ground.data }], guard := none }) (v := ?vq13_114) rfl (by kernel_rfl) (by kernel_rfl) (by kernel_rfl) (fun _ _ _ h => h) (Or.inl ⟨by rfl, ?hq13_114⟩) (by assumption) ?_
      case hq13_114 => intro w hSw; (try dsimp only at hSw); go_simp; try (with_reducible rfl)
      (try simp only [Act.put, qA, qB, qC])
      refine wpAnyH_take (i := 14) (oi := { dst := some 43, op := Op.move (Operand.tmp 42), type := 4, pos := "view.go:62", after := #[{ on := 13, ground := Ground.data }, { on := 11, ground := Ground.chain }], guard := none }) (v := ?vq14_115) rfl (by kernel_rfl) (by kernel_rfl) (by kernel_rfl) (fun _ _ _ h => h) (Or.inl ⟨by rfl, ?hq14_115⟩) (by assumption) ?_
      case hq14_115 => intro w hSw; (try dsimp only at hSw); go_simp; try (with_reducible rfl)
      (try simp only [Act.put, qA, qB, qC])
      refine wpAnyH_take (i := 15) (oi := { dst := some 44, op := Op.fieldAddr 42 (Operand.tmp 3) 2, type := 0, pos := "view.go:62", after := #[{ on := 14, ground := Ground.guard }], guard := some (14, false) }) (v := undef) rfl (by kernel_rfl) (by kernel_rfl) (by kernel_rfl) (fun _ _ _ h => h) (Or.inr ⟨by rfl, rfl⟩) (by assumption) ?_
      (try simp only [Act.put, qA, qB, qC])
      refine wpAnyH_take (i := 16) (oi := { dst := some 45, op := Op.load 4 (Operand.tmp 44), type := 4, pos := "view.go:62", after := #[{ on := 15, ground := Ground.data }, { on := 14, ground := Ground.guard }], guard := some (14, false) }) (v := undef) rfl (by kernel_rfl) (by kernel_rfl) (by kernel_rfl) (fun _ _ _ h => h) (Or.inr ⟨by rfl, rfl⟩) (by assumption) ?_
      (try simp only [Act.put, qA, qB, qC])
      refine wpAnyH_take (i := 17) (oi := { dst := some 46, op := Op.move (Operand.tmp 45), type := 4, pos := "view.go:62", after := #[{ on := 16, ground := Ground.data }, { on := 14, ground := Ground.chain }, { on := 14, ground := Ground.guard }], guard := some (14, false) }) (v := undef) rfl (by kernel_rfl) (by kernel_rfl) (by kernel_rfl) (fun _ _ _ h => h) (Or.inr ⟨by rfl, rfl⟩) (by assumption) ?_
      (try simp only [Act.put, qA, qB, qC])
      refine wpAnyH_take (i := 18) (oi := { dst := some 47, op := Op.fieldAddr 42 (Operand.tmp 3) 3, type := 0, pos := "view.go:62", after := #[{ on := 17, ground := Ground.guard }], guard := some (17, true) }) (v := undef) rfl (by kernel_rfl) (by kernel_rfl) (by kernel_rfl) (fun _ _ _ h => h) (Or.inr ⟨by rfl, rfl⟩) (by assumption) ?_
      (try simp only [Act.put, qA, qB, qC])
      refine wpAnyH_take (i := 19) (oi := { dst := some 48, op := Op.fieldAddr 33 (Operand.tmp 47) 1, type := 0, pos := "view.go:62", after := #[{ on := 18, ground := Ground.data }, { on := 17, ground := Ground.guard }], guard := some (17, true) }) (v := undef) rfl (by kernel_rfl) (by kernel_rfl) (by kernel_rfl) (fun _ _ _ h => h) (Or.inr ⟨by rfl, rfl⟩) (by assumption) ?_
      (try simp only [Act.put, qA, qB, qC])
      refine wpAnyH_take (i := 20) (oi := { dst := some 49, op := Op.load 31 (Operand.tmp 48), type := 31, pos := "view.go:62", after := #[{ on := 19, ground := Ground.data }, { on := 17, ground := Ground.guard }], guard := some (17, true) }) (v := undef) rfl (by kernel_rfl) (by kernel_rfl) (by kernel_rfl) (fun _ _ _ h => h) (Or.inr ⟨by rfl, rfl⟩) (by assumption) ?_
      (try simp only [Act.put, qA, qB, qC])
      refine wpAnyH_take (i := 21) (oi := { dst := some 50, op := Op.call { callee := Callee.builtin Builtin.len, args := #[Operand.tmp 49], argTypes := #[31] }, type := 3, pos := "view.go:62", after := #[{ on := 20, ground := Ground.data }, { on := 17, ground := Ground.guard }], guard := some (17, true) }) (v := undef) rfl (by kernel_rfl) (by kernel_rfl) (by kernel_rfl) (fun _ _ _ h => h) (Or.inr ⟨by rfl, rfl⟩) (by assumption) ?_
      (try simp only [Act.put, qA, qB, qC])
      refine wpAnyH_take (i := 22) (oi := { dst := some 51, op := Op.binOp BinOp.gtr 3 (Operand.tmp 50) (Operand.const (Value.int IntKind.i64 0)) 3, type := 4, pos := "view.go:62", after := #[{ on := 21, ground := Ground.data }, { on := 17, ground := Ground.guard }], guard := some (17, true) }) (v := undef) rfl (by kernel_rfl) (by kernel_rfl) (by kernel_rfl) (fun _ _ _ h => h) (Or.inr ⟨by rfl, rfl⟩) (by assumption) ?_
      (try simp only [Act.put, qA, qB, qC])
      refine wpAnyH_take (i := 23) (oi := { dst := some 52, op := Op.pick (Operand.tmp 46) (Operand.tmp 51) (Operand.const (Value.bool false)), type := 4, pos := "view.go:62", after := #[{ on := 17, ground := Ground.data }, { on := 22, ground := Ground.data }, { on := 14, ground := Ground.guard }], guard := some (14, false) }) (v := undef) rfl (by kernel_rfl) (by kernel_rfl) (by kernel_rfl) (fun _ _ _ h => h) (Or.inr ⟨by rfl, rfl⟩) (by assumption) ?_
      (try simp only [Act.put, qA, qB, qC])
      refine wpAnyH_take (i := 24) (oi := { dst := some 53, op := Op.pick (Operand.tmp 43) (Operand.const (Value.bool true)) (Operand.tmp 52), type := 4, pos := "view.go:62", after := #[{ on := 14, ground := Ground.data }, { on := 23, ground := Ground.data }], guard := none }) (v := ?vq24_116) rfl (by kernel_rfl) (by kernel_rfl) (by kernel_rfl) (fun _ _ _ h => h) (Or.inl ⟨by rfl, ?hq24_116⟩) (by assumption) ?_
      case hq24_116 => intro w hSw; (try dsimp only at hSw); go_simp; try (with_reducible rfl)
      (try simp only [Act.put, qA, qB, qC])
      refine wpAnyH_done (by kernel_rfl) ?_ _
      go_wp2_with (go_loud (refine wpList_store_box rfl 46 (.tmp 4) (.tmp 54) rfl (N + 1) 0 rfl (.agg #[.int .i64 0, .string ⟨#[]⟩, .slice none 0 0]) rfl [.int .i64 0, .string ⟨#[]⟩, .slice none 0 0] rfl [.int .i64 0, .string ⟨#[]⟩, .slice none 0 0] 46 (show W2.drew.heap[N + 1]? = _ from HX2.out.2) (Nat.le_refl _) (show (Tryz.prog.info? 46).map (·.size) = some 3 by kernel_rfl) ?cz16 (N + 1) (Nat.le_refl _) W2.drew (Below.refl _ _) ?_))
      try case cz16 => first | exact ⟨rfl, rfl, rfl⟩ | (intro v hv; simp at hv; rcases hv with rfl | rfl | rfl <;> rfl)
      intro WF hb hbx hoth
      have HF := Lib.hid (show Below w.heap.size w WF by rw [← HN.out]; exact HB0.out.trans (((HB2.out.trans (show Below W0.heap.size W2 W2.drew from ⟨rfl, rfl, rfl, Nat.le_refl _, fun _ _ => rfl⟩)).mono (by have := blk_lt HX.out.1; omega) : Below N W0 W2.drew).trans (hb.mono (by omega))))
      obtain ⟨f0, f1, f2, ff, fl⟩ := cells3p hbx
      clear hb hbx hoth
      go_wp2
      refine bodyPost_ret (v := .tuple #[.agg #[.int .i64 0, .string ⟨#[]⟩, .slice none 0 0], .int .i64 84]) (by simp [results, Tryz.results120, go_sem, f0, f1, f2]) rfl ⟨HF.out, ?_⟩
      simp only [useO]
      rw [if_pos (by exact Or.inl HN0.out)]
      rfl
theorem use_any (kf : Nat → Bool) (m : Nat) (s : So5) (b : Bo) (v : Nat) (u : Us) (w : World) (hs : SoH m w s) (hsn : SoN s) (hv : ViewAt w v s b) (hb : BoH m w b) (hu : UsH w u) (hk : ∀ y, w.heap.size ≤ y → kf y = true) (hbk : ∀ lo ∈ b.locals, TyH m (ebp w kf) lo.ty) :
    Calls Tryz.prog 120 #[.pointer (some ⟨v, 0, none⟩), usV u] w fun e w' => Below w.heap.size w w' ∧ UseP kf w' (useR s m b u) e := by
  obtain ⟨num, n, mv, x⟩ := u
  cases num with
  | true => exact use_num kf v n mv x w
  | false => exact use_spot kf m s b v n mv x w hs hsn hv hb hu.2 hk hbk

end Go.Proofs.YtghkbihgdabamaaGreatDoor
