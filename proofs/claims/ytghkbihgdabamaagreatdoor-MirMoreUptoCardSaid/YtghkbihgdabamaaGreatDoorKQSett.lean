/-
  Several texts of the proof in one: QType, QHolds, QSett. No conditions of their own: each lemma states its own.
-/
import Derived.Test.YtghkbihgdabamaaGreatDoorKQSpot
import Derived.Test.YtghkbihgdabamaaGreatDoorKPRules
namespace Go.Proofs.YtghkbihgdabamaaGreatDoor
open Go.RowKit

theorem pal4q (w : World) (a c d e : Obj) : Below w.heap.size w ((((w.alloc a).alloc c).alloc d).alloc e) ∧ ((((w.alloc a).alloc c).alloc d).alloc e).heap[w.heap.size]? = some a ∧ ((((w.alloc a).alloc c).alloc d).alloc e).heap[w.heap.size + 1]? = some c ∧ ((((w.alloc a).alloc c).alloc d).alloc e).heap[w.heap.size + 1 + 1]? = some d ∧ ((((w.alloc a).alloc c).alloc d).alloc e).heap[w.heap.size + 1 + 1 + 1]? = some e := by
  obtain ⟨h1, h2, h3, h4⟩ := pal3 w a c d
  have h5 := alloc_below (((w.alloc a).alloc c).alloc d) e
  have es : (((w.alloc a).alloc c).alloc d).heap.size = w.heap.size + 1 + 1 + 1 := by simp
  refine ⟨h1.trans (h5.mono h1.size), (h5.block _ (blk_lt h2)).trans h2, (h5.block _ (blk_lt h3)).trans h3, (h5.block _ (blk_lt h4)).trans h4, ?_⟩
  rw [← es]
  exact heap_alloc_new _ _
theorem tyN_er : ∀ t, tyN (erTy t) = tyN t
  | .mk k nm h l => by rw [erTy, tyN, tyN, tysN_er l]
where tysN_er : ∀ l, tysN (erTys l) = tysN l
  | [] => by rw [erTys]
  | x :: l => by rw [erTys, tysN, tysN, tyN_er x, tysN_er l]
theorem resO_tyN (s : So5) : ∀ (n : Nat) (x : Ty5), tyN (resO s n x).2 ≤ tyN x
  | 0, x => by
    have := tyN_pos x
    rw [resO]
    show tyN ty0 ≤ _
    rw [ty0, tyN, tysN]
    omega
  | n + 1, .mk k nm h l => by
    rw [resO]
    split
    · cases ho : oneT l with
      | none =>
        have := tyN_pos (.mk k nm h l)
        show tyN ty0 ≤ _
        rw [ty0, tyN, tysN]
        omega
      | some x =>
        rw [oneT_some ho]
        have := resO_tyN s n x
        show tyN (.mk k nm h0 [(resO s n x).2]) ≤ _
        rw [tyN, tyN, tysN, tysN, tysN, tysN]
        omega
    · show tyN (.mk _ nm h0 (erTys l)) ≤ _
      rw [tyN, tyN, tyN_er.tysN_er l]
      exact Nat.le_refl _
theorem intoR_tyN {s : So5} (hs : SoN s) {n : Nat} {t t' : Ty5} {z : Int} (h : intoR s n t z = some t') (ht : tyN t ≤ 1000000) : tyN t' ≤ 1000000 := by
  obtain ⟨k, nm, hh, l⟩ := t
  simp only [intoR] at h
  split at h
  · split at h
    · cases l with
      | nil => cases h
      | cons x l =>
        simp only [List.head?_cons, Option.map_some, Option.some.injEq] at h
        rw [← h, tyN_er]
        rw [tyN, tysN] at ht
        omega
    · cases h
  · split at h
    · cases h
    · split at h
      · cases h
      · split at h
        · rename_i x hx
          split at h
          · unfold fieldT at h
            split at h
            · rename_i f hf
              split at h
              · rw [← Option.some.inj h]
                exact Nat.le_trans (resO_tyN s n f.ty) (hs.1 x (List.mem_of_getElem? hx) f (List.mem_of_getElem? hf))
              · cases h
            · cases h
          · cases h
        · cases h
theorem pathR2_tyN {s : So5} (hs : SoN s) {n : Nat} : ∀ (l : List Int) (t : Ty5) (sh : Bool) (r : Ty5 × Bool), tyN t ≤ 1000000 → pathR2 s n t sh l = some r → tyN r.1 ≤ 1000000
  | [], t, sh, r, ht, h => by
    rw [pathR2] at h
    rw [← Option.some.inj h]
    exact ht
  | z :: l, t, sh, r, ht, h => by
    rw [pathR2] at h
    cases hi : intoR s n t z with
    | none => rw [hi] at h; cases h
    | some t' =>
      rw [hi] at h
      exact pathR2_tyN hs l t' _ r (intoR_tyN hs hi ht) h
/-- no local's type is too large -/
def BoN (b : Bo) : Prop := ∀ lo ∈ b.locals, tyN lo.ty ≤ 1000000
theorem spotR_tyN {s : So5} (hs : SoN s) {b : Bo} (hb : BoN b) {n : Nat} {x : Sp} {r : Ty5 × Bool} (h : spotR s n b x = some r) : tyN r.1 ≤ 1000000 := by
  unfold spotR at h
  split at h
  · split at h
    · rename_i lo hlo
      exact pathR2_tyN hs _ _ _ _ (by rw [tyN_er]; exact hb lo (List.mem_of_getElem? hlo)) h
    · cases h
  · cases h
/-- what a spot's type, and the like, are by what is read of it -/
def TyR (y : Ty5) (sh : Bool) (er : Int) : Option (Ty5 × Bool) → Prop
  | some r => erTy y = r.1 ∧ sh = r.2 ∧ er = 0
  | none => erTy y = ty0 ∧ sh = false ∧ er = 84
theorem TyR.er {y z : Ty5} {sh : Bool} {er : Int} {R : Option (Ty5 × Bool)} (h : TyR y sh er R) (he : erTy z = erTy y) : TyR z sh er R := by
  cases R with
  | none => exact ⟨he.trans h.1, h.2⟩
  | some r => exact ⟨he.trans h.1, h.2⟩
/-- what Type answers -/
def TypeP (B : Nat) (w' : World) (R : Option (Ty5 × Bool)) (e : Ending) : Prop := ∃ y sh er f, e = .returned (.tuple #[tyV y, .bool sh, .int .i64 er]) ∧ TyH f (eb w' B none) y ∧ TyR y sh er R
theorem SpotP.val {w' : World} {R : Option (Ty5 × Bool)} {e : Ending} (h : SpotP w' R e) : ∃ y sh er f, e = .returned (.tuple #[tyV y, .bool sh, .int .i64 er]) ∧ TyH f w' y ∧ TyR y sh er R := by
  cases R with
  | none => exact ⟨ty0, false, 84, 1, h, ⟨by unfold I64; omega, Row.nil _ _ _ _⟩, rfl, rfl, rfl⟩
  | some r =>
    obtain ⟨y, h1, h2, f, h3⟩ := h
    exact ⟨y, r.2, 0, f, h1, h3, h2, rfl, rfl⟩
set_option maxRecDepth 100000 in
set_option maxHeartbeats 40000000 in
theorem type_any (n : Nat) (s : So5) (b : Bo) (x : Sp) (w : World) (hs : SoH n w s) (hsn : SoN s) (hb : BoH n w b) (hbn : BoN b) (hx : SpH w x) :
    Calls Tryz.prog 11 #[soV s, boV b, spV x] w fun e w' => Below w.heap.size w w' ∧ TypeP w.heap.size w' (spotR s n b x) e := by
  obtain ⟨R, hR⟩ : ∃ R, R = spotR s n b x := ⟨_, rfl⟩
  rw [← hR]
  have HSP := Lib.hid (show ∀ v W, Below w.heap.size w W → ViewAt W v s b → Calls Tryz.prog 24 #[.pointer (some ⟨v, 0, none⟩), spV x] W fun e w' => Below W.heap.size W w' ∧ SpotP w' R e from fun v W hW hv => by
    rw [hR]
    exact spot_any n s b v x W (SoH.below hs hW) hsn hv (BoH.below hb hW) (SpH.below hx hW))
  have HTN := Lib.hid (show ∀ r, R = some r → tyN r.1 ≤ 1000000 from fun r hr => spotR_tyN hsn hbn (hR.symm.trans hr))
  obtain ⟨loc, ph, path⟩ := x
  have hbv : boV b = .agg #[.string b.nm, .int .i64 b.params, .slice b.hl.oa b.locals.length b.hl.cap, .slice b.hb.oa b.blocks.length b.hb.cap] := by cases b; rfl
  rw [soV_hd, hbv]
  simp only [spV, spC] at HSP ⊢
  obtain ⟨W0, hW⟩ : ∃ W, W = (((w.alloc (.cells #[.slice s.hs.oa s.structs.length s.hs.cap, .slice s.he.oa s.enums.length s.he.cap, .slice s.hf.oa s.fns.length s.hf.cap] 26)).alloc (.cells #[.string b.nm, .int .i64 b.params, .slice b.hl.oa b.locals.length b.hl.cap, .slice b.hb.oa b.blocks.length b.hb.cap] 30)).alloc (.cells #[.int .i64 loc, .slice ph.oa path.length ph.cap] 33)).alloc (.cells #[.int .i64 0, .string ⟨#[]⟩, .slice none 0 0] 46) := ⟨_, rfl⟩
  obtain ⟨hb0, hx0, hx1, hx2, hx3⟩ := pal4q w (.cells #[.slice s.hs.oa s.structs.length s.hs.cap, .slice s.he.oa s.enums.length s.he.cap, .slice s.hf.oa s.fns.length s.hf.cap] 26) (.cells #[.string b.nm, .int .i64 b.params, .slice b.hl.oa b.locals.length b.hl.cap, .slice b.hb.oa b.blocks.length b.hb.cap] 30) (.cells #[.int .i64 loc, .slice ph.oa path.length ph.cap] 33) (.cells #[.int .i64 0, .string ⟨#[]⟩, .slice none 0 0] 46)
  rw [← hW] at hb0 hx0 hx1 hx2 hx3
  obtain ⟨N, hN⟩ : ∃ N, N = w.heap.size := ⟨_, rfl⟩
  rw [← hN] at hx0 hx1 hx2 hx3
  have HX := Lib.hid (And.intro hx0 (And.intro hx1 (And.intro hx2 hx3)))
  have HN := Lib.hid hN
  have HB0 := Lib.hid hb0
  clear hs hsn hb hbn hx hbv hx0 hx1 hx2 hx3 hb0 hR
  go_enter Tryz.func11, Tryz.ntmps11
  go_upto_region 1 with fail
  rw [← hW]
  clear hW
  try simp only [← hN]
  clear hN
  obtain ⟨z0, z1, z2, zf, zl⟩ := cells3p HX.out.1
  obtain ⟨y0, y1, y2, y3, yf, yl⟩ := cells4p HX.out.2.1
  obtain ⟨p0, p1, pf, pl⟩ := cells2p HX.out.2.2.1
  have HV := Lib.hid (show ViewAt (W0.alloc (.cells #[.slice s.hs.oa s.structs.length s.hs.cap, .slice s.he.oa s.enums.length s.he.cap, .slice s.hf.oa s.fns.length s.hf.cap, .string b.nm, .int .i64 b.params, .slice b.hl.oa b.locals.length b.hl.cap, .slice b.hb.oa b.blocks.length b.hb.cap] 87)) W0.heap.size s b from heap_alloc_new _ _)
  have HBV := Lib.hid (alloc_below W0 (.cells #[.slice s.hs.oa s.structs.length s.hs.cap, .slice s.he.oa s.enums.length s.he.cap, .slice s.hf.oa s.fns.length s.hf.cap, .string b.nm, .int .i64 b.params, .slice b.hl.oa b.locals.length b.hl.cap, .slice b.hb.oa b.blocks.length b.hb.cap] 87))
  have p0' : (W0.alloc (.cells #[.slice s.hs.oa s.structs.length s.hs.cap, .slice s.he.oa s.enums.length s.he.cap, .slice s.hf.oa s.fns.length s.hf.cap, .string b.nm, .int .i64 b.params, .slice b.hl.oa b.locals.length b.hl.cap, .slice b.hb.oa b.blocks.length b.hb.cap] 87)).cell? ⟨N + 1 + 1, 0, none⟩ = some (.int .i64 loc) := (World.cell?_of_block (HBV.out.block (N + 1 + 1) pl)).trans p0
  have p1' : (W0.alloc (.cells #[.slice s.hs.oa s.structs.length s.hs.cap, .slice s.he.oa s.enums.length s.he.cap, .slice s.hf.oa s.fns.length s.hf.cap, .string b.nm, .int .i64 b.params, .slice b.hl.oa b.locals.length b.hl.cap, .slice b.hb.oa b.blocks.length b.hb.cap] 87)).cell? ⟨N + 1 + 1, 1, none⟩ = some (.slice ph.oa path.length ph.cap) := (World.cell?_of_block (HBV.out.block (N + 1 + 1) pl)).trans p1
  go_upto_region 2 with
    (first
      | (go_loud (go_at_call 24; refine (HSP.out W0.heap.size _ (HB0.out.trans (HBV.out.mono HB0.out.size)) HV.out).mono ?_; rintro e W1 ⟨hb1, hp1⟩; obtain ⟨⟨k1, nm1, h1, l1⟩, sh, er, f, rfl, ht1, hr1⟩ := hp1.val; simp only [tyV, tyC]; have HB1 := Lib.hid (show Below W0.heap.size W0 W1 from HBV.out.trans (hb1.mono (by simp))); have HT1 := Lib.hid (And.intro ht1 hr1); clear hb1 hp1 ht1 hr1))
      | (refine wpList_store_box rfl 46 (.tmp 9) (.tmp 19) rfl W1.heap.size 0 rfl (.agg #[.int .i64 k1, .string nm1, .slice h1.oa l1.length h1.cap]) rfl [.int .i64 k1, .string nm1, .slice h1.oa l1.length h1.cap] rfl [.int .i64 0, .string ⟨#[]⟩, .slice none 0 0] 46 (heap_alloc_new W1 (.cells #[.int .i64 0, .string ⟨#[]⟩, .slice none 0 0] 46)) (Nat.le_refl _) (show (Tryz.prog.info? 46).map (·.size) = some 3 by kernel_rfl) ?ca1 W1.heap.size (Nat.le_refl _) (W1.alloc (.cells #[.int .i64 0, .string ⟨#[]⟩, .slice none 0 0] 46)) (Below.refl _ _) ?_; rotate_left; intro W2 hb2 hbx hoth))
  try case ca1 => first | exact ⟨rfl, rfl, rfl⟩ | (intro v hv; simp at hv; rcases hv with rfl | rfl | rfl <;> rfl)
  have hb12 : Below W1.heap.size W1 W2 := (alloc_below W1 (.cells #[.int .i64 0, .string ⟨#[]⟩, .slice none 0 0] 46)).trans hb2
  have HB2 := Lib.hid (HB1.out.trans (hb12.mono HB1.out.size))
  have HT2 := Lib.hid (TyH.below f HT1.out.1 hb12)
  obtain ⟨m0, m1, m2, mf, ml⟩ := cells3p hbx
  clear hb2 hbx hoth hb12 z0 z1 z2 zf zl y0 y1 y2 y3 yf yl p0 p1 pf pl p0' p1'
  have htn : tyN (.mk k1 nm1 h1 l1) ≤ 1000000 := by
    have h1 := HT1.out.2
    cases R with
    | none =>
      rw [← tyN_er, h1.1, ty0, tyN, tysN]
      omega
    | some r =>
      rw [← tyN_er, h1.1]
      exact HTN.out r rfl
  have hcp := copied_any f (.mk k1 nm1 h1 l1) W2 HT2.out htn
  simp only [tyV, tyC] at hcp
  have HCP := Lib.hid hcp
  clear hcp htn
  go_wp2_with
    (first
      | (go_at_call 25; refine HCP.out.mono ?_; rintro e W3 ⟨⟨k2, nm2, h2, l2⟩, rfl, hb3, he3, hy3⟩; simp only [tyC]; have HB3 := Lib.hid (HB2.out.trans (hb3.mono HB2.out.size)); have HY3 := Lib.hid (And.intro he3 hy3); have HS3 := Lib.hid hb3.size; clear hb3 he3 hy3)
      | (refine wpList_store_box rfl 46 (.tmp 6) (.tmp 23) rfl (N + 1 + 1 + 1) 0 rfl (.agg #[.int .i64 k2, .string nm2, .slice h2.oa l2.length h2.cap]) rfl [.int .i64 k2, .string nm2, .slice h2.oa l2.length h2.cap] rfl [.int .i64 0, .string ⟨#[]⟩, .slice none 0 0] 46 ((HB3.out.block (N + 1 + 1 + 1) (blk_lt HX.out.2.2.2)).trans HX.out.2.2.2) (Nat.le_refl _) (show (Tryz.prog.info? 46).map (·.size) = some 3 by kernel_rfl) ?ca2 (N + 1 + 1 + 1) (Nat.le_refl _) W3 (Below.refl _ _) ?_))
  try case ca2 => first | exact ⟨rfl, rfl, rfl⟩ | (intro v hv; simp at hv; rcases hv with rfl | rfl | rfl <;> rfl)
  intro WF hb hbx hoth
  have HF := Lib.hid (And.intro hb hoth)
  obtain ⟨f0, f1, f2, ff, fl⟩ := cells3p hbx
  clear hb hbx hoth m0 m1 m2 mf ml
  go_wp2
  refine bodyPost_ret (v := .tuple #[.agg #[.int .i64 k2, .string nm2, .slice h2.oa l2.length h2.cap], .bool sh, .int .i64 er]) (by simp [results, Tryz.results11, go_sem, f0, f1, f2]) rfl ⟨(HB0.out.trans (HB3.out.mono HB0.out.size)).trans (HF.out.1.mono (by have := HN.out; omega)), .mk k2 nm2 h2 l2, sh, er, f, rfl, ?_, ?_⟩
  · refine TyH.und f _ _ _ (eb_und HF.out.1.size fun y hy h1 h2 => ⟨?_, h2, HF.out.2 y ?_⟩) HY3.out.2
    · have := HB0.out.size; have := HB2.out.size; omega
    · have h3 := blk_lt HX.out.2.2.2
      have := HB2.out.size
      omega
  · exact HT1.out.2.er HY3.out.1

end Go.Proofs.YtghkbihgdabamaaGreatDoor

namespace Go.Proofs.YtghkbihgdabamaaGreatDoor
open Go.RowKit

mutual
def holdsT : Ty5 → Bool
  | .mk k _ _ l => k == 5 || (k == 6 || holdsTs l)
def holdsTs : List Ty5 → Bool
  | [] => false
  | x :: l => holdsT x || holdsTs l
end
theorem holdsTs_any : ∀ l, holdsTs l = l.any holdsT
  | [] => by rw [holdsTs]; rfl
  | x :: l => by rw [holdsTs, holdsTs_any l]; rfl
def copiesT : Ty5 → Bool
  | .mk k _ _ _ => k == 0 || (k == 1 || k == 5)

set_option maxRecDepth 100000 in
set_option maxHeartbeats 4000000 in
theorem idxTy_any (F : Nat) (hE : ∀ args w, (callFunc F args).run Tryz.prog w = .ok (.enter F args) w) (g : Ty5 → Bool) (P : World → Ty5 → Prop) (hPb : ∀ w w' x, P w x → Below w.heap.size w w' → P w' x)
    (w : World) (hF : ∀ x W, P W x → Below w.heap.size w W → Calls Tryz.prog F #[tyV x]  W fun e w' => e = .returned (.bool (g x)) ∧ Below W.heap.size W w')
    (ha : Hd) (la : List Ty5) (hA : Row w ha 3 la tyC (P w)) :
    Calls Tryz.prog 123 #[.slice ha.oa la.length ha.cap, .func (.func F) #[] #[]] w fun e w' => e = .returned (.int .i64 (fiO g la 0)) ∧ Below w.heap.size w w' := by
  obtain ⟨oa, capa⟩ := ha
  obtain ⟨ha1, ha2, ha3, ha4⟩ := hA
  dsimp only at ha1 ha2 ha3 ⊢
  unfold maxLen at ha2
  replace ha3 := Lib.hid ha3
  replace ha4 := Lib.hid ha4
  replace hF := Lib.hid hF
  replace hPb := Lib.hid hPb
  obtain ⟨R, hR⟩ : ∃ R, R = fiO g la 0 := ⟨_, rfl⟩
  rw [← hR]
  replace hR := Lib.hid hR
  go_enter Tryz.func123, Tryz.ntmps123
  go_wp2_with fail
  go_loopw [8] (fun u wr => ∃ j : Nat, j ≤ la.length ∧ u = .int .i64 j ∧ fiO g (la.drop j) j = R ∧ Below w.heap.size w wr) (fun u _ => la.length - (intOf u).toNat)
  case atStart => exact ⟨0, by omega, rfl, by simpa using hR.out.symm, Below.refl _ _⟩
  case round =>
    obtain ⟨j, hj, rfl, hs, hbw⟩ := hrel
    have HS := Lib.hid hs
    clear hs
    by_cases hjl : j < la.length
    · have t1 : decide ((j : Int) < la.length) = true := by simp; omega
      obtain ⟨ba, offa, rfl, hxlt, hxc⟩ := ha3.out (by omega)
      obtain ⟨x, hx⟩ : ∃ x, la[j]? = some x := ⟨_, List.getElem?_eq_getElem hjl⟩
      have hdx : la.drop j = x :: la.drop (j + 1) := by rw [List.drop_eq_getElem_cons hjl]; rw [List.getElem?_eq_getElem hjl] at hx; rw [Option.some.inj hx]
      have HD := Lib.hid (show fiO g (x :: la.drop (j + 1)) j = R by rw [← HS.out, hdx])
      have hpx := hPb.out _ _ _ (ha4.out x (List.mem_of_getElem? hx)) hbw
      have hcall : ∀ W, Below wr.heap.size wr W → Calls Tryz.prog F #[tyV x]  W fun e w' => e = .returned (.bool (g x)) ∧ Below W.heap.size W w' := fun W hW => hF.out x W (hPb.out _ _ _ hpx hW) (hbw.trans (hW.mono hbw.size))
      clear hpx hdx
      cases hbv : g x with
      | true =>
        have HR := Lib.hid (show (j : Int) = R by rw [← HD.out, fiO_yes hbv])
        rw [hbv] at hcall
        clear hbv
        obtain ⟨k1, nm1, h1, l1⟩ := x
        simp only [tyV, tyC] at hcall
        replace hcall := Lib.hid hcall
        have gx0 : wr.cell? ⟨ba, offa + j * 3, none⟩ = some (.int .i64 k1) := (hbw.cell (p := ⟨ba, offa + j * 3, none⟩) hxlt).trans (by simpa using hxc j _ hx 0 _ rfl)
        have gx1 : wr.cell? ⟨ba, offa + j * 3 + 1, none⟩ = some (.string nm1) := (hbw.cell (p := ⟨ba, offa + j * 3 + 1, none⟩) hxlt).trans (by simpa using hxc j _ hx 1 _ rfl)
        have gx2 : wr.cell? ⟨ba, offa + j * 3 + 2, none⟩ = some (.slice h1.oa l1.length h1.cap) := (hbw.cell (p := ⟨ba, offa + j * 3 + 2, none⟩) hxlt).trans (by simpa using hxc j _ hx 2 _ rfl)
        clear hx hxc
        have hsz := hbw.size
        go_wp2_with (go_at_fn F; refine (hcall.out _ (Below.refl _ _)).mono ?_; rintro e w1 ⟨rfl, hb1⟩; have B1 := Lib.hid hb1; clear hb1)
        go_ret
        exact ⟨by rw [← HR.out]; rfl, hbw.trans (B1.out.mono hbw.size)⟩
      | false =>
        have HR := Lib.hid (show fiO g (la.drop (j + 1)) (j + 1) = R by rw [← HD.out, fiO_no hbv])
        rw [hbv] at hcall
        clear hbv
        obtain ⟨k1, nm1, h1, l1⟩ := x
        simp only [tyV, tyC] at hcall
        replace hcall := Lib.hid hcall
        have gx0 : wr.cell? ⟨ba, offa + j * 3, none⟩ = some (.int .i64 k1) := (hbw.cell (p := ⟨ba, offa + j * 3, none⟩) hxlt).trans (by simpa using hxc j _ hx 0 _ rfl)
        have gx1 : wr.cell? ⟨ba, offa + j * 3 + 1, none⟩ = some (.string nm1) := (hbw.cell (p := ⟨ba, offa + j * 3 + 1, none⟩) hxlt).trans (by simpa using hxc j _ hx 1 _ rfl)
        have gx2 : wr.cell? ⟨ba, offa + j * 3 + 2, none⟩ = some (.slice h1.oa l1.length h1.cap) := (hbw.cell (p := ⟨ba, offa + j * 3 + 2, none⟩) hxlt).trans (by simpa using hxc j _ hx 2 _ rfl)
        clear hx hxc
        have hsz := hbw.size
        go_wp2_with (go_at_fn F; refine (hcall.out _ (Below.refl _ _)).mono ?_; rintro e w1 ⟨rfl, hb1⟩; have B1 := Lib.hid hb1; clear hb1)
        go_roundw
        case rel => exact ⟨j + 1, by omega, by go_num, HR.out, hbw.trans (B1.out.mono hbw.size)⟩
        case measure => simp [intOf]; omega
    · have t1 : decide ((j : Int) < la.length) = false := by simp; omega
      obtain rfl : j = la.length := by omega
      have HZ := Lib.hid (show (-1 : Int) = R by rw [← HS.out, List.drop_length]; rfl)
      go_wp2
      go_ret
      exact ⟨by rw [← HZ.out]; first | done | rfl, hbw⟩

set_option maxRecDepth 100000 in
set_option maxHeartbeats 4000000 in
theorem contTy_any (F : Nat) (hE : ∀ args w, (callFunc F args).run Tryz.prog w = .ok (.enter F args) w) (g : Ty5 → Bool) (P : World → Ty5 → Prop) (hPb : ∀ w w' x, P w x → Below w.heap.size w w' → P w' x)
    (w : World) (hF : ∀ x W, P W x → Below w.heap.size w W → Calls Tryz.prog F #[tyV x] W fun e w' => e = .returned (.bool (g x)) ∧ Below W.heap.size W w')
    (ha : Hd) (la : List Ty5) (hA : Row w ha 3 la tyC (P w)) :
    Calls Tryz.prog 93 #[.slice ha.oa la.length ha.cap, .func (.func F) #[] #[]] w fun e w' => e = .returned (.bool (la.any g)) ∧ Below w.heap.size w w' := by
  have hc := idxTy_any F hE g P hPb w hF ha la hA
  obtain ⟨R, hR⟩ : ∃ R, R = fiO g la 0 := ⟨_, rfl⟩
  rw [← hR] at hc
  have HC := Lib.hid hc
  clear hc hF hPb hE
  have hs := fiO_spec (g := g) la 0
  rw [← hR] at hs
  rcases hs with ⟨h1, h2⟩ | ⟨i, x, h1, h2, h3, -⟩
  · have hz : la.any g = false := by
      rw [List.any_eq_false]
      intro x hx
      rw [h2 x hx]
      decide
    rw [hz]
    clear h2 hz hR hA
    rw [h1] at HC
    clear h1
    go_enter Tryz.func93, Tryz.ntmps93
    go_wp2_with (go_at_call 123; refine HC.out.mono ?_; rintro e w1 ⟨rfl, hb1⟩; have HB1 := Lib.hid hb1; clear hb1)
    go_ret
    exact ⟨rfl, HB1.out⟩
  · have hz : la.any g = true := by
      rw [List.any_eq_true]
      exact ⟨x, List.mem_of_getElem? h1, h2⟩
    rw [hz]
    obtain ⟨j, hj⟩ : ∃ j : Nat, 0 + i = j := ⟨_, rfl⟩
    rw [hj] at h3
    rw [h3] at HC
    have t1 : decide ((j : Int) ≥ 0) = true := by simp
    clear h1 h2 h3 hz hR hA hj
    go_enter Tryz.func93, Tryz.ntmps93
    go_wp2_with (go_at_call 123; refine HC.out.mono ?_; rintro e w1 ⟨rfl, hb1⟩; have HB1 := Lib.hid hb1; clear hb1)
    go_ret
    exact ⟨rfl, HB1.out⟩
theorem entersHo : ∀ args w, (callFunc 94 args).run Tryz.prog w = .ok (.enter 94 args) w := enters_of Tryz.func94 (by kernel_rfl) rfl
set_option maxRecDepth 100000 in
set_option maxHeartbeats 4000000 in
theorem holds_any : ∀ (n : Nat) (x : Ty5) (w : World), TyH n w x → Calls Tryz.prog 94 #[tyV x] w fun e w' => e = .returned (.bool (holdsT x)) ∧ Below w.heap.size w w'
  | 0, _, _, h => h.elim
  | n + 1, .mk k nm h l, w, hx => by
    obtain ⟨-, hrow⟩ := hx
    have hc : ∀ W, Below w.heap.size w W → Calls Tryz.prog 93 #[.slice h.oa l.length h.cap, .func (.func 94) #[] #[]] W fun e w' => e = .returned (.bool (l.any holdsT)) ∧ Below W.heap.size W w' := fun W hW =>
      contTy_any 94 entersHo holdsT (TyH n) (fun _ _ _ h hb => TyH.below n h hb) W (fun y V hy _ => holds_any n y V hy) h l (Row.below hrow hW fun _ _ hy => TyH.below n hy hW)
    obtain ⟨b, hb⟩ : ∃ b, b = l.any holdsT := ⟨_, rfl⟩
    rw [← hb] at hc
    have HC := Lib.hid hc
    rw [holdsT, holdsTs_any, ← hb]
    clear hc hrow hb
    simp only [tyV, tyC]
    by_cases k5 : k = 5
    · subst k5
      go_enter Tryz.func94, Tryz.ntmps94
      go_wp2
      go_ret
      exact ⟨rfl, (Below.refl _ _).alloc (Nat.le_refl _) _⟩
    have e5 : (k == 5) = false := by simpa using k5
    rw [e5]
    by_cases k6 : k = 6
    · subst k6
      go_enter Tryz.func94, Tryz.ntmps94
      go_wp2
      go_ret
      exact ⟨rfl, (Below.refl _ _).alloc (Nat.le_refl _) _⟩
    have e6 : (k == 6) = false := by simpa using k6
    rw [e6]
    clear k5 k6
    simp only [Bool.false_or]
    go_enter Tryz.func94, Tryz.ntmps94
    go_wp2_with (go_at_call 93; refine (HC.out _ ((Below.refl _ _).alloc (Nat.le_refl _) _)).mono ?_; rintro e w1 ⟨rfl, hb1⟩; have B1 : Below w.heap.size w w1 := ((Below.refl _ _).alloc (Nat.le_refl _) _).trans (hb1.mono (by simp)); clear hb1; replace B1 := Lib.hid B1)
    go_ret
    exact ⟨rfl, B1.out⟩
set_option maxRecDepth 100000 in
theorem copies_any (x : Ty5) (w : World) : Calls Tryz.prog 142 #[tyV x] w fun e w' => e = .returned (.bool (copiesT x)) ∧ Below w.heap.size w w' := by
  obtain ⟨k, nm, h, l⟩ := x
  simp only [tyV, tyC, copiesT]
  cases e0 : (k == 0) with
  | true =>
    go_enter Tryz.func142, Tryz.ntmps142
    go_wp2
    go_ret
    exact ⟨rfl, (Below.refl _ _).alloc (Nat.le_refl _) _⟩
  | false =>
    cases e1 : (k == 1) with
    | true =>
      go_enter Tryz.func142, Tryz.ntmps142
      go_wp2
      go_ret
      exact ⟨rfl, (Below.refl _ _).alloc (Nat.le_refl _) _⟩
    | false =>
      cases e5 : (k == 5) with
      | true =>
        go_enter Tryz.func142, Tryz.ntmps142
        go_wp2
        go_ret
        exact ⟨rfl, (Below.refl _ _).alloc (Nat.le_refl _) _⟩
      | false =>
        go_enter Tryz.func142, Tryz.ntmps142
        go_wp2
        go_ret
        exact ⟨rfl, (Below.refl _ _).alloc (Nat.le_refl _) _⟩

end Go.Proofs.YtghkbihgdabamaaGreatDoor

namespace Go.Proofs.YtghkbihgdabamaaGreatDoor
open Go.RowKit

theorem numB_er : ∀ t, numB (erTy t) = numB t
  | .mk k nm h l => by rw [erTy]; rfl
theorem copiesT_er : ∀ t, copiesT (erTy t) = copiesT t
  | .mk k nm h l => by rw [erTy]; rfl
def settB : Option (Ty5 × Bool) → Bool
  | some r => numB r.1 && !r.2
  | none => false
set_option maxRecDepth 100000 in
set_option maxHeartbeats 40000000 in
theorem isSettable_any (n : Nat) (s : So5) (b : Bo) (v : Nat) (x : Sp) (w : World) (hs : SoH n w s) (hsn : SoN s) (hv : ViewAt w v s b) (hb : BoH n w b) (hx : SpH w x) : Calls Tryz.prog 125 #[.pointer (some ⟨v, 0, none⟩), spV x] w fun e w' => e = .returned (.bool (settB (spotR s n b x))) ∧ Below w.heap.size w w' := by
  obtain ⟨R, hR⟩ : ∃ R, R = spotR s n b x := ⟨_, rfl⟩
  rw [← hR]
  have HSP := Lib.hid (show ∀ W, Below w.heap.size w W → Calls Tryz.prog 24 #[.pointer (some ⟨v, 0, none⟩), spV x] W fun e w' => Below W.heap.size W w' ∧ SpotP w' R e from fun W hW => by
    rw [hR]
    exact spot_any n s b v x W (SoH.below hs hW) hsn (hv.below hW) (BoH.below hb hW) (SpH.below hx hW))
  obtain ⟨loc, ph, path⟩ := x
  simp only [spV, spC] at HSP ⊢
  obtain ⟨W0, hW⟩ : ∃ W, W = w.alloc (.cells #[.int .i64 loc, .slice ph.oa path.length ph.cap] 33) := ⟨_, rfl⟩
  have hb0 : Below w.heap.size w W0 := by rw [hW]; exact alloc_below _ _
  have hx0 : W0.heap[w.heap.size]? = some (.cells #[.int .i64 loc, .slice ph.oa path.length ph.cap] 33) := by rw [hW]; exact heap_alloc_new _ _
  obtain ⟨N, hN⟩ : ∃ N, N = w.heap.size := ⟨_, rfl⟩
  rw [← hN] at hx0
  have HB0 := Lib.hid hb0
  clear hs hsn hv hb hx hb0 hR
  go_enter Tryz.func125, Tryz.ntmps125
  go_upto_region 1 with fail
  rw [← hW]
  clear hW
  try simp only [← hN]
  clear hN
  obtain ⟨p0, p1, pf, pl⟩ := cells2p hx0
  go_upto_region 2 with
    (first
      | (go_loud (go_at_call 24; refine (HSP.out W0 HB0.out).mono ?_; rintro e W1 ⟨hb1, hp1⟩; obtain ⟨⟨k1, nm1, h1, l1⟩, sh, er, f, rfl, ht1, hr1⟩ := hp1.val; simp only [tyV, tyC]; have HB1 := Lib.hid (HB0.out.trans (hb1.mono HB0.out.size)); have HS1 := Lib.hid hb1; have HT1 := Lib.hid (And.intro ht1 hr1); clear hb1 hp1 ht1 hr1))
      | (refine wpList_store_box rfl 46 (.tmp 5) (.tmp 12) rfl W1.heap.size 0 rfl (.agg #[.int .i64 k1, .string nm1, .slice h1.oa l1.length h1.cap]) rfl [.int .i64 k1, .string nm1, .slice h1.oa l1.length h1.cap] rfl [.int .i64 0, .string ⟨#[]⟩, .slice none 0 0] 46 (heap_alloc_new W1 (.cells #[.int .i64 0, .string ⟨#[]⟩, .slice none 0 0] 46)) (Nat.le_refl _) (show (Tryz.prog.info? 46).map (·.size) = some 3 by kernel_rfl) ?ca1 W1.heap.size (Nat.le_refl _) (W1.alloc (.cells #[.int .i64 0, .string ⟨#[]⟩, .slice none 0 0] 46)) (Below.refl _ _) ?_; rotate_left; intro W2 hb2 hbx hoth))
  try case ca1 => first | exact ⟨rfl, rfl, rfl⟩ | (intro v hv; simp at hv; rcases hv with rfl | rfl | rfl <;> rfl)
  have HB2 := Lib.hid (HB1.out.trans (((alloc_below W1 (.cells #[.int .i64 0, .string ⟨#[]⟩, .slice none 0 0] 46)).trans hb2).mono HB1.out.size))
  obtain ⟨m0, m1, m2, mf, ml⟩ := cells3p hbx
  have hnu := isNumber_any (.mk k1 nm1 h1 l1) W2
  simp only [tyV, tyC] at hnu
  clear hb2 hbx hoth hx0 p0 p1 pf pl
  cases R with
  | none =>
    obtain ⟨-, -, rfl⟩ := HT1.out.2
    clear hnu
    go_wp2
    go_ret
    exact ⟨rfl, HB2.out⟩
  | some r =>
    obtain ⟨hy, rfl, rfl⟩ := HT1.out.2
    have hn2 : numB (.mk k1 nm1 h1 l1) = numB r.1 := by rw [← hy, numB_er]
    rw [hn2] at hnu
    have HNU := Lib.hid hnu
    obtain ⟨r1, r2⟩ := r
    simp only [settB]
    clear hnu hn2 hy
    cases hn : numB r1 with
    | false =>
      rw [hn] at HNU
      go_wp2_with (go_at_call 58; refine HNU.out.mono ?_; rintro e W3 ⟨rfl, hb3⟩; have HB3 := Lib.hid (HB2.out.trans (hb3.mono HB2.out.size)); clear hb3)
      go_ret
      exact ⟨by first | rfl | (show _ = Ending.returned (.bool (numB r1 && _)); rw [hn]; rfl), HB3.out⟩
    | true =>
      rw [hn] at HNU
      cases r2 with
      | true =>
        go_wp2_with (go_at_call 58; refine HNU.out.mono ?_; rintro e W3 ⟨rfl, hb3⟩; have HB3 := Lib.hid (HB2.out.trans (hb3.mono HB2.out.size)); clear hb3)
        go_ret
        exact ⟨by first | rfl | (show _ = Ending.returned (.bool (numB r1 && _)); rw [hn]; rfl), HB3.out⟩
      | false =>
        go_wp2_with (go_at_call 58; refine HNU.out.mono ?_; rintro e W3 ⟨rfl, hb3⟩; have HB3 := Lib.hid (HB2.out.trans (hb3.mono HB2.out.size)); clear hb3)
        go_ret
        exact ⟨by first | rfl | (show _ = Ending.returned (.bool (numB r1 && _)); rw [hn]; rfl), HB3.out⟩

end Go.Proofs.YtghkbihgdabamaaGreatDoor
