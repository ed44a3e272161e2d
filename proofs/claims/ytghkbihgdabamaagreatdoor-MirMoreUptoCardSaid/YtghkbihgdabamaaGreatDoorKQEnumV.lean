/-
  Several texts of the proof in one: QHeld, QEnumV. No conditions of their own: each lemma states its own.
-/
import Derived.Test.YtghkbihgdabamaaGreatDoorKQNamed
import Derived.Test.YtghkbihgdabamaaGreatDoorKPRules
namespace Go.Proofs.YtghkbihgdabamaaGreatDoor
open Go.RowKit

def heldO : Option (Ty5 × Bool) → Int × Ty5 → Bool
  | some r, z => (z.1 == 0) && tyEq r.1 z.2
  | none, _ => false
def heldB (s : So5) (n m : Nat) (b : Bo) (x : Sp) (d : Ty5) : Bool := cond (kdT d == 0) ((x.loc == -1) && ((x.path.length : Int) == 0)) (aloneB (spotR s n b x) x.path.length && heldO (spotR s n b x) (resO s m d))
set_option maxRecDepth 100000 in
set_option maxHeartbeats 40000000 in
theorem held_any (n m : Nat) (s : So5) (b : Bo) (v : Nat) (x : Sp) (d : Ty5) (w : World) (hs : SoH n w s) (hsn : SoN s) (hv : ViewAt w v s b) (hb : BoH n w b) (hx : SpH w x) (hd : TyH m w d) (hdn : tyN d ≤ 1000000) :
    Calls Tryz.prog 127 #[.pointer (some ⟨v, 0, none⟩), spV x, tyV d] w fun e w' => e = .returned (.bool (heldB s n m b x d)) ∧ Below w.heap.size w w' := by
  unfold heldB
  have HAL := Lib.hid (show ∀ W, Below w.heap.size w W → Calls Tryz.prog 144 #[.pointer (some ⟨v, 0, none⟩), spV x] W fun e w' => Below W.heap.size W w' ∧ AloneP (fun _ => true) w' (spotR s n b x) x.path.length e from fun W hW =>
    alone_any _ n s b v x W (SoH.below hs hW) hsn (hv.below hW) (BoH.below hb hW) (SpH.below hx hW) (fun _ _ => rfl) fun lo hlo => TyH.und n _ _ _ ⟨by rw [ebp_size]; exact hW.size, fun p x hx => (World.cell?_of_block (ebp_heap rfl)).trans ((hW.cell (World.block_lt_of_cell? w p hx)).trans hx)⟩ (hb.2.1.2.2.2 lo hlo))
  have HOF := Lib.hid (show ∀ (y : Ty5) (f : Nat) W, Below w.heap.size w W → TyH f W y → Calls Tryz.prog 92 #[.pointer (some ⟨v, 0, none⟩), tyV y, tyV d] W fun e w' => e = .returned (.bool (isOfB s m y d)) ∧ Below W.heap.size W w' from fun y f W hW hy => isOf_any m n f s b v y d W (SoH.below hs hW) (hv.below hW) hy (TyH.below m hd hW) hdn)
  obtain ⟨R, hR⟩ : ∃ R, spotR s n b x = R := ⟨_, rfl⟩
  obtain ⟨loc, h, path⟩ := x
  obtain ⟨dk, dm, dh, dl⟩ := d
  obtain ⟨Z, hZ⟩ : ∃ Z, resO s m (.mk dk dm dh dl) = Z := ⟨_, rfl⟩
  simp only [hR] at HAL ⊢
  unfold isOfB at HOF
  simp only [hZ] at HOF ⊢
  simp only [spV, spC, tyV, tyC, kdT] at HAL HOF ⊢
  obtain ⟨np, hnp⟩ : ∃ k, path.length = k := ⟨_, rfl⟩
  obtain ⟨W0, hW⟩ : ∃ W, W = (w.alloc (.cells #[.int .i64 loc, .slice h.oa path.length h.cap] 33)).alloc (.cells #[.int .i64 dk, .string dm, .slice dh.oa dl.length dh.cap] 46) := ⟨_, rfl⟩
  obtain ⟨hb0, hx0, hx1⟩ := pal2 w (.cells #[.int .i64 loc, .slice h.oa path.length h.cap] 33) (.cells #[.int .i64 dk, .string dm, .slice dh.oa dl.length dh.cap] 46)
  rw [← hW] at hb0 hx0 hx1
  rw [hnp] at hx0 HAL hW ⊢
  obtain ⟨N, hN⟩ : ∃ N, N = w.heap.size := ⟨_, rfl⟩
  rw [← hN] at hx0 hx1
  have HX := Lib.hid (And.intro hx0 hx1)
  have HB0 := Lib.hid hb0
  have HN := Lib.hid hN
  clear hs hsn hv hb hx hd hdn hR hZ hnp hx0 hx1 hb0
  cases e0 : (dk == 0) with
  | true =>
    cases e1 : (loc == -1) with
    | false =>
      go_enter Tryz.func127, Tryz.ntmps127
      go_upto_region 1 with fail
      rw [← hW]
      clear hW
      try simp only [← hN]
      clear hN
      obtain ⟨y0, y1, yf, yl⟩ := cells2p HX.out.1
      obtain ⟨z0, z1, z2, zf, zl⟩ := cells3p HX.out.2
      go_wp2
      go_ret
      exact ⟨by first | done | rfl | simp, HB0.out⟩
    | true =>
      cases e2 : ((np : Int) == 0) with
      | false =>
        go_enter Tryz.func127, Tryz.ntmps127
        go_upto_region 1 with fail
        rw [← hW]
        clear hW
        try simp only [← hN]
        clear hN
        obtain ⟨y0, y1, yf, yl⟩ := cells2p HX.out.1
        obtain ⟨z0, z1, z2, zf, zl⟩ := cells3p HX.out.2
        go_wp2
        go_ret
        exact ⟨by first | done | rfl | simp, HB0.out⟩
      | true =>
        go_enter Tryz.func127, Tryz.ntmps127
        go_upto_region 1 with fail
        rw [← hW]
        clear hW
        try simp only [← hN]
        clear hN
        obtain ⟨y0, y1, yf, yl⟩ := cells2p HX.out.1
        obtain ⟨z0, z1, z2, zf, zl⟩ := cells3p HX.out.2
        go_wp2
        go_ret
        exact ⟨by first | done | rfl | simp, HB0.out⟩
  | false =>
    go_enter Tryz.func127, Tryz.ntmps127
    go_upto_region 1 with fail
    rw [← hW]
    clear hW
    try simp only [← hN]
    clear hN
    obtain ⟨y0, y1, yf, yl⟩ := cells2p HX.out.1
    obtain ⟨z0, z1, z2, zf, zl⟩ := cells3p HX.out.2
    go_upto_region 4 with
      (first
        | (go_loud (go_at_call 144; refine (HAL.out W0 HB0.out).mono ?_; rintro e W1 ⟨hb1, ⟨⟨k1, nm1, h1, l1⟩, f, rfl, ht1, hr1⟩⟩; simp only [tyV, tyC]; have HB1 := Lib.hid (HB0.out.trans (hb1.mono HB0.out.size)); have HS1 := Lib.hid hb1; have HT1 := Lib.hid (And.intro ht1 hr1); clear hb1 ht1 hr1))
        | (go_loud (refine wpList_store_box rfl 46 (.tmp 7) (.tmp 25) rfl W1.heap.size 0 rfl (.agg #[.int .i64 k1, .string nm1, .slice h1.oa l1.length h1.cap]) rfl [.int .i64 k1, .string nm1, .slice h1.oa l1.length h1.cap] rfl [.int .i64 0, .string ⟨#[]⟩, .slice none 0 0] 46 (heap_alloc_new W1 (.cells #[.int .i64 0, .string ⟨#[]⟩, .slice none 0 0] 46)) (Nat.le_refl _) (show (Tryz.prog.info? 46).map (·.size) = some 3 by kernel_rfl) ?ca1 W1.heap.size (Nat.le_refl _) (W1.alloc (.cells #[.int .i64 0, .string ⟨#[]⟩, .slice none 0 0] 46)) (Below.refl _ _) ?_; rotate_left; intro W2 hb2 hbx hoth)))
    try case ca1 => first | exact ⟨rfl, rfl, rfl⟩ | (intro v hv; simp at hv; rcases hv with rfl | rfl | rfl <;> rfl)
    have hb12 : Below W1.heap.size W1 W2 := (alloc_below W1 (.cells #[.int .i64 0, .string ⟨#[]⟩, .slice none 0 0] 46)).trans hb2
    have HB2 := Lib.hid (HB1.out.trans (hb12.mono HB1.out.size))
    have HK2 := Lib.hid (show Below W0.heap.size W0 W2 from HS1.out.trans (hb12.mono HS1.out.size))
    have HOF2 := Lib.hid (HOF.out (.mk k1 nm1 h1 l1) f W2 HB2.out (TyH.below f (TyH.und f _ _ _ (ebp_out (Nat.le_refl _) fun _ _ => rfl) HT1.out.1) hb12))
    clear y0 y1 yf yl z0 z1 z2 zf zl
    obtain ⟨m0, m1, m2, mf, ml⟩ := cells3p hbx
    obtain ⟨z0, z1, z2, zf, zl⟩ := cells3p ((HK2.out.block (N + 1) (blk_lt HX.out.2)).trans HX.out.2)
    clear hb12 hb2 hbx hoth
    cases R with
    | none =>
      simp only [aloneB]
      go_wp2
      go_ret
      exact ⟨by first | done | rfl | simp, HB2.out⟩
    | some r =>
      have her := HT1.out.2 r rfl
      have hof := HOF2.out
      rw [her] at hof
      simp only [tyV, tyC] at hof
      have HOF3 := Lib.hid hof
      clear her hof
      cases ha : aloneB (some r) np with
      | false =>
        go_wp2
        go_ret
        exact ⟨by first | done | rfl | simp [ha], HB2.out⟩
      | true =>
        go_wp2_with (go_at_call 92; refine HOF3.out.mono ?_; rintro e W3 ⟨rfl, hb3⟩; have HB3 := Lib.hid (HB2.out.trans (hb3.mono HB2.out.size)); clear hb3)
        go_ret
        exact ⟨by first | done | rfl | (simp [ha]; done) | (simp [ha, heldO]; done), HB3.out⟩

end Go.Proofs.YtghkbihgdabamaaGreatDoor

namespace Go.Proofs.YtghkbihgdabamaaGreatDoor
open Go.RowKit

def nmOf : Ty5 → ByteArray
  | .mk _ nm _ _ => nm
theorem nmOf_er : ∀ t, nmOf (erTy t) = nmOf t
  | .mk k nm h l => by rw [erTy]; rfl
/-- the place of the enum that a type names -/
def enPl (s : So5) (t : Ty5) : Int := fiO (fun x => nmB x.nm (nmOf t)) s.enums 0
def enV5 (s : So5) (R : Option (Ty5 × Bool)) (np : Nat) : Option En5 := match R with
  | some r => if np = 0 ∧ kdT r.1 = 3 then s.enums[(enPl s r.1).toNat]? else none
  | none => none
def EnumP (R : Option En5) (e : Ending) : Prop := match R with
  | some x => e = .returned (.tuple #[.slice x.h.oa x.vars.length x.h.cap, .bool true])
  | none => e = .returned (.tuple #[.slice none 0 0, .bool false])
set_option maxRecDepth 100000 in
set_option maxHeartbeats 40000000 in
theorem enum_any (n : Nat) (s : So5) (b : Bo) (v : Nat) (x : Sp) (w : World) (hs : SoH n w s) (hsn : SoN s) (hv : ViewAt w v s b) (hb : BoH n w b) (hx : SpH w x) (hen : ∀ r, spotR s n b x = some r → x.path.length = 0 → kdT r.1 = 3 → enPl s r.1 ≠ -1) :
    Calls Tryz.prog 126 #[.pointer (some ⟨v, 0, none⟩), spV x] w fun e w' => EnumP (enV5 s (spotR s n b x) x.path.length) e ∧ Below w.heap.size w w' := by
  have HAL := Lib.hid (show ∀ W, Below w.heap.size w W → Calls Tryz.prog 144 #[.pointer (some ⟨v, 0, none⟩), spV x] W fun e w' => Below W.heap.size W w' ∧ AloneP (fun _ => true) w' (spotR s n b x) x.path.length e from fun W hW =>
    alone_any _ n s b v x W (SoH.below hs hW) hsn (hv.below hW) (BoH.below hb hW) (SpH.below hx hW) (fun _ _ => rfl) fun lo hlo => TyH.und n _ _ _ ⟨by rw [ebp_size]; exact hW.size, fun p x hx => (World.cell?_of_block (ebp_heap rfl)).trans ((hW.cell (World.block_lt_of_cell? w p hx)).trans hx)⟩ (hb.2.1.2.2.2 lo hlo))
  have hef := fun (nm : ByteArray) W (hW : Below w.heap.size w W) => EnOf_any n s nm W (SoH.below hs hW)
  obtain ⟨R, hR⟩ : ∃ R, spotR s n b x = R := ⟨_, rfl⟩
  simp only [hR] at HAL hen ⊢
  obtain ⟨loc, h, path⟩ := x
  simp only [spV, spC] at HAL hen ⊢
  obtain ⟨np, hnp⟩ : ∃ k, path.length = k := ⟨_, rfl⟩
  obtain ⟨n1, hn1⟩ : ∃ k, s.structs.length = k := ⟨_, rfl⟩
  obtain ⟨n2, hn2⟩ : ∃ k, s.enums.length = k := ⟨_, rfl⟩
  obtain ⟨n3, hn3⟩ : ∃ k, s.fns.length = k := ⟨_, rfl⟩
  obtain ⟨o1, c1, hh1⟩ : ∃ o c, s.hs = ⟨o, c⟩ := ⟨_, _, rfl⟩
  obtain ⟨o2, c2, hh2⟩ : ∃ o c, s.he = ⟨o, c⟩ := ⟨_, _, rfl⟩
  obtain ⟨o3, c3, hh3⟩ : ∃ o c, s.hf = ⟨o, c⟩ := ⟨_, _, rfl⟩
  unfold ViewAt at hv
  rw [soV_hd] at hef
  have HLE := Lib.hid hs.2.1
  simp only [hh1, hh2, hh3, hn1, hn2, hn3] at hef hv
  have HEF := Lib.hid hef
  have HEN := Lib.hid hen
  have HH := Lib.hid (And.intro hn2 hh2)
  have HVW := Lib.hid (show ∀ W, Below w.heap.size w W → W.heap[v]? = _ from fun W hW => (hW.block v (blk_lt hv)).trans hv)
  obtain ⟨W0, hW⟩ : ∃ W, W = w.alloc (.cells #[.int .i64 loc, .slice h.oa path.length h.cap] 33) := ⟨_, rfl⟩
  have hb0 : Below w.heap.size w W0 := by rw [hW]; exact alloc_below _ _
  have hx0 : W0.heap[w.heap.size]? = some (.cells #[.int .i64 loc, .slice h.oa path.length h.cap] 33) := by rw [hW]; exact heap_alloc_new _ _
  rw [hnp] at hx0 HAL hW HEN ⊢
  obtain ⟨N, hN⟩ : ∃ N, N = w.heap.size := ⟨_, rfl⟩
  rw [← hN] at hx0
  have HB0 := Lib.hid hb0
  clear hs hsn hv hb hx hR hnp hb0 hen hef hn1 hn2 hn3 hh1 hh2 hh3
  go_enter Tryz.func126, Tryz.ntmps126
  go_upto_region 1 with fail
  rw [← hW]
  clear hW
  try simp only [← hN]
  clear hN
  obtain ⟨y0, y1, yf, yl⟩ := cells2p hx0
  go_upto_region 2 with
    (first
      | (go_loud (go_at_call 144; refine (HAL.out W0 HB0.out).mono ?_; rintro e W1 ⟨hb1, ⟨⟨k1, nm1, h1, l1⟩, f, rfl, ht1, hr1⟩⟩; simp only [tyV, tyC]; have HB1 := Lib.hid (HB0.out.trans (hb1.mono HB0.out.size)); have HT1 := Lib.hid (And.intro ht1 hr1); clear hb1 ht1 hr1))
      | (go_loud (refine wpList_store_box rfl 46 (.tmp 6) (.tmp 12) rfl W1.heap.size 0 rfl (.agg #[.int .i64 k1, .string nm1, .slice h1.oa l1.length h1.cap]) rfl [.int .i64 k1, .string nm1, .slice h1.oa l1.length h1.cap] rfl [.int .i64 0, .string ⟨#[]⟩, .slice none 0 0] 46 (heap_alloc_new W1 (.cells #[.int .i64 0, .string ⟨#[]⟩, .slice none 0 0] 46)) (Nat.le_refl _) (show (Tryz.prog.info? 46).map (·.size) = some 3 by kernel_rfl) ?ca1 W1.heap.size (Nat.le_refl _) (W1.alloc (.cells #[.int .i64 0, .string ⟨#[]⟩, .slice none 0 0] 46)) (Below.refl _ _) ?_; rotate_left; intro W2 hb2 hbx hoth)))
  try case ca1 => first | exact ⟨rfl, rfl, rfl⟩ | (intro v hv; simp at hv; rcases hv with rfl | rfl | rfl <;> rfl)
  have hb12 : Below W1.heap.size W1 W2 := (alloc_below W1 (.cells #[.int .i64 0, .string ⟨#[]⟩, .slice none 0 0] 46)).trans hb2
  have HB2 := Lib.hid (HB1.out.trans (hb12.mono HB1.out.size))
  obtain ⟨M, hM⟩ : ∃ M, M = W1.heap.size := ⟨_, rfl⟩
  rw [← hM] at hbx
  try simp only [← hM]
  have HM := Lib.hid hbx
  clear y0 y1 yf yl hb12 hb2 hoth hM hx0
  obtain ⟨m0, m1, m2, mf, ml⟩ := cells3p hbx
  clear hbx
  cases R with
  | none =>
    simp only [aloneB]
    go_wp2
    refine bodyPost_ret (v := .tuple #[.slice none 0 0, .bool false]) (by simp [results, Tryz.results126, go_sem]) rfl ⟨?_, HB2.out⟩
    rfl
  | some r =>
    have her := HT1.out.2 r rfl
    have hk : kdT r.1 = k1 := by rw [← her, kdT_er]; rfl
    have hnm : nmOf r.1 = nm1 := by rw [← her, nmOf_er]; rfl
    have HKN := Lib.hid (And.intro hk hnm)
    clear her hk hnm
    simp only [aloneB]
    by_cases hl0 : np = 0
    · cases e1 : (k1 == 3) with
      | false =>
        rw [decide_eq_true hl0]
        go_wp2
        refine bodyPost_ret (v := .tuple #[.slice none 0 0, .bool false]) (by simp [results, Tryz.results126, go_sem]) rfl ⟨?_, HB2.out⟩
        have h3 : ¬ kdT r.1 = 3 := by rw [HKN.out.1]; simpa using e1
        simp only [enV5, if_neg (show ¬ (np = 0 ∧ kdT r.1 = 3) from fun h => h3 h.2)]
        rfl
      | true =>
        rw [decide_eq_true hl0]
        have h3 : kdT r.1 = 3 := by rw [HKN.out.1]; simpa using e1
        obtain ⟨i, xe, hi, -, hfi⟩ : ∃ i xe, s.enums[i]? = some xe ∧ True ∧ enPl s r.1 = ((i : Nat) : Int) := by
          rcases fiO_spec (g := fun x => nmB x.nm (nmOf r.1)) s.enums 0 with h9 | ⟨i, xe, h9, -, h10, -⟩
          · exact absurd h9.1 (HEN.out r rfl hl0 h3)
          · exact ⟨i, xe, h9, trivial, by rw [enPl, h10]; simp⟩
        have hin : i < s.enums.length := (List.getElem?_eq_some_iff.1 hi).1
        obtain ⟨be, oe, hoe, hbe, hce⟩ := HLE.out.2.2.1 (by omega)
        have ge : w.cell? ⟨be, oe + i * 3 + 1, none⟩ = some (.slice xe.h.oa xe.vars.length xe.h.cap) := hce i xe hi 1 _ rfl
        have HGE := Lib.hid (show ∀ W, Below w.heap.size w W → W.cell? ⟨be, oe + i * 3 + 1, none⟩ = _ from fun W hW => (hW.cell (p := ⟨be, oe + i * 3 + 1, none⟩) (World.block_lt_of_cell? w _ ge)).trans ge)
        have hR3 : enV5 s (some r) np = some xe := by
          simp only [enV5, if_pos (show np = 0 ∧ kdT r.1 = 3 from ⟨hl0, h3⟩)]
          rw [hfi, Int.toNat_natCast, hi]
        have HR3 := Lib.hid hR3
        rw [HH.out.2] at hoe
        rw [HH.out.1] at hin
        have ti0 : (0 : Int) ≤ i := by omega
        have ti1 : (i : Int) < n2 := by omega
        have hcall := HEF.out nm1 W2.drew (HB2.out.trans ⟨rfl, rfl, rfl, Nat.le_refl _, fun _ _ => rfl⟩)
        rw [show fiO (fun x => nmB x.nm nm1) s.enums 0 = (i : Int) by rw [← hfi, enPl, HKN.out.2]] at hcall
        have HCL := Lib.hid hcall
        dsimp only at hoe
        subst hoe
        clear ge hce hbe hi hfi hcall hR3 h3 hin
        obtain ⟨v0, v1, v2, v3, v4, v5, v6, vl⟩ := cells7 (HVW.out W2 HB2.out)
        have g1 := HGE.out W2 HB2.out
        go_wp2_with fail
        refine wp_region_held_drew (S := (fun w' => w'.cell? ⟨v, 0, none⟩ = some (.slice o1 n1 c1) ∧ w'.cell? ⟨v, 1, none⟩ = some (.slice (some ⟨be, oe, none⟩) n2 c2) ∧ w'.cell? ⟨v, 2, none⟩ = some (.slice o3 n3 c3) ∧ w'.cell? ⟨M, 1, none⟩ = some (.string nm1) ∧ w'.cell? ⟨be, oe + i * 3 + 1, none⟩ = some (.slice xe.h.oa xe.vars.length xe.h.cap))) (by kernel_rfl) ?_ (fun hHeld => ?_)
        · exact ⟨v0, v1, v2, m1, g1⟩
        clear v0 v1 v2 v3 v4 v5 v6 vl m0 m1 m2 mf ml g1
        refine wpAnyH_take (i := 0) (oi := { dst := some 21, op := Op.move (Operand.tmp 0), type := 85, pos := "valid.go:105", after := #[], guard := none }) (v := ?vq0_1) rfl (by kernel_rfl) (by kernel_rfl) (by kernel_rfl) (fun _ _ _ h => h) (Or.inl ⟨by rfl, ?hq0_1⟩) (by assumption) ?_
        case hq0_1 => intro w hSw; (try dsimp only at hSw); go_simp; try (with_reducible rfl)
        (try simp only [Act.put, qA, qB, qC])
        refine wpAnyH_take (i := 1) (oi := { dst := some 22, op := Op.nilCheck (Operand.tmp 21), type := 0, pos := "valid.go:105", after := #[{ on := 0, ground := Ground.data }], guard := none }) (v := ?vq1_2) rfl (by kernel_rfl) (by kernel_rfl) (by kernel_rfl) (fun _ _ _ h => h) (Or.inl ⟨by rfl, ?hq1_2⟩) (by assumption) ?_
        case hq1_2 => intro w hSw; (try dsimp only at hSw); go_simp; try (with_reducible rfl)
        (try simp only [Act.put, qA, qB, qC])
        refine wpAnyH_take (i := 2) (oi := { dst := some 23, op := Op.fieldAddr 87 (Operand.tmp 22) 0, type := 0, pos := "valid.go:105", after := #[{ on := 1, ground := Ground.data }], guard := none }) (v := ?vq2_3) rfl (by kernel_rfl) (by kernel_rfl) (by kernel_rfl) (fun _ _ _ h => h) (Or.inl ⟨by rfl, ?hq2_3⟩) (by assumption) ?_
        case hq2_3 => intro w hSw; (try dsimp only at hSw); go_simp; try (with_reducible rfl)
        (try simp only [Act.put, qA, qB, qC])
        refine wpAnyH_take (i := 3) (oi := { dst := some 24, op := Op.fieldAddr 26 (Operand.tmp 23) 1, type := 0, pos := "valid.go:105", after := #[{ on := 2, ground := Ground.data }], guard := none }) (v := ?vq3_4) rfl (by kernel_rfl) (by kernel_rfl) (by kernel_rfl) (fun _ _ _ h => h) (Or.inl ⟨by rfl, ?hq3_4⟩) (by assumption) ?_
        case hq3_4 => intro w hSw; (try dsimp only at hSw); go_simp; try (with_reducible rfl)
        (try simp only [Act.put, qA, qB, qC])
        refine wpAnyH_take (i := 4) (oi := { dst := some 25, op := Op.load 23 (Operand.tmp 24), type := 23, pos := "valid.go:105", after := #[{ on := 3, ground := Ground.data }], guard := none }) (v := ?vq4_5) rfl (by kernel_rfl) (by kernel_rfl) (by kernel_rfl) (fun _ _ _ h => h) (Or.inl ⟨by rfl, ?hq4_5⟩) (by assumption) ?_
        case hq4_5 => intro w hSw; (try dsimp only at hSw); go_simp; try (with_reducible rfl)
        (try simp only [Act.put, qA, qB, qC])
        refine wpAnyH_take (i := 5) (oi := { dst := some 26, op := Op.move (Operand.tmp 0), type := 85, pos := "valid.go:105", after := #[], guard := none }) (v := ?vq5_6) rfl (by kernel_rfl) (by kernel_rfl) (by kernel_rfl) (fun _ _ _ h => h) (Or.inl ⟨by rfl, ?hq5_6⟩) (by assumption) ?_
        case hq5_6 => intro w hSw; (try dsimp only at hSw); go_simp; try (with_reducible rfl)
        (try simp only [Act.put, qA, qB, qC])
        refine wpAnyH_take (i := 6) (oi := { dst := some 27, op := Op.nilCheck (Operand.tmp 26), type := 0, pos := "valid.go:105", after := #[{ on := 5, ground := Ground.data }], guard := none }) (v := ?vq6_7) rfl (by kernel_rfl) (by kernel_rfl) (by kernel_rfl) (fun _ _ _ h => h) (Or.inl ⟨by rfl, ?hq6_7⟩) (by assumption) ?_
        case hq6_7 => intro w hSw; (try dsimp only at hSw); go_simp; try (with_reducible rfl)
        (try simp only [Act.put, qA, qB, qC])
        refine wpAnyH_take (i := 7) (oi := { dst := some 28, op := Op.fieldAddr 87 (Operand.tmp 27) 0, type := 0, pos := "valid.go:105", after := #[{ on := 6, ground := Ground.data }], guard := none }) (v := ?vq7_8) rfl (by kernel_rfl) (by kernel_rfl) (by kernel_rfl) (fun _ _ _ h => h) (Or.inl ⟨by rfl, ?hq7_8⟩) (by assumption) ?_
        case hq7_8 => intro w hSw; (try dsimp only at hSw); go_simp; try (with_reducible rfl)
        (try simp only [Act.put, qA, qB, qC])
        refine wpAnyH_take (i := 8) (oi := { dst := some 29, op := Op.load 26 (Operand.tmp 28), type := 26, pos := "valid.go:105", after := #[{ on := 7, ground := Ground.data }], guard := none }) (v := ?vq8_9) rfl (by kernel_rfl) (by kernel_rfl) (by kernel_rfl) (fun _ _ _ h => h) (Or.inl ⟨by rfl, ?hq8_9⟩) (by assumption) ?_
        case hq8_9 => intro w hSw; (try dsimp only at hSw); go_simp; try (with_reducible rfl)
        (try simp only [Act.put, qA, qB, qC])
        refine wpAnyH_take (i := 9) (oi := { dst := some 30, op := Op.fieldAddr 46 (Operand.tmp 6) 1, type := 0, pos := "valid.go:105", after := #[], guard := none }) (v := ?vq9_10) rfl (by kernel_rfl) (by kernel_rfl) (by kernel_rfl) (fun _ _ _ h => h) (Or.inl ⟨by rfl, ?hq9_10⟩) (by assumption) ?_
        case hq9_10 => intro w hSw; (try dsimp only at hSw); go_simp; try (with_reducible rfl)
        (try simp only [Act.put, qA, qB, qC])
        refine wpAnyH_take (i := 10) (oi := { dst := some 31, op := Op.load 9 (Operand.tmp 30), type := 9, pos := "valid.go:105", after := #[{ on := 9, ground := Ground.data }], guard := none }) (v := ?vq10_11) rfl (by kernel_rfl) (by kernel_rfl) (by kernel_rfl) (fun _ _ _ h => h) (Or.inl ⟨by rfl, ?hq10_11⟩) (by assumption) ?_
        case hq10_11 => intro w hSw; (try dsimp only at hSw); go_simp; try (with_reducible rfl)
        (try simp only [Act.put, qA, qB, qC])
        refine wpAnyH_ready (rs := [11]) (by kernel_rfl) (by simp) ?_
        refine AllReadyH.cons (o := { dst := some 32, op := Op.call { callee := Callee.value (Operand.func 136), args := #[Operand.tmp 29, Operand.tmp 31], argTypes := #[26, 9] }, type := 3, pos := "valid.go:105", after := #[{ on := 8, ground := Ground.data }, { on := 10, ground := Ground.data }], guard := none }) rfl (fun K hK => ?_) AllReadyH.nil
        go_simp
        refine HCL.out.mono ?_
        rintro e W3 ⟨rfl, hb3⟩
        have HK3 := Lib.hid (show Below W2.heap.size W2 W3 from (show Below W2.heap.size W2 W2.drew from ⟨rfl, rfl, rfl, Nat.le_refl _, fun _ _ => rfl⟩).trans hb3)
        have HB3 := Lib.hid (HB2.out.trans (HK3.out.mono HB2.out.size))
        clear hb3
        refine hK.out _ _ ?_ (fun hHeld => ?_)
        · obtain ⟨v0, v1, v2, v3, v4, v5, v6, vl⟩ := cells7 (HVW.out W3 HB3.out)
          exact ⟨v0, v1, v2, (cells3p ((HK3.out.block M (blk_lt HM.out)).trans HM.out)).2.1, HGE.out W3 HB3.out⟩
        clear hK K
        (try simp only [Act.put, qA, qB, qC])
        refine wpAnyH_take (i := 12) (oi := { dst := some 33, op := Op.indexAddr 23 (Operand.tmp 25) (Operand.tmp 32), type := 0, pos := "valid.go:105", after := #[{ on := 4, ground := Ground.data }, { on := 11, ground := Ground.data }], guard := none }) (v := ?vq12_12) rfl (by kernel_rfl) (by kernel_rfl) (by kernel_rfl) (fun _ _ _ h => h) (Or.inl ⟨by rfl, ?hq12_12⟩) (by assumption) ?_
        case hq12_12 => intro w hSw; (try dsimp only at hSw); go_simp; try (with_reducible rfl)
        (try simp only [Act.put, qA, qB, qC])
        refine wpAnyH_take (i := 13) (oi := { dst := some 34, op := Op.fieldAddr 74 (Operand.tmp 33) 1, type := 0, pos := "valid.go:105", after := #[{ on := 12, ground := Ground.data }], guard := none }) (v := ?vq13_13) rfl (by kernel_rfl) (by kernel_rfl) (by kernel_rfl) (fun _ _ _ h => h) (Or.inl ⟨by rfl, ?hq13_13⟩) (by assumption) ?_
        case hq13_13 => intro w hSw; (try dsimp only at hSw); go_simp; try (with_reducible rfl)
        (try simp only [Act.put, qA, qB, qC])
        refine wpAnyH_take (i := 14) (oi := { dst := some 35, op := Op.load 72 (Operand.tmp 34), type := 72, pos := "valid.go:105", after := #[{ on := 13, ground := Ground.data }], guard := none }) (v := ?vq14_14) rfl (by kernel_rfl) (by kernel_rfl) (by kernel_rfl) (fun _ _ _ h => h) (Or.inl ⟨by rfl, ?hq14_14⟩) (by assumption) ?_
        case hq14_14 => intro w hSw; (try dsimp only at hSw); go_simp; try (with_reducible rfl)
        (try simp only [Act.put, qA, qB, qC])
        refine wpAnyH_take (i := 15) (oi := { dst := some 4, op := Op.assign (Operand.tmp 35), type := 72, pos := "valid.go:105", after := #[{ on := 14, ground := Ground.data }, { on := 11, ground := Ground.chain }, { on := 0, ground := Ground.phase }, { on := 1, ground := Ground.phase }, { on := 2, ground := Ground.phase }, { on := 3, ground := Ground.phase }, { on := 4, ground := Ground.phase }, { on := 5, ground := Ground.phase }, { on := 6, ground := Ground.phase }, { on := 7, ground := Ground.phase }, { on := 8, ground := Ground.phase }, { on := 9, ground := Ground.phase }, { on := 10, ground := Ground.phase }, { on := 11, ground := Ground.phase }, { on := 12, ground := Ground.phase }, { on := 13, ground := Ground.phase }, { on := 14, ground := Ground.phase }], guard := none }) (v := ?vq15_15) rfl (by kernel_rfl) (by kernel_rfl) (by kernel_rfl) (fun _ _ _ h => h) (Or.inl ⟨by rfl, ?hq15_15⟩) (by assumption) ?_
        case hq15_15 => intro w hSw; (try dsimp only at hSw); go_simp; try (with_reducible rfl)
        (try simp only [Act.put, qA, qB, qC])
        refine wpAnyH_take (i := 16) (oi := { dst := some 5, op := Op.assign (Operand.const (Value.bool true)), type := 4, pos := "valid.go:105", after := #[{ on := 15, ground := Ground.chain }, { on := 0, ground := Ground.phase }, { on := 1, ground := Ground.phase }, { on := 2, ground := Ground.phase }, { on := 3, ground := Ground.phase }, { on := 4, ground := Ground.phase }, { on := 5, ground := Ground.phase }, { on := 6, ground := Ground.phase }, { on := 7, ground := Ground.phase }, { on := 8, ground := Ground.phase }, { on := 9, ground := Ground.phase }, { on := 10, ground := Ground.phase }, { on := 11, ground := Ground.phase }, { on := 12, ground := Ground.phase }, { on := 13, ground := Ground.phase }, { on := 14, ground := Ground.phase }, { on := 15, ground := Ground.phase }], guard := none }) (v := ?vq16_16) rfl (by kernel_rfl) (by kernel_rfl) (by kernel_rfl) (fun _ _ _ h => h) (Or.inl ⟨by rfl, ?hq16_16⟩) (by assumption) ?_
        case hq16_16 => intro w hSw; (try dsimp only at hSw); go_simp; try (with_reducible rfl)
        (try simp only [Act.put, qA, qB, qC])
        refine wpAnyH_done (by kernel_rfl) ?_ _
        go_wp2
        refine bodyPost_ret (v := .tuple #[.slice xe.h.oa xe.vars.length xe.h.cap, .bool true]) (by simp [results, Tryz.results126, go_sem]) rfl ⟨?_, HB3.out⟩
        rw [HR3.out]
        rfl
    · rw [decide_eq_false hl0]
      go_wp2
      refine bodyPost_ret (v := .tuple #[.slice none 0 0, .bool false]) (by simp [results, Tryz.results126, go_sem]) rfl ⟨?_, HB2.out⟩
      simp only [enV5, if_neg (show ¬ (np = 0 ∧ kdT r.1 = 3) from fun h => hl0 h.1)]
      rfl

end Go.Proofs.YtghkbihgdabamaaGreatDoor
