/-
  mir's isNumberUse: does a use come to a number. Conditions as use's.
-/
import Derived.Test.YtghkbihgdabamaaGreatDoorKQUse
namespace Go.Proofs.YtghkbihgdabamaaGreatDoor
open Go.RowKit

def UsR (y : Ty5) (er : Int) : Option Ty5 → Prop
  | some t => erTy y = t ∧ er = 0
  | none => erTy y = ty0 ∧ er = 84
theorem UseP.val {kf : Nat → Bool} {w' : World} {R : Option Ty5} {e : Ending} (h : UseP kf w' R e) : ∃ y er f, e = .returned (.tuple #[tyV y, .int .i64 er]) ∧ TyH f (ebp w' kf) y ∧ UsR y er R := by
  cases R with
  | none => exact ⟨ty0, 84, 1, h, ⟨by unfold I64; omega, Row.nil _ _ _ _⟩, rfl, rfl⟩
  | some r =>
    obtain ⟨y, h1, h2, f, h3⟩ := h
    exact ⟨y, 0, f, h1, h3, h2, rfl⟩
def numO : Option Ty5 → Bool
  | some t => numB t
  | none => false
set_option maxRecDepth 100000 in
set_option maxHeartbeats 40000000 in
theorem isNumberUse_any (m : Nat) (s : So5) (b : Bo) (v : Nat) (u : Us) (w : World) (hs : SoH m w s) (hsn : SoN s) (hv : ViewAt w v s b) (hb : BoH m w b) (hu : UsH w u) :
    Calls Tryz.prog 103 #[.pointer (some ⟨v, 0, none⟩), usV u] w fun e w' => e = .returned (.bool (numO (useR s m b u))) ∧ Below w.heap.size w w' := by
  obtain ⟨R, hR⟩ : ∃ R, R = useR s m b u := ⟨_, rfl⟩
  rw [← hR]
  have HSP := Lib.hid (show ∀ W, Below w.heap.size w W → Calls Tryz.prog 120 #[.pointer (some ⟨v, 0, none⟩), usV u] W fun e w' => Below W.heap.size W w' ∧ UseP (fun _ => true) w' R e from fun W hW => by
    rw [hR]
    exact use_any _ m s b v u W (SoH.below hs hW) hsn (hv.below hW) (BoH.below hb hW) (UsH.below hu hW) (fun _ _ => rfl) fun lo hlo => TyH.und m _ _ _ ⟨by rw [ebp_size]; exact hW.size, fun p x hx => (World.cell?_of_block (ebp_heap rfl)).trans ((hW.cell (World.block_lt_of_cell? w p hx)).trans hx)⟩ (hb.2.1.2.2.2 lo hlo))
  obtain ⟨num, n, mv, ⟨loc, h, path⟩⟩ := u
  simp only [usV, usC, spC, List.cons_append, List.nil_append] at HSP ⊢
  obtain ⟨W0, hW⟩ : ∃ W, W = w.alloc (.cells #[.bool num, .int .i64 n, .bool mv, .int .i64 loc, .slice h.oa path.length h.cap] 42) := ⟨_, rfl⟩
  have hb0 : Below w.heap.size w W0 := by rw [hW]; exact alloc_below _ _
  have hx0 : W0.heap[w.heap.size]? = some (.cells #[.bool num, .int .i64 n, .bool mv, .int .i64 loc, .slice h.oa path.length h.cap] 42) := by rw [hW]; exact heap_alloc_new _ _
  obtain ⟨N, hN⟩ : ∃ N, N = w.heap.size := ⟨_, rfl⟩
  rw [← hN] at hx0
  have HB0 := Lib.hid hb0
  clear hs hsn hv hb hu hb0 hR
  go_enter Tryz.func103, Tryz.ntmps103
  go_upto_region 1 with fail
  rw [← hW]
  clear hW
  try simp only [← hN]
  clear hN
  obtain ⟨p0, p1, p2, p3, p4, pf, pl⟩ := cells5p hx0
  go_upto_region 2 with
    (first
      | (go_loud (go_at_call 120; refine (HSP.out W0 HB0.out).mono ?_; rintro e W1 ⟨hb1, hp1⟩; obtain ⟨⟨k1, nm1, h1, l1⟩, er, f, rfl, ht1, hr1⟩ := hp1.val; simp only [tyV, tyC]; have HB1 := Lib.hid (HB0.out.trans (hb1.mono HB0.out.size)); have HT1 := Lib.hid hr1; clear hb1 hp1 ht1 hr1))
      | (refine wpList_store_box rfl 46 (.tmp 5) (.tmp 11) rfl W1.heap.size 0 rfl (.agg #[.int .i64 k1, .string nm1, .slice h1.oa l1.length h1.cap]) rfl [.int .i64 k1, .string nm1, .slice h1.oa l1.length h1.cap] rfl [.int .i64 0, .string ⟨#[]⟩, .slice none 0 0] 46 (heap_alloc_new W1 (.cells #[.int .i64 0, .string ⟨#[]⟩, .slice none 0 0] 46)) (Nat.le_refl _) (show (Tryz.prog.info? 46).map (·.size) = some 3 by kernel_rfl) ?ca1 W1.heap.size (Nat.le_refl _) (W1.alloc (.cells #[.int .i64 0, .string ⟨#[]⟩, .slice none 0 0] 46)) (Below.refl _ _) ?_; rotate_left; intro W2 hb2 hbx hoth))
  try case ca1 => first | exact ⟨rfl, rfl, rfl⟩ | (intro v hv; simp at hv; rcases hv with rfl | rfl | rfl <;> rfl)
  have HB2 := Lib.hid (HB1.out.trans (((alloc_below W1 (.cells #[.int .i64 0, .string ⟨#[]⟩, .slice none 0 0] 46)).trans hb2).mono HB1.out.size))
  obtain ⟨m0, m1, m2, mf, ml⟩ := cells3p hbx
  have hnu := isNumber_any (.mk k1 nm1 h1 l1) W2
  simp only [tyV, tyC] at hnu
  clear hb2 hbx hoth hx0 p0 p1 p2 p3 p4 pf pl
  cases R with
  | none =>
    obtain ⟨-, rfl⟩ := HT1.out
    clear hnu
    go_wp2
    go_ret
    exact ⟨rfl, HB2.out⟩
  | some r =>
    obtain ⟨hy, rfl⟩ := HT1.out
    have hn2 : numB (.mk k1 nm1 h1 l1) = numB r := by rw [← hy, numB_er]
    rw [hn2] at hnu
    have HNU := Lib.hid hnu
    try simp only [numO]
    clear hnu hn2 hy
    go_wp2_with (go_at_call 58; refine HNU.out.mono ?_; rintro e W3 ⟨rfl, hb3⟩; have HB3 := Lib.hid (HB2.out.trans (hb3.mono HB2.out.size)); clear hb3)
    go_ret
    exact ⟨rfl, HB3.out⟩

end Go.Proofs.YtghkbihgdabamaaGreatDoor
