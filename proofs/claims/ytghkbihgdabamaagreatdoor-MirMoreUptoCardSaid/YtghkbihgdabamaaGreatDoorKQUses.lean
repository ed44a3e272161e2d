/-
  mir's uses: so many uses, of types that fit. Conditions: the view, its source, its body and the uses lie in the heap; no declared type is too large; what tells whether a type fits keeps all that was there.
-/
import Derived.Test.YtghkbihgdabamaaGreatDoorKQUseN
namespace Go.Proofs.YtghkbihgdabamaaGreatDoor
open Go.RowKit

def usesG (s : So5) (m : Nat) (b : Bo) (fit : Nat → Ty5 → Bool) : List Us → Nat → Int
  | [], _ => 0
  | u :: l, i => match useR s m b u with
    | none => 84
    | some t => if fit i t = true then usesG s m b fit l (i + 1) else 80
def usesR (s : So5) (m : Nat) (b : Bo) (fit : Nat → Ty5 → Bool) (ni : Int) (l : List Us) : Int := if (l.length : Int) = ni then usesG s m b fit l 0 else 81
theorem cells5w {w : World} {v : Nat} {a0 a1 a2 a3 a4 : Value} {T : TypeId} (h : w.heap[v]? = some (.cells #[a0, a1, a2, a3, a4] T)) : w.cell? ⟨v, 0, none⟩ = some a0 ∧ w.cell? ⟨v, 1, none⟩ = some a1 ∧ w.cell? ⟨v, 2, none⟩ = some a2 ∧ w.cell? ⟨v, 3, none⟩ = some a3 ∧ w.cell? ⟨v, 4, none⟩ = some a4 ∧ v < w.heap.size := by
  refine ⟨?_, ?_, ?_, ?_, ?_, (Array.getElem?_eq_some_iff.1 h).1⟩ <;> simp [World.cell?, h]
theorem mnxt (i : Nat) : Value.int .i64 ((i : Int) + 1) = .int .i64 ((i + 1 : Nat) : Int) := rfl
theorem mmeas {L i : Nat} (h : i < L) : L - (intOf (.int .i64 ((i : Int) + 1))).toNat < L - (intOf (.int .i64 (i : Int))).toNat := by
  simp [intOf]
  omega

set_option maxRecDepth 100000 in
set_option maxHeartbeats 40000000 in
theorem uses0_any (F : Nat) (hE : ∀ args w, (callFunc F args).run Tryz.prog w = .ok (.enter F args) w) (fit : Nat → Ty5 → Bool) (m : Nat) (s : So5) (b : Bo) (v : Nat) (hd : Hd) (l : List Us) (ni : Int) (w : World) (hs : SoH m w s) (hsn : SoN s) (hv : ViewAt w v s b) (hb : BoH m w b) (hl : Row w hd 5 l usC (UsH w))
    (hF : (l.length : Int) = ni → ∀ (i : Nat) (y : Ty5) (f : Nat) W, i < l.length → Below w.heap.size w W → TyH f W y → Calls Tryz.prog F #[.int .i64 (i : Int), tyV y] W fun e w' => e = .returned (.bool (fit i (erTy y))) ∧ Below W.heap.size W w') :
    Calls Tryz.prog 89 #[.pointer (some ⟨v, 0, none⟩), .slice hd.oa l.length hd.cap, .int .i64 ni, .func (.func F) #[] #[]] w fun e w' => e = .returned (.int .i64 (usesR s m b fit ni l)) ∧ Below w.heap.size w w' := by
  have HUS := Lib.hid (show ∀ (u : Us) W, u ∈ l → Below w.heap.size w W → Calls Tryz.prog 120 #[.pointer (some ⟨v, 0, none⟩), usV u] W fun e w' => Below W.heap.size W w' ∧ UseP (fun _ => true) w' (useR s m b u) e from fun u W hu hW =>
    use_any _ m s b v u W (SoH.below hs hW) hsn (hv.below hW) (BoH.below hb hW) (UsH.below (hl.2.2.2 u hu) hW) (fun _ _ => rfl) fun lo hlo => TyH.und m _ _ _ ⟨by rw [ebp_size]; exact hW.size, fun p x hx => (World.cell?_of_block (ebp_heap rfl)).trans ((hW.cell (World.block_lt_of_cell? w p hx)).trans hx)⟩ (hb.2.1.2.2.2 lo hlo))
  obtain ⟨L, hL⟩ : ∃ L, L = l.length := ⟨_, rfl⟩
  have hLc : L ≤ 9223372036854775807 := by
    have h1 := hl.1
    have h2 := hl.2.1
    unfold maxLen at h2
    omega
  have HFT := Lib.hid hF
  have HL := Lib.hid (And.intro hl hL)
  obtain ⟨oa, cap⟩ := hd
  dsimp only at HL ⊢
  rw [usesR, ← hL]
  clear hs hsn hv hb hl hF hL
  obtain ⟨R0, hR0⟩ : ∃ R, usesG s m b fit l 0 = R := ⟨_, rfl⟩
  rw [hR0]
  go_enter Tryz.func89, Tryz.ntmps89
  by_cases hn : (L : Int) = ni
  · rw [if_pos hn]
    have HR0 := Lib.hid hR0
    subst hn
    clear hR0
    go_wp2
    go_loopw [19] (fun u wr => ∃ i : Nat, i ≤ L ∧ u = .int .i64 i ∧ usesG s m b fit (l.drop i) i = R0 ∧ Below w.heap.size w wr) (fun u _ => L - (intOf u).toNat)
    case atStart => exact ⟨0, Nat.zero_le _, rfl, HR0.out, Below.refl _ _⟩
    case round =>
      obtain ⟨i, hi, rfl, hg, hbw⟩ := hrel
      obtain ⟨W0, rfl⟩ : ∃ W0 : World, W0 = wr := ⟨_, rfl⟩
      by_cases hlt : i < L
      · as_aux_lemma =>
          obtain ⟨hl, hL⟩ := HL.out
          have hil : i < l.length := by omega
          obtain ⟨u, hu⟩ : ∃ u, l[i]? = some u := ⟨_, List.getElem?_eq_getElem hil⟩
          have hum : u ∈ l := List.mem_of_getElem? hu
          have hgd : usesG s m b fit (u :: l.drop (i + 1)) i = R0 := by
            rw [← hg, List.drop_eq_getElem_cons hil]
            congr 1
            rw [List.getElem?_eq_getElem hil] at hu
            rw [Option.some.inj hu]
          obtain ⟨bl, ol, hol, hbl, hcl⟩ := hl.2.2.1 (by omega)
          dsimp only at hol
          subst hol
          have hus := HUS.out u
          rw [usesG] at hgd
          obtain ⟨Ru, hRu⟩ : ∃ R, useR s m b u = R := ⟨_, rfl⟩
          rw [hRu] at hgd
          simp only [hRu] at hus
          obtain ⟨num, un, mv, ⟨loc, ph, path⟩⟩ := u
          obtain ⟨np, hnp⟩ : ∃ k, path.length = k := ⟨_, rfl⟩
          simp only [usV, usC, spC, List.cons_append, List.nil_append, hnp] at hus
          have HU := Lib.hid (fun W hW => hus W hum hW)
          have hc := fun (j : Nat) x (hx : (usC ⟨num, un, mv, ⟨loc, ph, path⟩⟩)[j]? = some x) => (hbw.cell (p := ⟨bl, ol + i * 5 + j, none⟩) hbl).trans (hcl i _ hu j x hx)
          have g0 : W0.cell? ⟨bl, ol + i * 5, none⟩ = some (.bool num) := hc 0 _ rfl
          have g1 : W0.cell? ⟨bl, ol + i * 5 + 1, none⟩ = some (.int .i64 un) := hc 1 _ rfl
          have g2 : W0.cell? ⟨bl, ol + i * 5 + 2, none⟩ = some (.bool mv) := hc 2 _ rfl
          have g3 : W0.cell? ⟨bl, ol + i * 5 + 3, none⟩ = some (.int .i64 loc) := hc 3 _ rfl
          have g4 : W0.cell? ⟨bl, ol + i * 5 + 4, none⟩ = some (.slice ph.oa np ph.cap) := by rw [← hnp]; exact hc 4 _ rfl
          have HG := Lib.hid hgd
          have HB0 := Lib.hid hbw
          clear hl hL hu hum hgd hcl hbl hus hc hg hRu hnp hil
          go_upto_region 6 with (go_loud (refine wpList_store_box rfl 42 (.tmp 10) (.tmp 23) rfl W0.heap.size 0 rfl (.agg #[.bool num, .int .i64 un, .bool mv, .int .i64 loc, .slice ph.oa np ph.cap]) rfl [.bool num, .int .i64 un, .bool mv, .int .i64 loc, .slice ph.oa np ph.cap] rfl [.bool false, .int .i64 0, .bool false, .int .i64 0, .slice none 0 0] 42 (heap_alloc_new W0 (.cells #[.bool false, .int .i64 0, .bool false, .int .i64 0, .slice none 0 0] 42)) (Nat.le_refl _) (show (Tryz.prog.info? 42).map (·.size) = some 5 by kernel_rfl) ?ca1 W0.heap.size (Nat.le_refl _) (W0.alloc (.cells #[.bool false, .int .i64 0, .bool false, .int .i64 0, .slice none 0 0] 42)) (Below.refl _ _) ?_; rotate_left; intro W1 hb1 hbx hoth))
          try case ca1 => first | exact ⟨rfl, rfl, rfl, rfl, rfl⟩ | (intro v hv; simp at hv; rcases hv with rfl | rfl | rfl | rfl | rfl <;> rfl)
          have hb01 : Below W0.heap.size W0 W1 := (alloc_below W0 (.cells #[.bool false, .int .i64 0, .bool false, .int .i64 0, .slice none 0 0] 42)).trans hb1
          have HB1 := Lib.hid (HB0.out.trans (hb01.mono HB0.out.size))
          obtain ⟨M, hM⟩ : ∃ M, M = W0.heap.size := ⟨_, rfl⟩
          rw [← hM] at hbx
          try simp only [← hM]
          clear g0 g1 g2 g3 g4 hb01 hb1 hoth hM
          obtain ⟨m0, m1, m2, m3, m4, ml⟩ := cells5w hbx
          clear hbx
          cases Ru with
          | none =>
            go_upto_region 7 with (first
              | (go_loud (go_at_call 120 ; refine (HU.out W1 HB1.out).mono ?_; rintro e W2 ⟨hb2, hu2⟩; dsimp only [UseP] at hu2; subst hu2; have HB2 := Lib.hid (HB1.out.trans (hb2.mono HB1.out.size)); clear hb2))
              | (go_loud (refine wpList_store_box rfl 46 (.tmp 11) (.tmp 28) rfl W2.heap.size 0 rfl (.agg #[.int .i64 0, .string ⟨#[]⟩, .slice none 0 0]) rfl [.int .i64 0, .string ⟨#[]⟩, .slice none 0 0] rfl [.int .i64 0, .string ⟨#[]⟩, .slice none 0 0] 46 (heap_alloc_new W2 (.cells #[.int .i64 0, .string ⟨#[]⟩, .slice none 0 0] 46)) (Nat.le_refl _) (show (Tryz.prog.info? 46).map (·.size) = some 3 by kernel_rfl) ?ca2 W2.heap.size (Nat.le_refl _) (W2.alloc (.cells #[.int .i64 0, .string ⟨#[]⟩, .slice none 0 0] 46)) (Below.refl _ _) ?_; rotate_left; intro W3 hb3 hbx3 hoth3)))
            try case ca2 => first | exact ⟨rfl, rfl, rfl⟩ | (intro v hv; simp at hv; rcases hv with rfl | rfl | rfl <;> rfl)
            have HB3 := Lib.hid (HB2.out.trans (((alloc_below W2 (.cells #[.int .i64 0, .string ⟨#[]⟩, .slice none 0 0] 46)).trans hb3).mono HB2.out.size))
            clear hb3 hbx3 hoth3 m0 m1 m2 m3 m4 ml
            go_wp2
            go_ret
            have h := HG.out
            try dsimp only at h
            subst h
            exact ⟨rfl, HB3.out⟩
          | some t =>
            go_upto_region 7 with (first
              | (go_loud (go_at_call 120 ; refine (HU.out W1 HB1.out).mono ?_; rintro e W2 ⟨hb2, ⟨⟨k1, nm1, h1, l1⟩, rfl, her, f, ht⟩⟩; simp only [tyV, tyC]; have HB2 := Lib.hid (HB1.out.trans (hb2.mono HB1.out.size)); have HT2 := Lib.hid (And.intro her (show TyH f W2 (.mk k1 nm1 h1 l1) from TyH.und f _ _ _ (ebp_all W2 _) ht)); clear hb2 her ht))
              | (go_loud (refine wpList_store_box rfl 46 (.tmp 11) (.tmp 28) rfl W2.heap.size 0 rfl (.agg #[.int .i64 k1, .string nm1, .slice h1.oa l1.length h1.cap]) rfl [.int .i64 k1, .string nm1, .slice h1.oa l1.length h1.cap] rfl [.int .i64 0, .string ⟨#[]⟩, .slice none 0 0] 46 (heap_alloc_new W2 (.cells #[.int .i64 0, .string ⟨#[]⟩, .slice none 0 0] 46)) (Nat.le_refl _) (show (Tryz.prog.info? 46).map (·.size) = some 3 by kernel_rfl) ?ca2 W2.heap.size (Nat.le_refl _) (W2.alloc (.cells #[.int .i64 0, .string ⟨#[]⟩, .slice none 0 0] 46)) (Below.refl _ _) ?_; rotate_left; intro W3 hb3 hbx3 hoth3)))
            try case ca2 => first | exact ⟨rfl, rfl, rfl⟩ | (intro v hv; simp at hv; rcases hv with rfl | rfl | rfl <;> rfl)
            have hb23 : Below W2.heap.size W2 W3 := (alloc_below W2 (.cells #[.int .i64 0, .string ⟨#[]⟩, .slice none 0 0] 46)).trans hb3
            have HB3 := Lib.hid (HB2.out.trans (hb23.mono HB2.out.size))
            have HT3 := Lib.hid (And.intro HT2.out.1 (TyH.below f HT2.out.2 hb23))
            obtain ⟨M2, hM2⟩ : ∃ M, M = W2.heap.size := ⟨_, rfl⟩
            rw [← hM2] at hbx3
            try simp only [← hM2]
            clear hb3 hb23 hoth3 hM2 m0 m1 m2 m3 m4 ml
            obtain ⟨t0, t1, t2, tf, tl⟩ := cells3p hbx3
            clear hbx3
            obtain ⟨B, hB⟩ : ∃ B, fit i t = B := ⟨_, rfl⟩
            have hcall := HFT.out (by have := HL.out.2; omega) i (.mk k1 nm1 h1 l1) f W3 (by have := HL.out.2; omega) HB3.out HT3.out.2
            rw [HT3.out.1, hB] at hcall
            simp only [tyV, tyC] at hcall
            have HCL := Lib.hid hcall
            have HFB := Lib.hid hB
            clear hcall hB
            cases B with
            | true =>
              go_wp2_with (go_at_fn F; refine HCL.out.mono ?_; rintro e W4 ⟨rfl, hb4⟩; have HB4 := Lib.hid (HB3.out.trans (hb4.mono HB3.out.size)); clear hb4)
              go_roundw
              case rel =>
                refine ⟨i + 1, hlt, mnxt _, ?_, HB4.out⟩
                have h := HG.out
                try dsimp only at h
                rw [if_pos HFB.out] at h
                exact h
              case measure => exact mmeas hlt
            | false =>
              go_wp2_with (go_at_fn F; refine HCL.out.mono ?_; rintro e W4 ⟨rfl, hb4⟩; have HB4 := Lib.hid (HB3.out.trans (hb4.mono HB3.out.size)); clear hb4)
              go_ret
              have h := HG.out
              try dsimp only at h
              rw [if_neg (by rw [HFB.out]; simp)] at h
              subst h
              exact ⟨rfl, HB4.out⟩
      · as_aux_lemma =>
          have hil : l.drop i = [] := List.drop_eq_nil_of_le (by have := HL.out.2; omega)
          rw [hil, usesG] at hg
          subst hg
          go_wp2
          go_ret
          exact ⟨rfl, hbw⟩
  · rw [if_neg hn]
    have hn' : ((L : Int) == ni) = false := by simpa using hn
    go_wp2
    go_ret
    exact ⟨rfl, Below.refl _ _⟩

set_option maxRecDepth 100000 in
set_option maxHeartbeats 4000000 in
theorem usesNil_any (v : Nat) (hd : Hd) (l : List Us) (w : World) (hl : l.length ≤ hd.cap ∧ hd.cap ≤ maxLen) :
    Calls Tryz.prog 89 #[.pointer (some ⟨v, 0, none⟩), .slice hd.oa l.length hd.cap, .int .i64 0, .nilFunc] w fun e w' => e = .returned (.int .i64 (if l = [] then 0 else 81)) ∧ Below w.heap.size w w' := by
  obtain ⟨L, hL⟩ : ∃ L, l.length = L := ⟨_, rfl⟩
  have hLc : L ≤ 9223372036854775807 := by
    have h1 := hl.1
    have h2 := hl.2
    unfold maxLen at h2
    omega
  have he : (if l = [] then (0 : Int) else 81) = if L = 0 then 0 else 81 := by
    cases l with
    | nil => simp at hL; simp [← hL]
    | cons a l => simp at hL; simp [← hL]
  rw [he, hL]
  clear he hl hL
  go_enter Tryz.func89, Tryz.ntmps89
  by_cases h0 : L = 0
  · subst h0
    rw [if_pos rfl]
    go_wp2
    go_loopw [19] (fun u wr => u = .int .i64 0 ∧ wr = w) (fun _ _ => 0)
    case atStart => exact ⟨rfl, rfl⟩
    case round =>
      obtain ⟨rfl, rfl⟩ := hrel
      go_wp2
      go_ret
      exact ⟨rfl, Below.refl _ _⟩
  · rw [if_neg h0]
    have h0' : ((L : Int) == 0) = false := by simp; omega
    go_wp2
    go_ret
    exact ⟨rfl, Below.refl _ _⟩
set_option maxRecDepth 100000 in
set_option maxHeartbeats 4000000 in
theorem ofUses1_any (i : Int) (y : Ty5) (w : World) : Calls Tryz.prog 118 #[.int .i64 i, tyV y] w fun e w' => e = .returned (.bool (numB y)) ∧ Below w.heap.size w w' := by
  have hn := fun W => isNumber_any y W
  obtain ⟨B, hB⟩ : ∃ B, numB y = B := ⟨_, rfl⟩
  simp only [hB] at hn ⊢
  obtain ⟨k, nm, h, l⟩ := y
  simp only [tyV, tyC] at hn ⊢
  obtain ⟨W0, hW⟩ : ∃ W, W = w.alloc (.cells #[.int .i64 k, .string nm, .slice h.oa l.length h.cap] 46) := ⟨_, rfl⟩
  have hb0 : Below w.heap.size w W0 := by rw [hW]; exact alloc_below _ _
  have hx0 : W0.heap[w.heap.size]? = some (.cells #[.int .i64 k, .string nm, .slice h.oa l.length h.cap] 46) := by rw [hW]; exact heap_alloc_new _ _
  obtain ⟨N, hN⟩ : ∃ N, N = w.heap.size := ⟨_, rfl⟩
  rw [← hN] at hx0
  obtain ⟨y0, y1, y2, yf, yl⟩ := cells3p hx0
  have HB0 := Lib.hid hb0
  have HN := Lib.hid hn
  clear hx0 hb0 hn hB
  go_enter Tryz.func118, Tryz.ntmps118
  go_upto_region 1 with fail
  rw [← hW]
  clear hW
  try simp only [← hN]
  clear hN
  go_wp2_with (go_at_call 58; refine (HN.out _).mono ?_; rintro e w9 ⟨rfl, hb9⟩; have HB9 := Lib.hid (HB0.out.trans (hb9.mono HB0.out.size)); clear hb9)
  go_ret
  exact ⟨by trivial, HB9.out⟩
theorem entersOfu : ∀ args w, (callFunc 118 args).run Tryz.prog w = .ok (.enter 118 args) w := enters_of Tryz.func118 (by kernel_rfl) rfl

set_option maxRecDepth 100000 in
set_option maxHeartbeats 40000000 in
theorem uses2_any (F : Nat) (hE : ∀ args w, (callFunc F args).run Tryz.prog w = .ok (.enter F args) w) (c1 c2 : Nat) (fit : Nat → Ty5 → Bool) (m : Nat) (s : So5) (b : Bo) (v : Nat) (hd : Hd) (l : List Us) (ni : Int) (w : World) (hs : SoH m w s) (hsn : SoN s) (hv : ViewAt w v s b) (hb : BoH m w b) (hl : Row w hd 5 l usC (UsH w))
    (hF : (l.length : Int) = ni → ∀ (i : Nat) (y : Ty5) (f : Nat) W, i < l.length → Below w.heap.size w W → TyH f W y → Calls Tryz.prog F #[.int .i64 (i : Int), tyV y, .pointer (some ⟨c1, 0, none⟩), .pointer (some ⟨c2, 0, none⟩)] W fun e w' => e = .returned (.bool (fit i (erTy y))) ∧ Below W.heap.size W w') :
    Calls Tryz.prog 89 #[.pointer (some ⟨v, 0, none⟩), .slice hd.oa l.length hd.cap, .int .i64 ni, .func (.func F) #[] #[.pointer (some ⟨c1, 0, none⟩), .pointer (some ⟨c2, 0, none⟩)]] w fun e w' => e = .returned (.int .i64 (usesR s m b fit ni l)) ∧ Below w.heap.size w w' := by
  have HUS := Lib.hid (show ∀ (u : Us) W, u ∈ l → Below w.heap.size w W → Calls Tryz.prog 120 #[.pointer (some ⟨v, 0, none⟩), usV u] W fun e w' => Below W.heap.size W w' ∧ UseP (fun _ => true) w' (useR s m b u) e from fun u W hu hW =>
    use_any _ m s b v u W (SoH.below hs hW) hsn (hv.below hW) (BoH.below hb hW) (UsH.below (hl.2.2.2 u hu) hW) (fun _ _ => rfl) fun lo hlo => TyH.und m _ _ _ ⟨by rw [ebp_size]; exact hW.size, fun p x hx => (World.cell?_of_block (ebp_heap rfl)).trans ((hW.cell (World.block_lt_of_cell? w p hx)).trans hx)⟩ (hb.2.1.2.2.2 lo hlo))
  obtain ⟨L, hL⟩ : ∃ L, L = l.length := ⟨_, rfl⟩
  have hLc : L ≤ 9223372036854775807 := by
    have h1 := hl.1
    have h2 := hl.2.1
    unfold maxLen at h2
    omega
  have HFT := Lib.hid hF
  have HL := Lib.hid (And.intro hl hL)
  obtain ⟨oa, cap⟩ := hd
  dsimp only at HL ⊢
  rw [usesR, ← hL]
  clear hs hsn hv hb hl hF hL
  obtain ⟨R0, hR0⟩ : ∃ R, usesG s m b fit l 0 = R := ⟨_, rfl⟩
  rw [hR0]
  go_enter Tryz.func89, Tryz.ntmps89
  by_cases hn : (L : Int) = ni
  · rw [if_pos hn]
    have HR0 := Lib.hid hR0
    subst hn
    clear hR0
    go_wp2
    go_loopw [19] (fun u wr => ∃ i : Nat, i ≤ L ∧ u = .int .i64 i ∧ usesG s m b fit (l.drop i) i = R0 ∧ Below w.heap.size w wr) (fun u _ => L - (intOf u).toNat)
    case atStart => exact ⟨0, Nat.zero_le _, rfl, HR0.out, Below.refl _ _⟩
    case round =>
      obtain ⟨i, hi, rfl, hg, hbw⟩ := hrel
      obtain ⟨W0, rfl⟩ : ∃ W0 : World, W0 = wr := ⟨_, rfl⟩
      by_cases hlt : i < L
      · as_aux_lemma =>
          obtain ⟨hl, hL⟩ := HL.out
          have hil : i < l.length := by omega
          obtain ⟨u, hu⟩ : ∃ u, l[i]? = some u := ⟨_, List.getElem?_eq_getElem hil⟩
          have hum : u ∈ l := List.mem_of_getElem? hu
          have hgd : usesG s m b fit (u :: l.drop (i + 1)) i = R0 := by
            rw [← hg, List.drop_eq_getElem_cons hil]
            congr 1
            rw [List.getElem?_eq_getElem hil] at hu
            rw [Option.some.inj hu]
          obtain ⟨bl, ol, hol, hbl, hcl⟩ := hl.2.2.1 (by omega)
          dsimp only at hol
          subst hol
          have hus := HUS.out u
          rw [usesG] at hgd
          obtain ⟨Ru, hRu⟩ : ∃ R, useR s m b u = R := ⟨_, rfl⟩
          rw [hRu] at hgd
          simp only [hRu] at hus
          obtain ⟨num, un, mv, ⟨loc, ph, path⟩⟩ := u
          obtain ⟨np, hnp⟩ : ∃ k, path.length = k := ⟨_, rfl⟩
          simp only [usV, usC, spC, List.cons_append, List.nil_append, hnp] at hus
          have HU := Lib.hid (fun W hW => hus W hum hW)
          have hc := fun (j : Nat) x (hx : (usC ⟨num, un, mv, ⟨loc, ph, path⟩⟩)[j]? = some x) => (hbw.cell (p := ⟨bl, ol + i * 5 + j, none⟩) hbl).trans (hcl i _ hu j x hx)
          have g0 : W0.cell? ⟨bl, ol + i * 5, none⟩ = some (.bool num) := hc 0 _ rfl
          have g1 : W0.cell? ⟨bl, ol + i * 5 + 1, none⟩ = some (.int .i64 un) := hc 1 _ rfl
          have g2 : W0.cell? ⟨bl, ol + i * 5 + 2, none⟩ = some (.bool mv) := hc 2 _ rfl
          have g3 : W0.cell? ⟨bl, ol + i * 5 + 3, none⟩ = some (.int .i64 loc) := hc 3 _ rfl
          have g4 : W0.cell? ⟨bl, ol + i * 5 + 4, none⟩ = some (.slice ph.oa np ph.cap) := by rw [← hnp]; exact hc 4 _ rfl
          have HG := Lib.hid hgd
          have HB0 := Lib.hid hbw
          clear hl hL hu hum hgd hcl hbl hus hc hg hRu hnp hil
          go_upto_region 6 with (go_loud (refine wpList_store_box rfl 42 (.tmp 10) (.tmp 23) rfl W0.heap.size 0 rfl (.agg #[.bool num, .int .i64 un, .bool mv, .int .i64 loc, .slice ph.oa np ph.cap]) rfl [.bool num, .int .i64 un, .bool mv, .int .i64 loc, .slice ph.oa np ph.cap] rfl [.bool false, .int .i64 0, .bool false, .int .i64 0, .slice none 0 0] 42 (heap_alloc_new W0 (.cells #[.bool false, .int .i64 0, .bool false, .int .i64 0, .slice none 0 0] 42)) (Nat.le_refl _) (show (Tryz.prog.info? 42).map (·.size) = some 5 by kernel_rfl) ?ca1 W0.heap.size (Nat.le_refl _) (W0.alloc (.cells #[.bool false, .int .i64 0, .bool false, .int .i64 0, .slice none 0 0] 42)) (Below.refl _ _) ?_; rotate_left; intro W1 hb1 hbx hoth))
          try case ca1 => first | exact ⟨rfl, rfl, rfl, rfl, rfl⟩ | (intro v hv; simp at hv; rcases hv with rfl | rfl | rfl | rfl | rfl <;> rfl)
          have hb01 : Below W0.heap.size W0 W1 := (alloc_below W0 (.cells #[.bool false, .int .i64 0, .bool false, .int .i64 0, .slice none 0 0] 42)).trans hb1
          have HB1 := Lib.hid (HB0.out.trans (hb01.mono HB0.out.size))
          obtain ⟨M, hM⟩ : ∃ M, M = W0.heap.size := ⟨_, rfl⟩
          rw [← hM] at hbx
          try simp only [← hM]
          clear g0 g1 g2 g3 g4 hb01 hb1 hoth hM
          obtain ⟨m0, m1, m2, m3, m4, ml⟩ := cells5w hbx
          clear hbx
          cases Ru with
          | none =>
            go_upto_region 7 with (first
              | (go_loud (go_at_call 120 ; refine (HU.out W1 HB1.out).mono ?_; rintro e W2 ⟨hb2, hu2⟩; dsimp only [UseP] at hu2; subst hu2; have HB2 := Lib.hid (HB1.out.trans (hb2.mono HB1.out.size)); clear hb2))
              | (go_loud (refine wpList_store_box rfl 46 (.tmp 11) (.tmp 28) rfl W2.heap.size 0 rfl (.agg #[.int .i64 0, .string ⟨#[]⟩, .slice none 0 0]) rfl [.int .i64 0, .string ⟨#[]⟩, .slice none 0 0] rfl [.int .i64 0, .string ⟨#[]⟩, .slice none 0 0] 46 (heap_alloc_new W2 (.cells #[.int .i64 0, .string ⟨#[]⟩, .slice none 0 0] 46)) (Nat.le_refl _) (show (Tryz.prog.info? 46).map (·.size) = some 3 by kernel_rfl) ?ca2 W2.heap.size (Nat.le_refl _) (W2.alloc (.cells #[.int .i64 0, .string ⟨#[]⟩, .slice none 0 0] 46)) (Below.refl _ _) ?_; rotate_left; intro W3 hb3 hbx3 hoth3)))
            try case ca2 => first | exact ⟨rfl, rfl, rfl⟩ | (intro v hv; simp at hv; rcases hv with rfl | rfl | rfl <;> rfl)
            have HB3 := Lib.hid (HB2.out.trans (((alloc_below W2 (.cells #[.int .i64 0, .string ⟨#[]⟩, .slice none 0 0] 46)).trans hb3).mono HB2.out.size))
            clear hb3 hbx3 hoth3 m0 m1 m2 m3 m4 ml
            go_wp2
            go_ret
            have h := HG.out
            try dsimp only at h
            subst h
            exact ⟨rfl, HB3.out⟩
          | some t =>
            go_upto_region 7 with (first
              | (go_loud (go_at_call 120 ; refine (HU.out W1 HB1.out).mono ?_; rintro e W2 ⟨hb2, ⟨⟨k1, nm1, h1, l1⟩, rfl, her, f, ht⟩⟩; simp only [tyV, tyC]; have HB2 := Lib.hid (HB1.out.trans (hb2.mono HB1.out.size)); have HT2 := Lib.hid (And.intro her (show TyH f W2 (.mk k1 nm1 h1 l1) from TyH.und f _ _ _ (ebp_all W2 _) ht)); clear hb2 her ht))
              | (go_loud (refine wpList_store_box rfl 46 (.tmp 11) (.tmp 28) rfl W2.heap.size 0 rfl (.agg #[.int .i64 k1, .string nm1, .slice h1.oa l1.length h1.cap]) rfl [.int .i64 k1, .string nm1, .slice h1.oa l1.length h1.cap] rfl [.int .i64 0, .string ⟨#[]⟩, .slice none 0 0] 46 (heap_alloc_new W2 (.cells #[.int .i64 0, .string ⟨#[]⟩, .slice none 0 0] 46)) (Nat.le_refl _) (show (Tryz.prog.info? 46).map (·.size) = some 3 by kernel_rfl) ?ca2 W2.heap.size (Nat.le_refl _) (W2.alloc (.cells #[.int .i64 0, .string ⟨#[]⟩, .slice none 0 0] 46)) (Below.refl _ _) ?_; rotate_left; intro W3 hb3 hbx3 hoth3)))
            try case ca2 => first | exact ⟨rfl, rfl, rfl⟩ | (intro v hv; simp at hv; rcases hv with rfl | rfl | rfl <;> rfl)
            have hb23 : Below W2.heap.size W2 W3 := (alloc_below W2 (.cells #[.int .i64 0, .string ⟨#[]⟩, .slice none 0 0] 46)).trans hb3
            have HB3 := Lib.hid (HB2.out.trans (hb23.mono HB2.out.size))
            have HT3 := Lib.hid (And.intro HT2.out.1 (TyH.below f HT2.out.2 hb23))
            obtain ⟨M2, hM2⟩ : ∃ M, M = W2.heap.size := ⟨_, rfl⟩
            rw [← hM2] at hbx3
            try simp only [← hM2]
            clear hb3 hb23 hoth3 hM2 m0 m1 m2 m3 m4 ml
            obtain ⟨t0, t1, t2, tf, tl⟩ := cells3p hbx3
            clear hbx3
            obtain ⟨B, hB⟩ : ∃ B, fit i t = B := ⟨_, rfl⟩
            have hcall := HFT.out (by have := HL.out.2; omega) i (.mk k1 nm1 h1 l1) f W3 (by have := HL.out.2; omega) HB3.out HT3.out.2
            rw [HT3.out.1, hB] at hcall
            simp only [tyV, tyC] at hcall
            have HCL := Lib.hid hcall
            have HFB := Lib.hid hB
            clear hcall hB
            cases B with
            | true =>
              go_wp2_with (go_at_fn F; refine HCL.out.mono ?_; rintro e W4 ⟨rfl, hb4⟩; have HB4 := Lib.hid (HB3.out.trans (hb4.mono HB3.out.size)); clear hb4)
              go_roundw
              case rel =>
                refine ⟨i + 1, hlt, mnxt _, ?_, HB4.out⟩
                have h := HG.out
                try dsimp only at h
                rw [if_pos HFB.out] at h
                exact h
              case measure => exact mmeas hlt
            | false =>
              go_wp2_with (go_at_fn F; refine HCL.out.mono ?_; rintro e W4 ⟨rfl, hb4⟩; have HB4 := Lib.hid (HB3.out.trans (hb4.mono HB3.out.size)); clear hb4)
              go_ret
              have h := HG.out
              try dsimp only at h
              rw [if_neg (by rw [HFB.out]; simp)] at h
              subst h
              exact ⟨rfl, HB4.out⟩
      · as_aux_lemma =>
          have hil : l.drop i = [] := List.drop_eq_nil_of_le (by have := HL.out.2; omega)
          rw [hil, usesG] at hg
          subst hg
          go_wp2
          go_ret
          exact ⟨rfl, hbw⟩
  · rw [if_neg hn]
    have hn' : ((L : Int) == ni) = false := by simpa using hn
    go_wp2
    go_ret
    exact ⟨rfl, Below.refl _ _⟩

end Go.Proofs.YtghkbihgdabamaaGreatDoor
