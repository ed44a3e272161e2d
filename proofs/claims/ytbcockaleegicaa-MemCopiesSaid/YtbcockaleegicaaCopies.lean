/-
  MemCopies: the plain part, and the walk of its main way. No conditions but those of the statement's own guard.
-/
import Derived.Test.YtbcockaleegicaaClearP
namespace Go.Proofs.Ytbcockaleegicaa
open Go.RowKit Go.ChangeShapes Go.WideShapes Go.ChangeAt

def BoolsAt (w : World) (b off : Nat) (bs : List Bool) : Prop := ∀ i x, bs[i]? = some x → w.cell? ⟨b, off + i, none⟩ = some (.bool x)

/-- what is stored, all in all -/
def mix (ws : List Wd) (bs : List Bool) : List Cl := List.zipWith (fun x b => if b then some x else none) ws bs
theorem mix_len (ws : List Wd) (bs : List Bool) (h : bs.length = ws.length) : (mix ws bs).length = ws.length := by simp [mix, h]
theorem mix_get (ws : List Wd) (bs : List Bool) (i : Nat) (x : Wd) (b : Bool) (hx : ws[i]? = some x) (hb : bs[i]? = some b) : (mix ws bs)[i]? = some (if b then some x else none) := by
  simp [mix, List.getElem?_zipWith, hx, hb]

/-- .. of the first j -/
def some1 (L : List Cl) (j : Nat) : List Cl := L.take j ++ List.replicate (L.length - j) none
theorem some1_len (L : List Cl) (j : Nat) (hj : j ≤ L.length) : (some1 L j).length = L.length := by simp [some1]; omega
theorem some1_get (L : List Cl) (j i : Nat) (hj : j ≤ L.length) : (some1 L j)[i]? = if i < j then L[i]? else if i < L.length then some none else none := by
  unfold some1
  have ht : (L.take j).length = j := by simp; omega
  by_cases h : i < j
  · rw [List.getElem?_append_left (by omega), if_pos h, List.getElem?_take, if_pos h]
  · rw [List.getElem?_append_right (by omega), if_neg h, List.getElem?_replicate, ht]
    by_cases h2 : i < L.length
    · rw [if_pos (by omega), if_pos h2]
    · rw [if_neg (by omega), if_neg h2]
theorem some1_all (L : List Cl) : some1 L L.length = L := by simp [some1]
theorem some1_set (L : List Cl) (j : Nat) (c : Cl) (hc : L[j]? = some c) : (some1 L j).set j c = some1 L (j + 1) := by
  have hj : j < L.length := (List.getElem?_eq_some_iff.1 hc).1
  apply List.ext_getElem?
  intro i
  rw [List.getElem?_set, some1_get L (j + 1) i (by omega), some1_get L j i (by omega), some1_len L j (by omega)]
  by_cases h : j = i
  · subst h
    rw [if_pos rfl, if_pos hj, if_pos (by omega), hc]
  · by_cases h2 : i < j
    · simp only [h, h2, if_false, if_true, show i < j + 1 by omega]
    · simp only [h, h2, if_false, show ¬ i < j + 1 by omega]
theorem some1_none (L : List Cl) (j : Nat) (hc : L[j]? = some none) : some1 L j = some1 L (j + 1) := by
  have hj : j < L.length := (List.getElem?_eq_some_iff.1 hc).1
  rw [← some1_set L j none hc]
  apply List.ext_getElem?
  intro i
  rw [List.getElem?_set, some1_get L j i (by omega), some1_len L j (by omega)]
  by_cases h : j = i
  · subst h
    simp [hj]
  · rw [if_neg h]

theorem scan_spec (l : List Cl) : ∀ (c f : Nat), f + c ≤ l.length → ((∀ i, i < c → ∃ x, l[f + i]? = some (some x)) → scanE (l.drop f) c = 0) ∧ ((∃ i, i < c ∧ l[f + i]? = some none) → scanE (l.drop f) c = 14)
  | 0, f, _ => ⟨fun _ => by cases l.drop f <;> rfl, fun ⟨i, hi, _⟩ => absurd hi (Nat.not_lt_zero _)⟩
  | c + 1, f, h => by
    have hd := scanE_drop l f (c + 1) 0 (by omega)
    simp only [Nat.add_zero, Nat.zero_add, Nat.sub_zero, Nat.add_sub_cancel] at hd
    obtain ⟨h1, h2⟩ := scan_spec l c (f + 1) (by omega)
    refine ⟨fun ha => ?_, fun ⟨i, hi, hn⟩ => ?_⟩
    · obtain ⟨x, hx⟩ := ha 0 (by omega)
      rw [Nat.add_zero] at hx
      rw [hd, hx]
      exact h1 fun i hi => by have := ha (i + 1) (by omega); rwa [show f + (i + 1) = f + 1 + i by omega] at this
    · rw [hd, List.getElem?_eq_getElem (by omega)]
      cases hc : l[f]'(by omega) with
      | none => rfl
      | some x =>
        cases i with
        | zero =>
          rw [Nat.add_zero, List.getElem?_eq_getElem (by omega), hc] at hn
          cases hn
        | succ i => exact h2 ⟨i, by omega, by rw [show f + 1 + i = f + (i + 1) by omega]; exact hn⟩

/-- the loop's state: the first j words are looked at -/
def Mixed (B : Nat) (w0 : World) (mb bp : Nat) (L : List Cl) (wr : World) (j : Nat) : Prop :=
  ∃ lm loc, St B w0 wr mb lm loc ⟨100, [some (some1 L j)]⟩ ∧ Loc wr mb lm loc ⟨100, [some (some1 L j)]⟩ bp true 1 0
theorem Mixed.step {B : Nat} {w0 w w' : World} {mb bp j : Nat} {L : List Cl} {lm : Option Nat} {loc : Nat → Nat} {x : Wd} (T : St B w0 w mb lm loc ⟨100, [some (some1 L j)]⟩) (lp : Loc w mb lm loc ⟨100, [some (some1 L j)]⟩ bp true 1 0) (hx : L[j]? = some (some x))
    (ht : Turned w w' mb lm loc ⟨100, [some (some1 L j)]⟩ (MS.setb ⟨100, [some (some1 L j)]⟩ 0 (some ((some1 L j).set j (some x))))) : Mixed B w0 mb bp L w' (j + 1) := by
  obtain ⟨lm', loc', T', F', K'⟩ := T.turned ht
  have lp' := lp.turned F' K'
  rw [some1_set L j (some x) hx] at T' lp'
  exact ⟨lm', loc', T', lp'⟩
theorem Mixed.skip {B : Nat} {w0 w : World} {mb bp j : Nat} {L : List Cl} {lm : Option Nat} {loc : Nat → Nat} (T : St B w0 w mb lm loc ⟨100, [some (some1 L j)]⟩) (lp : Loc w mb lm loc ⟨100, [some (some1 L j)]⟩ bp true 1 0) (hx : L[j]? = some none) : Mixed B w0 mb bp L w (j + 1) := by
  rw [some1_none L j hx] at T lp
  exact ⟨lm, loc, T, lp⟩

/-- all that is to be copied is stored, as far as j -/
def AllTo (bs : List Bool) (f n j : Nat) : Prop := ∀ i, i < j → bs[i]? = some false → i < f ∨ f + n ≤ i
theorem AllTo.step {bs : List Bool} {f n j : Nat} {b : Bool} (hb : bs[j]? = some b) (h : AllTo bs f n j) (hc : b = true ∨ j < f ∨ f + n ≤ j) : AllTo bs f n (j + 1) := fun i hi hn => by
  by_cases e : i = j
  · subst e
    rw [hb] at hn
    cases hn
    rcases hc with h1 | h1
    · cases h1
    · exact h1
  · exact h i (by omega) hn

theorem AllTo.mono {bs : List Bool} {f n j : Nat} (h : AllTo bs f n (j + 1)) : AllTo bs f n j := fun i hi hn => h i (by omega) hn
theorem AllTo.iff_false {bs : List Bool} {f n j : Nat} (h : false = true ↔ AllTo bs f n j) : false = true ↔ AllTo bs f n (j + 1) := ⟨(fun h' => by cases h'), (fun h' => h.2 h'.mono)⟩
theorem AllTo.iff_true {bs : List Bool} {f n j : Nat} {b : Bool} (hb : bs[j]? = some b) (h : true = true ↔ AllTo bs f n j) (hc : b = true ∨ j < f ∨ f + n ≤ j) : true = true ↔ AllTo bs f n (j + 1) := ⟨fun _ => (h.1 rfl).step hb hc, fun _ => rfl⟩
theorem AllTo.iff_not {bs : List Bool} {f n j : Nat} (hb : bs[j]? = some false) (hc : f ≤ j ∧ j < f + n) : false = true ↔ AllTo bs f n (j + 1) := ⟨(fun h' => by cases h'), (fun h' => by have := h' j (by omega) hb; omega)⟩

def copied (L : List Cl) (f t n : Nat) : List Cl := lay L t ((L.drop f).take n)
theorem copied_get (L : List Cl) (f t n i : Nat) (hf : f + n ≤ L.length) (ht : t + n ≤ L.length) : (copied L f t n)[i]? = if t ≤ i ∧ i < t + n then L[f + i - t]? else L[i]? := by
  have hl : ((L.drop f).take n).length = n := by simp; omega
  unfold copied
  rw [lay_get _ _ _ _ (by rw [hl]; exact ht), hl]
  by_cases h1 : i < t
  · rw [if_pos h1, if_neg (by omega)]
  · rw [if_neg h1]
    by_cases h2 : i < t + n
    · rw [if_pos h2, if_pos ⟨by omega, h2⟩, List.getElem?_take, if_pos (by omega), List.getElem?_drop]
      congr 1
      omega
    · rw [if_neg h2, if_neg (by omega)]
theorem copied_zero (L : List Cl) (f t : Nat) : copied L f t 0 = L := by simp [copied, lay]

theorem copy_is {w : World} {mb : Nat} {lm : Option Nat} {loc : Nat → Nat} {L : List Cl} (R : RepAt w mb lm loc ⟨100, [some L]⟩) (f t n : Nat) (hf : f + n ≤ L.length) (ht : t + n ≤ L.length) (hall : ∀ i, i < n → ∃ x, L[f + i]? = some (some x)) (hn : n < 9223372036854775807) :
    Calls Try.prog 23 #[.pointer (some ⟨mb, 0, none⟩), .agg #[.bool true, .int .i64 1, .int .i64 (t : Int)], .agg #[.bool true, .int .i64 1, .int .i64 (f : Int)], .int .i64 (n : Int)] w fun e w' =>
      e = .returned (.int .i64 0) ∧ Turned w w' mb lm loc ⟨100, [some L]⟩ ⟨100, [some (copied L f t n)]⟩ := by
  by_cases h0 : n = 0
  · subst h0
    rw [copied_zero]
    refine (copy_zero R true true 1 t 1 f ?_).mono ?_
    · have h := spanE_at (S := ⟨100, [some L]⟩) (k := 0) (l := L) rfl t 0
      rw [if_neg (by omega)] at h
      exact h
    · rintro e w' ⟨rfl, hb⟩
      exact ⟨rfl, lm, loc, R.below hb, fun b h => .inl h, Kept.of_below hb⟩
  · refine (copy_ok R 0 0 L L rfl rfl t f n ht (by omega) (by omega) ((scan_spec L n f hf).1 hall) hf hn).mono ?_
    rintro e w' ⟨rfl, h⟩
    exact ⟨rfl, h⟩
theorem copy_not {w : World} {mb : Nat} {lm : Option Nat} {loc : Nat → Nat} {L : List Cl} (R : RepAt w mb lm loc ⟨100, [some L]⟩) (f t n : Nat) (hf : f + n ≤ L.length) (hex : ∃ i, i < n ∧ L[f + i]? = some none) (hn : n < 9223372036854775807) :
    Calls Try.prog 23 #[.pointer (some ⟨mb, 0, none⟩), .agg #[.bool true, .int .i64 1, .int .i64 (t : Int)], .agg #[.bool true, .int .i64 1, .int .i64 (f : Int)], .int .i64 (n : Int)] w fun e w' => e = .returned (.int .i64 14) ∧ Below w.heap.size w w' := by
  have h0 : 0 < n := by obtain ⟨i, hi, _⟩ := hex; omega
  have h := storedE_at (S := ⟨100, [some L]⟩) (k := 0) (l := L) rfl f n (by omega)
  rw [if_neg (by omega), Int.toNat_natCast, Int.toNat_natCast, (scan_spec L n f hf).2 hex] at h
  exact copy_fail1 R true true 1 t 1 f n 14 h (by decide) (by omega)

set_option maxRecDepth 100000 in
set_option maxHeartbeats 3000000 in
theorem memCopies_main (oa ob : Option Addr) (ab off cap bb boff bcap : Nat) (ws : List Wd) (bs : List Bool) (f t n : Nat) (w : World) (hoa : 0 < ws.length → oa = some ⟨ab, off, none⟩ ∧ ab < w.heap.size) (hob : 0 < ws.length → ob = some ⟨bb, boff, none⟩ ∧ bb < w.heap.size)
    (hlen : ws.length ≤ 40) (hbl : Hid (bs.length = ws.length)) (hf : f ≤ ws.length) (ht : t ≤ ws.length) (hn : n ≤ ws.length - f) (hn2 : n ≤ ws.length - t) (hA : Hid (WordsAt w ab off ws)) (hB : Hid (BoolsAt w bb boff bs)) :
    Calls Try.prog 7 #[.slice oa ws.length cap, .slice ob ws.length bcap, .int .i64 f, .int .i64 t, .int .i64 n] w fun e w' => e = .returned (.bool true) ∧ Below w.heap.size w w' := by
  have t1 : decide ((40 : Int) < ws.length) = false := by simp; omega
  have t2 : decide ((f : Int) < 0) = false := by simp
  have t2' : decide ((t : Int) < 0) = false := by simp
  have t3 : decide ((n : Int) < 0) = false := by simp
  have t4 : decide ((ws.length : Int) < f) = false := by simp; omega
  have t4' : decide ((ws.length : Int) < t) = false := by simp; omega
  have t5 : decide ((ws.length : Int) - f < n) = false := by simp; omega
  have t5' : decide ((ws.length : Int) - t < n) = false := by simp; omega
  replace hoa := Lib.hid hoa
  replace hob := Lib.hid hob
  go_enter Try.func7, Try.ntmps7
  go_wp2_with fail
  refine (works_any _).mono ?_
  rintro e w1 ⟨rfl, hb1⟩
  go_wp2_with fail
  refine (new_any 100 100 _ rfl).mono ?_
  rintro e w2 ⟨rfl, R2, hb2, hz2⟩
  obtain ⟨T2, F2⟩ := St.new hb1 hb1.size R2 hb2
  generalize hmb : w1.heap.size = mb at R2 T2 F2 ⊢
  clear hmb F2
  go_wp2_with fail
  refine (alloc_any R2 ws.length 1 (by omega) (by show (ws.length : Int) ≤ 100 - 0; omega) (by show 0 + 1 < 1000; decide) rfl).mono ?_
  rintro e w3 ⟨rfl, ht⟩
  obtain ⟨lm3, loc3, T3, F3, K3⟩ := T2.turned ht
  rw [Int.toNat_natCast] at T3 F3
  clear ht F3 K3
  have lp := Loc.mk' T3 true 1 0
  go_wp2_with fail
  have T3' := T3.alloc (.cells #[.bool true, .int .i64 1, .int .i64 0] 30)
  generalize w3.alloc (.cells #[.bool true, .int .i64 1, .int .i64 0] 30) = W3 at lp T3' ⊢
  generalize w3.heap.size = bp at lp ⊢
  have hF : Mixed w.heap.size w mb bp (mix ws bs) W3 0 := by
    have e : MS.push ⟨100, []⟩ ws.length = ⟨100, [some (some1 (mix ws bs) 0)]⟩ := by simp [MS.push, some1, mix_len ws bs hbl.out]
    rw [e] at T3' lp
    exact ⟨lm3, loc3, T3', lp⟩
  clear T3 T3' lp T2 R2
  go_loopw [16, 17] (fun u i wr => ∃ (j : Nat) (al : Bool), j ≤ ws.length ∧ i = .int .i64 j ∧ u = .bool al ∧ (al = true ↔ AllTo bs f n j) ∧ Mixed w.heap.size w mb bp (mix ws bs) wr j) (fun _ i _ => ws.length - (intOf i).toNat)
  case atStart => exact ⟨0, true, by omega, rfl, rfl, ⟨fun _ i hi => absurd hi (Nat.not_lt_zero _), fun _ => rfl⟩, hF⟩
  case round =>
    obtain ⟨j, al, hj, rfl, rfl, hal, lm, loc, T, lp⟩ := hrel
    have HL := Lib.hid hal
    clear hal
    by_cases hjl : j < ws.length
    · have t6 : decide ((j : Int) < ws.length) = true := by simpa using hjl
      obtain ⟨rfl, hab⟩ := hoa.out (by omega)
      obtain ⟨rfl, hbb⟩ := hob.out (by omega)
      obtain ⟨p0, p1, p2, p3⟩ := lp.cells
      go_wp2_with fail
      refine (off_any true 1 0 j _ (by omega) rfl).mono ?_
      rintro e w4 ⟨rfl, hb4⟩
      have T4 := T.next hb4
      replace lp := lp.next hb4
      obtain ⟨x, hx⟩ : ∃ x, ws[j]? = some x := ⟨_, List.getElem?_eq_getElem hjl⟩
      obtain ⟨b, hb⟩ : ∃ b, bs[j]? = some b := ⟨_, List.getElem?_eq_getElem (by have := hbl.out; omega)⟩
      have hab4 : ab < w4.heap.size := by have := T4.le; omega
      have hbb4 : bb < w4.heap.size := by have := T4.le; omega
      have k0 := (T4.below.cell (p := ⟨bb, boff + j, none⟩) hbb).trans (hB.out j b hb)
      have HM := Lib.hid (mix_get ws bs j x b hx hb)
      obtain ⟨g0, g1, g2⟩ := hA.out j x hx
      replace g0 := (T4.below.cell (p := ⟨ab, off + j * 3, none⟩) hab).trans g0
      replace g1 := (T4.below.cell (p := ⟨ab, off + j * 3 + 1, none⟩) hab).trans g1
      replace g2 := (T4.below.cell (p := ⟨ab, off + j * 3 + 2, none⟩) hab).trans g2
      have HX := Lib.hid hx
      have HB := Lib.hid hb
      clear hx hb
      have hfl : j < (some1 (mix ws bs) j).length := by rw [some1_len _ j (by rw [mix_len ws bs hbl.out]; exact hj), mix_len ws bs hbl.out]; exact hjl
      cases b with
      | true =>
        go_wp2_with fail
        go_region_with (go_at_call 21; refine (store_any (T4.alloc _).drew.rep true 1 j x.p x.a x.n 0 j _ rfl rfl rfl rfl hfl).mono ?_; rintro e w5 ⟨rfl, ht⟩)
        all_goals
          have hF' := Mixed.step (T4.alloc _).drew (lp.alloc _).drew HM.out ht
          obtain ⟨lm5, loc5, T5, F5, K5⟩ := (T4.alloc _).drew.turned ht
          have k5 := (T5.below.cell (p := ⟨bb, boff + j, none⟩) hbb).trans (hB.out j true HB.out)
          clear ht T5 F5 K5 T4 lp k0 g0 g1 g2
          cases al with
          | false =>
            go_wp2
            go_roundw
            case rel => exact ⟨j + 1, false, by omega, by go_num, rfl, AllTo.iff_false HL.out, hF'⟩
            case measure => simp [intOf]; omega
          | true =>
            go_wp2
            go_roundw
            case rel => exact ⟨j + 1, true, by omega, by go_num, rfl, AllTo.iff_true HB.out HL.out (.inl rfl), hF'⟩
            case measure => simp [intOf]; omega
      | false =>
        go_wp2_with fail
        go_quiet (fail)
        cases al with
        | false =>
          go_wp2
          go_roundw
          case rel => exact ⟨j + 1, false, by omega, by go_num, rfl, AllTo.iff_false HL.out, Mixed.skip ((T4.alloc _).drewN _) ((lp.alloc _).drewN _) HM.out⟩
          case measure => simp [intOf]; omega
        | true =>
          by_cases hjf : j < f
          · have s3 : decide ((j : Int) < f) = true := by simp; omega
            have s3' : decide (j < f) = true := by simp; omega
            go_wp2
            go_roundw
            case rel => exact ⟨j + 1, true, by omega, by go_num, rfl, AllTo.iff_true HB.out HL.out (.inr (.inl hjf)), Mixed.skip ((T4.alloc _).drewN _) ((lp.alloc _).drewN _) HM.out⟩
            case measure => simp [intOf]; omega
          · have s3 : decide ((j : Int) < f) = false := by simp; omega
            have s3' : decide (j < f) = false := by simp; omega
            by_cases hjn : f + n ≤ j
            · have s4 : decide ((f : Int) + n ≤ j) = true := by simp; omega
              go_wp2
              go_roundw
              case rel => exact ⟨j + 1, true, by omega, by go_num, rfl, AllTo.iff_true HB.out HL.out (.inr (.inr hjn)), Mixed.skip ((T4.alloc _).drewN _) ((lp.alloc _).drewN _) HM.out⟩
              case measure => simp [intOf]; omega
            · have s4 : decide ((f : Int) + n ≤ j) = false := by simp; omega
              go_wp2
              go_roundw
              case rel => exact ⟨j + 1, false, by omega, by go_num, rfl, AllTo.iff_not HB.out (by omega), Mixed.skip ((T4.alloc _).drewN _) ((lp.alloc _).drewN _) HM.out⟩
              case measure => simp [intOf]; omega
    · have t6 : decide ((j : Int) < ws.length) = false := by simpa using hjl
      obtain rfl : j = ws.length := by omega
      obtain ⟨p0, p1, p2, p3⟩ := lp.cells
      have hml := mix_len ws bs hbl.out
      have hall := some1_all (mix ws bs)
      rw [hml] at hall
      rw [hall] at T lp
      have HML := Lib.hid hml
      clear hml hall
      go_wp2_with fail
      refine (off_any true 1 0 f _ (by omega) rfl).mono ?_
      rintro e w4 ⟨rfl, hb4⟩
      have T4 := T.next hb4
      replace lp := lp.next hb4
      obtain ⟨p0, p1, p2, p3⟩ := lp.cells
      clear T
      go_wp2_with fail
      refine (off_any true 1 0 t _ (by omega) rfl).mono ?_
      rintro e w5 ⟨rfl, hb5⟩
      have lx := (Loc.mk' T4 true 1 f).next hb5
      have T5 := (T4.alloc _).next hb5
      replace lp := (lp.alloc _).next hb5
      obtain ⟨x0, x1, x2, x3⟩ := lx.cells
      generalize w4.heap.size = bx at lx x0 x1 x2 x3 ⊢
      clear T4
      cases al with
      | true =>
        have hat : AllTo bs f n ws.length := HL.out.1 rfl
        have HAT := Lib.hid hat
        have hcp : ∀ i, i < n → ∃ x, (mix ws bs)[f + i]? = some (some x) := fun i hi => by
          obtain ⟨x, hx⟩ : ∃ x, ws[f + i]? = some x := ⟨_, List.getElem?_eq_getElem (by omega)⟩
          obtain ⟨b, hb⟩ : ∃ b, bs[f + i]? = some b := ⟨_, List.getElem?_eq_getElem (by have := hbl.out; omega)⟩
          have hm := mix_get ws bs _ x b hx hb
          cases b with
          | true => exact ⟨x, hm⟩
          | false => have := hat (f + i) (by omega) hb; omega
        have HCP := Lib.hid hcp
        clear hat hcp
        go_wp2_with fail
        refine (copy_is (T5.alloc _).rep f t n (by rw [HML.out]; omega) (by rw [HML.out]; omega) HCP.out (by omega)).mono ?_
        rintro e w6 ⟨rfl, ht⟩
        obtain ⟨lm6, loc6, T6, F6, K6⟩ := (T5.alloc _).turned ht
        replace lp := (lp.alloc _).turned F6 K6
        have hS : Stays w.heap.size w mb bp (copied (mix ws bs) f t n) w6 := ⟨lm6, loc6, T6, lp⟩
        clear ht F6 K6 T5 T6 lp lx
        go_wp2_with fail
        go_loopw [25] (fun i wr => ∃ j : Nat, j ≤ ws.length ∧ i = .int .i64 j ∧ Stays w.heap.size w mb bp (copied (mix ws bs) f t n) wr) (fun i _ => ws.length - (intOf i).toNat)
        case atStart => exact ⟨0, by omega, rfl, hS⟩
        case round =>
          obtain ⟨j, hj, rfl, lm, loc, T, lp⟩ := hrel
          by_cases hjl : j < ws.length
          · have t6 : decide ((j : Int) < ws.length) = true := by simpa using hjl
            obtain ⟨rfl, hab⟩ := hoa.out (by omega)
            obtain ⟨rfl, hbb⟩ := hob.out (by omega)
            obtain ⟨p0, p1, p2, p3⟩ := lp.cells
            go_wp2_with fail
            refine (off_any true 1 0 j _ (by omega) rfl).mono ?_
            rintro e w7 ⟨rfl, hb7⟩
            have T7 := T.next hb7
            replace lp := lp.next hb7
            have hc := copied_get (mix ws bs) f t n j (by rw [HML.out]; omega) (by rw [HML.out]; omega)
            by_cases hin : t ≤ j ∧ j < t + n
            · rw [if_pos hin] at hc
              obtain ⟨a, ha⟩ : ∃ a : Nat, f + j = a + t := ⟨f + j - t, by omega⟩
              rw [show f + j - t = a by omega] at hc
              have haw : a < ws.length := by omega
              have haf : f ≤ a ∧ a < f + n := by omega
              have ea : (f : Int) + j - t = a := by omega
              obtain ⟨x, hx⟩ : ∃ x, ws[a]? = some x := ⟨_, List.getElem?_eq_getElem haw⟩
              obtain ⟨b, hb⟩ : ∃ b, bs[a]? = some b := ⟨_, List.getElem?_eq_getElem (by have := hbl.out; omega)⟩
              obtain rfl : b = true := by
                cases b with
                | true => rfl
                | false => have := HAT.out a haw hb; omega
              rw [mix_get ws bs a x true hx hb] at hc
              have HC := Lib.hid hc
              have HX := Lib.hid hx
              have HB := Lib.hid hb
              have EA := Lib.hid ea
              clear hc hx hb ha ea
              have s1 : decide ((t : Int) ≤ j) = true := by simp; omega
              have s1' : decide (t ≤ j) = true := by simp; omega
              have s2 : decide ((j : Int) < (t : Int) + n) = true := by simp; omega
              go_wp2_with fail
              refine (load_any (T7.alloc _).rep true 1 j x 0 (loadR_val rfl j x HC.out 1 rfl _ rfl)).mono ?_
              rintro e w8 ⟨rfl, hb8⟩
              have T8 := (T7.alloc _).next hb8
              replace lp := (lp.alloc _).next hb8
              have lx := Loc.mk' T8 x.p x.a x.n
              obtain ⟨g0, g1, g2⟩ := hA.out a x HX.out
              have hab8 : ab < w8.heap.size := by have := T8.le; omega
              have hbb8 : bb < w8.heap.size := by have := T8.le; omega
              have k0 := (T8.below.cell (p := ⟨bb, boff + a, none⟩) hbb).trans (hB.out a true HB.out)
              replace g0 := (T8.below.cell (p := ⟨ab, off + a * 3, none⟩) hab).trans g0
              replace g1 := (T8.below.cell (p := ⟨ab, off + a * 3 + 1, none⟩) hab).trans g1
              replace g2 := (T8.below.cell (p := ⟨ab, off + a * 3 + 2, none⟩) hab).trans g2
              have ea := EA.out
              have hja : (a : Int) < ws.length := by omega
              go_wp2_with fail
              go_quiet (fail)
              go_wp2
              go_roundw
              case rel => exact ⟨j + 1, by omega, by go_num, lm, loc, (T8.alloc _).drewN _, (lp.alloc _).drewN _⟩
              case measure => simp [intOf]; omega
            · rw [if_neg hin] at hc
              obtain ⟨x, hx⟩ : ∃ x, ws[j]? = some x := ⟨_, List.getElem?_eq_getElem hjl⟩
              obtain ⟨b, hb⟩ : ∃ b, bs[j]? = some b := ⟨_, List.getElem?_eq_getElem (by have := hbl.out; omega)⟩
              rw [mix_get ws bs j x b hx hb] at hc
              have HC := Lib.hid hc
              have HX := Lib.hid hx
              have HB := Lib.hid hb
              clear hc hx hb
              by_cases hjt : j < t
              · have s1 : decide ((t : Int) ≤ j) = false := by simp; omega
                have s1' : decide (t ≤ j) = false := by simp; omega
                cases b with
                | true =>
                  go_wp2_with fail
                  refine (load_any (T7.alloc _).rep true 1 j x 0 (loadR_val rfl j x HC.out 1 rfl _ rfl)).mono ?_
                  rintro e w8 ⟨rfl, hb8⟩
                  have T8 := (T7.alloc _).next hb8
                  replace lp := (lp.alloc _).next hb8
                  have lx := Loc.mk' T8 x.p x.a x.n
                  obtain ⟨g0, g1, g2⟩ := hA.out j x HX.out
                  have hab8 : ab < w8.heap.size := by have := T8.le; omega
                  have hbb8 : bb < w8.heap.size := by have := T8.le; omega
                  have k0 := (T8.below.cell (p := ⟨bb, boff + j, none⟩) hbb).trans (hB.out j true HB.out)
                  replace g0 := (T8.below.cell (p := ⟨ab, off + j * 3, none⟩) hab).trans g0
                  replace g1 := (T8.below.cell (p := ⟨ab, off + j * 3 + 1, none⟩) hab).trans g1
                  replace g2 := (T8.below.cell (p := ⟨ab, off + j * 3 + 2, none⟩) hab).trans g2
                  go_wp2_with fail
                  go_quiet (fail)
                  go_wp2
                  go_roundw
                  case rel => exact ⟨j + 1, by omega, by go_num, lm, loc, (T8.alloc _).drewN _, (lp.alloc _).drewN _⟩
                  case measure => simp [intOf]; omega
                | false =>
                  go_wp2_with fail
                  refine (load_any (T7.alloc _).rep true 1 j ⟨false, 0, 0⟩ 14 (loadR_none rfl j HC.out 1 rfl _ rfl)).mono ?_
                  rintro e w8 ⟨rfl, hb8⟩
                  have T8 := (T7.alloc _).next hb8
                  replace lp := (lp.alloc _).next hb8
                  have lx := Loc.mk' T8 false 0 0
                  obtain ⟨g0, g1, g2⟩ := hA.out j x HX.out
                  have hab8 : ab < w8.heap.size := by have := T8.le; omega
                  have hbb8 : bb < w8.heap.size := by have := T8.le; omega
                  have k0 := (T8.below.cell (p := ⟨bb, boff + j, none⟩) hbb).trans (hB.out j false HB.out)
                  replace g0 := (T8.below.cell (p := ⟨ab, off + j * 3, none⟩) hab).trans g0
                  replace g1 := (T8.below.cell (p := ⟨ab, off + j * 3 + 1, none⟩) hab).trans g1
                  replace g2 := (T8.below.cell (p := ⟨ab, off + j * 3 + 2, none⟩) hab).trans g2
                  go_wp2_with fail
                  go_quiet (fail)
                  go_wp2
                  go_roundw
                  case rel => exact ⟨j + 1, by omega, by go_num, lm, loc, (T8.alloc _).drewN _, (lp.alloc _).drewN _⟩
                  case measure => simp [intOf]; omega
              · have s1 : decide ((t : Int) ≤ j) = true := by simp; omega
                have s1' : decide (t ≤ j) = true := by simp; omega
                have s2 : decide ((j : Int) < (t : Int) + n) = false := by simp; omega
                cases b with
                | true =>
                  go_wp2_with fail
                  refine (load_any (T7.alloc _).rep true 1 j x 0 (loadR_val rfl j x HC.out 1 rfl _ rfl)).mono ?_
                  rintro e w8 ⟨rfl, hb8⟩
                  have T8 := (T7.alloc _).next hb8
                  replace lp := (lp.alloc _).next hb8
                  have lx := Loc.mk' T8 x.p x.a x.n
                  obtain ⟨g0, g1, g2⟩ := hA.out j x HX.out
                  have hab8 : ab < w8.heap.size := by have := T8.le; omega
                  have hbb8 : bb < w8.heap.size := by have := T8.le; omega
                  have k0 := (T8.below.cell (p := ⟨bb, boff + j, none⟩) hbb).trans (hB.out j true HB.out)
                  replace g0 := (T8.below.cell (p := ⟨ab, off + j * 3, none⟩) hab).trans g0
                  replace g1 := (T8.below.cell (p := ⟨ab, off + j * 3 + 1, none⟩) hab).trans g1
                  replace g2 := (T8.below.cell (p := ⟨ab, off + j * 3 + 2, none⟩) hab).trans g2
                  go_wp2_with fail
                  go_quiet (fail)
                  go_wp2
                  go_roundw
                  case rel => exact ⟨j + 1, by omega, by go_num, lm, loc, (T8.alloc _).drewN _, (lp.alloc _).drewN _⟩
                  case measure => simp [intOf]; omega
                | false =>
                  go_wp2_with fail
                  refine (load_any (T7.alloc _).rep true 1 j ⟨false, 0, 0⟩ 14 (loadR_none rfl j HC.out 1 rfl _ rfl)).mono ?_
                  rintro e w8 ⟨rfl, hb8⟩
                  have T8 := (T7.alloc _).next hb8
                  replace lp := (lp.alloc _).next hb8
                  have lx := Loc.mk' T8 false 0 0
                  obtain ⟨g0, g1, g2⟩ := hA.out j x HX.out
                  have hab8 : ab < w8.heap.size := by have := T8.le; omega
                  have hbb8 : bb < w8.heap.size := by have := T8.le; omega
                  have k0 := (T8.below.cell (p := ⟨bb, boff + j, none⟩) hbb).trans (hB.out j false HB.out)
                  replace g0 := (T8.below.cell (p := ⟨ab, off + j * 3, none⟩) hab).trans g0
                  replace g1 := (T8.below.cell (p := ⟨ab, off + j * 3 + 1, none⟩) hab).trans g1
                  replace g2 := (T8.below.cell (p := ⟨ab, off + j * 3 + 2, none⟩) hab).trans g2
                  go_wp2_with fail
                  go_quiet (fail)
                  go_wp2
                  go_roundw
                  case rel => exact ⟨j + 1, by omega, by go_num, lm, loc, (T8.alloc _).drewN _, (lp.alloc _).drewN _⟩
                  case measure => simp [intOf]; omega
          · have t6 : decide ((j : Int) < ws.length) = false := by simpa using hjl
            go_wp2
            go_ret
            exact ⟨rfl, T.below⟩
      | false =>
        have hex : ∃ i, i < n ∧ (mix ws bs)[f + i]? = some none := by
          apply Classical.byContradiction
          intro hno
          have hat : AllTo bs f n ws.length := fun i hi hb => by
            apply Classical.byContradiction
            intro hni
            obtain ⟨x, hx⟩ : ∃ x, ws[i]? = some x := ⟨_, List.getElem?_eq_getElem hi⟩
            exact hno ⟨i - f, by omega, by rw [show f + (i - f) = i by omega, mix_get ws bs i x false hx hb]; rfl⟩
          have := HL.out.2 hat
          cases this
        have HEX := Lib.hid hex
        clear hex
        go_wp2_with fail
        refine (copy_not (T5.alloc _).rep f t n (by rw [HML.out]; omega) HEX.out (by omega)).mono ?_
        rintro e w6 ⟨rfl, hb6⟩
        have T6 := (T5.alloc _).next hb6
        replace lp := (lp.alloc _).next hb6
        have hS : Stays w.heap.size w mb bp (mix ws bs) w6 := ⟨lm, loc, T6, lp⟩
        clear T5 T6 lp lx
        go_wp2_with fail
        go_loopw [25] (fun i wr => ∃ j : Nat, j ≤ ws.length ∧ i = .int .i64 j ∧ Stays w.heap.size w mb bp (mix ws bs) wr) (fun i _ => ws.length - (intOf i).toNat)
        case atStart => exact ⟨0, by omega, rfl, hS⟩
        case round =>
          obtain ⟨j, hj, rfl, lm, loc, T, lp⟩ := hrel
          by_cases hjl : j < ws.length
          · have t6 : decide ((j : Int) < ws.length) = true := by simpa using hjl
            obtain ⟨rfl, hab⟩ := hoa.out (by omega)
            obtain ⟨rfl, hbb⟩ := hob.out (by omega)
            obtain ⟨p0, p1, p2, p3⟩ := lp.cells
            go_wp2_with fail
            refine (off_any true 1 0 j _ (by omega) rfl).mono ?_
            rintro e w7 ⟨rfl, hb7⟩
            have T7 := T.next hb7
            replace lp := lp.next hb7
            obtain ⟨x, hx⟩ : ∃ x, ws[j]? = some x := ⟨_, List.getElem?_eq_getElem hjl⟩
            obtain ⟨b, hb⟩ : ∃ b, bs[j]? = some b := ⟨_, List.getElem?_eq_getElem (by have := hbl.out; omega)⟩
            have HC := Lib.hid (mix_get ws bs j x b hx hb)
            have HX := Lib.hid hx
            have HB := Lib.hid hb
            clear hx hb
            cases b with
            | true =>
              go_wp2_with fail
              refine (load_any (T7.alloc _).rep true 1 j x 0 (loadR_val rfl j x HC.out 1 rfl _ rfl)).mono ?_
              rintro e w8 ⟨rfl, hb8⟩
              have T8 := (T7.alloc _).next hb8
              replace lp := (lp.alloc _).next hb8
              have lx := Loc.mk' T8 x.p x.a x.n
              obtain ⟨g0, g1, g2⟩ := hA.out j x HX.out
              have hab8 : ab < w8.heap.size := by have := T8.le; omega
              have hbb8 : bb < w8.heap.size := by have := T8.le; omega
              have k0 := (T8.below.cell (p := ⟨bb, boff + j, none⟩) hbb).trans (hB.out j true HB.out)
              replace g0 := (T8.below.cell (p := ⟨ab, off + j * 3, none⟩) hab).trans g0
              replace g1 := (T8.below.cell (p := ⟨ab, off + j * 3 + 1, none⟩) hab).trans g1
              replace g2 := (T8.below.cell (p := ⟨ab, off + j * 3 + 2, none⟩) hab).trans g2
              go_wp2_with fail
              go_quiet (fail)
              go_wp2
              go_roundw
              case rel => exact ⟨j + 1, by omega, by go_num, lm, loc, (T8.alloc _).drewN _, (lp.alloc _).drewN _⟩
              case measure => simp [intOf]; omega
            | false =>
              go_wp2_with fail
              refine (load_any (T7.alloc _).rep true 1 j ⟨false, 0, 0⟩ 14 (loadR_none rfl j HC.out 1 rfl _ rfl)).mono ?_
              rintro e w8 ⟨rfl, hb8⟩
              have T8 := (T7.alloc _).next hb8
              replace lp := (lp.alloc _).next hb8
              have lx := Loc.mk' T8 false 0 0
              obtain ⟨g0, g1, g2⟩ := hA.out j x HX.out
              have hab8 : ab < w8.heap.size := by have := T8.le; omega
              have hbb8 : bb < w8.heap.size := by have := T8.le; omega
              have k0 := (T8.below.cell (p := ⟨bb, boff + j, none⟩) hbb).trans (hB.out j false HB.out)
              replace g0 := (T8.below.cell (p := ⟨ab, off + j * 3, none⟩) hab).trans g0
              replace g1 := (T8.below.cell (p := ⟨ab, off + j * 3 + 1, none⟩) hab).trans g1
              replace g2 := (T8.below.cell (p := ⟨ab, off + j * 3 + 2, none⟩) hab).trans g2
              go_wp2_with fail
              go_quiet (fail)
              go_wp2
              go_roundw
              case rel => exact ⟨j + 1, by omega, by go_num, lm, loc, (T8.alloc _).drewN _, (lp.alloc _).drewN _⟩
              case measure => simp [intOf]; omega
          · have t6 : decide ((j : Int) < ws.length) = false := by simpa using hjl
            go_wp2
            go_ret
            exact ⟨rfl, T.below⟩
end Go.Proofs.Ytbcockaleegicaa
