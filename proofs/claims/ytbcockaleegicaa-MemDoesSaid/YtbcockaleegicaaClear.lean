/-
  MemClear answers true for every input. No conditions.
-/
import Derived.Test.YtbcockaleegicaaFreed
import Derived.Deep.RegionWith
namespace Go.Proofs.Ytbcockaleegicaa
open Go.RowKit Go.ChangeShapes Go.WideShapes Go.ChangeAt

theorem RepAt.drewN {w : World} {mb : Nat} {lm : Option Nat} {loc : Nat → Nat} {S : MS} (R : RepAt w mb lm loc S) (n : Nat) : RepAt (w.drewN n) mb lm loc S := R.keep fun _ _ => rfl
theorem St.drew {B : Nat} {w0 w : World} {mb : Nat} {lm : Option Nat} {loc : Nat → Nat} {S : MS} (h : St B w0 w mb lm loc S) : St B w0 w.drew mb lm loc S := ⟨h.rep.keep fun _ _ => rfl, h.own, h.below.drew, h.le⟩
theorem St.drewN {B : Nat} {w0 w : World} {mb : Nat} {lm : Option Nat} {loc : Nat → Nat} {S : MS} (h : St B w0 w mb lm loc S) (n : Nat) : St B w0 (w.drewN n) mb lm loc S := ⟨h.rep.keep fun _ _ => rfl, h.own, below_drewN h.below n, h.le⟩
theorem Loc.drew {w : World} {mb : Nat} {lm : Option Nat} {loc : Nat → Nat} {S : MS} {b : Nat} {p : Bool} {a n : Int} (h : Loc w mb lm loc S b p a n) : Loc w.drew mb lm loc S b p a n := ⟨h.var, h.free⟩
theorem Loc.drewN {w : World} {mb : Nat} {lm : Option Nat} {loc : Nat → Nat} {S : MS} {b : Nat} {p : Bool} {a n : Int} (h : Loc w mb lm loc S b p a n) (k : Nat) : Loc (w.drewN k) mb lm loc S b p a n := ⟨h.var, h.free⟩

/-- a slice of Words lies at a place -/
def WordsAt (w : World) (b off : Nat) (ws : List Wd) : Prop := ∀ i x, ws[i]? = some x → w.cell? ⟨b, off + i * 3, none⟩ = some (.bool x.p) ∧ w.cell? ⟨b, off + i * 3 + 1, none⟩ = some (.int .i64 x.a) ∧ w.cell? ⟨b, off + i * 3 + 2, none⟩ = some (.int .i64 x.n)

def fill (ws : List Wd) (j : Nat) : List Cl := (ws.take j).map some ++ List.replicate (ws.length - j) none
theorem fill_len (ws : List Wd) (j : Nat) (hj : j ≤ ws.length) : (fill ws j).length = ws.length := by simp [fill]; omega
theorem fill_get (ws : List Wd) (j i : Nat) (hj : j ≤ ws.length) : (fill ws j)[i]? = if i < j then (ws[i]?).map some else if i < ws.length then some none else none := by
  unfold fill
  by_cases h : i < j
  · rw [List.getElem?_append_left (by simp; omega), if_pos h]
    simp [h]
  · rw [List.getElem?_append_right (by simp; omega), if_neg h, List.getElem?_replicate]
    simp only [List.length_map, List.length_take]
    by_cases h2 : i < ws.length
    · rw [if_pos (by omega), if_pos h2]
    · rw [if_neg (by omega), if_neg h2]
theorem fill_set (ws : List Wd) (j : Nat) (x : Wd) (hx : ws[j]? = some x) : (fill ws j).set j (some x) = fill ws (j + 1) := by
  have hj : j < ws.length := (List.getElem?_eq_some_iff.1 hx).1
  apply List.ext_getElem?
  intro i
  rw [List.getElem?_set, fill_get ws (j + 1) i (by omega), fill_get ws j i (by omega), fill_len ws j (by omega)]
  by_cases h : j = i
  · subst h
    rw [if_pos rfl, if_pos hj, if_pos (by omega), hx]
    rfl
  · by_cases h2 : i < j
    · simp only [h, h2, if_false, if_true, show i < j + 1 by omega]
    · simp only [h, h2, if_false, show ¬ i < j + 1 by omega]

/-- the loop's state: the first j words are stored -/
def Filled (B : Nat) (w0 : World) (mb bp : Nat) (ws : List Wd) (wr : World) (j : Nat) : Prop :=
  ∃ lm loc, St B w0 wr mb lm loc ⟨100, [some (fill ws j)]⟩ ∧ Loc wr mb lm loc ⟨100, [some (fill ws j)]⟩ bp true 1 0

theorem loadR_none {S : MS} {k : Nat} {l : List Cl} (hl : S.at k = some l) (n : Nat) (hx : l[n]? = some none) (a : Int) (ha : a = (k : Int) + 1) (m : Int) (hm : m = n) : loadR S true a m = (⟨false, 0, 0⟩, 14) := by
  subst ha hm
  rw [loadR_get hl, hx]

theorem Filled.step {B : Nat} {w0 w w' : World} {mb bp j : Nat} {ws : List Wd} {lm : Option Nat} {loc : Nat → Nat} {x : Wd} (T : St B w0 w mb lm loc ⟨100, [some (fill ws j)]⟩) (lp : Loc w mb lm loc ⟨100, [some (fill ws j)]⟩ bp true 1 0) (hx : ws[j]? = some x)
    (ht : Turned w w' mb lm loc ⟨100, [some (fill ws j)]⟩ (MS.setb ⟨100, [some (fill ws j)]⟩ 0 (some ((fill ws j).set j (some x))))) : Filled B w0 mb bp ws w' (j + 1) := by
  obtain ⟨lm', loc', T', F', K'⟩ := T.turned ht
  have lp' := lp.turned F' K'
  rw [fill_set ws j x hx] at T' lp'
  exact ⟨lm', loc', T', lp'⟩

theorem clear_is {w : World} {mb : Nat} {lm : Option Nat} {loc : Nat → Nat} {S : MS} (R : RepAt w mb lm loc S) (b : Bool) (a n c : Int) (k N C : Nat) (l : List Cl) (hb : b = true) (ha : a = (k : Int) + 1) (hn : n = N) (hc : c = C) (hl : S.at k = some l) (hnc : N + C ≤ l.length) :
    Calls Try.prog 25 #[.pointer (some ⟨mb, 0, none⟩), .agg #[.bool b, .int .i64 a, .int .i64 n], .int .i64 c] w fun e w' =>
      e = .returned (.int .i64 0) ∧ Turned w w' mb lm loc S (S.setb k (some (lay l N (List.replicate C none)))) := by
  subst hb ha hn hc
  exact clear_ok R k l hl N C hnc

def cleared (ws : List Wd) (f n : Nat) : List Cl := lay (fill ws ws.length) f (List.replicate n none)
theorem lay_get (l cs : List Cl) (f i : Nat) (h : f + cs.length ≤ l.length) : (lay l f cs)[i]? = if i < f then l[i]? else if i < f + cs.length then cs[i - f]? else l[i]? := by
  unfold lay
  have hf : (l.take f).length = f := by simp; omega
  by_cases h1 : i < f
  · rw [if_pos h1, List.append_assoc, List.getElem?_append_left (by omega), List.getElem?_take, if_pos h1]
  · rw [if_neg h1, List.append_assoc, List.getElem?_append_right (by omega), hf]
    by_cases h2 : i < f + cs.length
    · rw [if_pos h2, List.getElem?_append_left (by omega)]
    · rw [if_neg h2, List.getElem?_append_right (by omega), List.getElem?_drop]
      congr 1
      omega
theorem cleared_get (ws : List Wd) (f n i : Nat) (h : f + n ≤ ws.length) : (cleared ws f n)[i]? = if f ≤ i ∧ i < f + n then some none else (ws[i]?).map some := by
  unfold cleared
  rw [lay_get _ _ _ _ (by rw [fill_len _ _ (Nat.le_refl _), List.length_replicate]; exact h), List.length_replicate, fill_get _ _ _ (Nat.le_refl _)]
  have e : (if i < ws.length then Option.map some ws[i]? else if i < ws.length then some none else none) = Option.map some ws[i]? := by
    by_cases h1 : i < ws.length
    · rw [if_pos h1]
    · rw [if_neg h1, if_neg h1, List.getElem?_eq_none (by omega)]; rfl
  rw [e]
  by_cases h1 : i < f
  · rw [if_pos h1, if_neg (by omega)]
  · rw [if_neg h1]
    by_cases h2 : i < f + n
    · rw [if_pos h2, if_pos ⟨by omega, h2⟩, List.getElem?_replicate, if_pos (by omega)]
    · rw [if_neg h2, if_neg (by omega)]
theorem cleared_len (ws : List Wd) (f n : Nat) (h : f + n ≤ ws.length) : (cleared ws f n).length = ws.length := by
  unfold cleared
  rw [lay_length _ _ _ (by rw [fill_len _ _ (Nat.le_refl _), List.length_replicate]; exact h), fill_len _ _ (Nat.le_refl _)]

/-- the second loop's state -/
def Stays (B : Nat) (w0 : World) (mb bp : Nat) (L : List Cl) (wr : World) : Prop :=
  ∃ lm loc, St B w0 wr mb lm loc ⟨100, [some L]⟩ ∧ Loc wr mb lm loc ⟨100, [some L]⟩ bp true 1 0

set_option maxRecDepth 100000 in
set_option maxHeartbeats 2000000 in
theorem memClear_main (oa : Option Addr) (ab off cap : Nat) (ws : List Wd) (f n : Nat) (w : World) (hoa : 0 < ws.length → oa = some ⟨ab, off, none⟩ ∧ ab < w.heap.size) (hlen : ws.length ≤ 40) (hf : f ≤ ws.length) (hn : n ≤ ws.length - f) (hA : Hid (WordsAt w ab off ws)) :
    Calls Try.prog 10 #[.slice oa ws.length cap, .int .i64 f, .int .i64 n] w fun e w' => e = .returned (.bool true) ∧ Below w.heap.size w w' := by
  have t1 : decide ((40 : Int) < ws.length) = false := by simp; omega
  have t2 : decide ((f : Int) < 0) = false := by simp
  have t3 : decide ((n : Int) < 0) = false := by simp
  have t4 : decide ((ws.length : Int) < f) = false := by simp; omega
  have t5 : decide ((ws.length : Int) - f < n) = false := by simp; omega
  replace hoa := Lib.hid hoa
  go_enter Try.func10, Try.ntmps10
  go_wp2_with fail
  refine (works_any _).mono ?_
  rintro e w1 ⟨rfl, hb1⟩
  go_wp2_with fail
  refine (new_any 100 100 _ rfl).mono ?_
  rintro e w2 ⟨rfl, R2, hb2, hz2⟩
  obtain ⟨T2, F2⟩ := St.new hb1 hb1.size R2 hb2
  generalize hmb : w1.heap.size = mb at R2 T2 F2 ⊢
  clear hmb F2
  go_wp2_with fail
  refine (alloc_any R2 ws.length 1 (by omega) (by show (ws.length : Int) ≤ 100 - 0; omega) (by show 0 + 1 < 1000; decide) rfl).mono ?_
  rintro e w3 ⟨rfl, ht⟩
  obtain ⟨lm3, loc3, T3, F3, K3⟩ := T2.turned ht
  rw [Int.toNat_natCast] at T3 F3
  clear ht F3 K3
  have lp := Loc.mk' T3 true 1 0
  go_wp2_with fail
  have T3' := T3.alloc (.cells #[.bool true, .int .i64 1, .int .i64 0] 30)
  generalize w3.alloc (.cells #[.bool true, .int .i64 1, .int .i64 0] 30) = W3 at lp T3' ⊢
  generalize w3.heap.size = bp at lp ⊢
  have hF : Filled w.heap.size w mb bp ws W3 0 := by
    have e : MS.push ⟨100, []⟩ ws.length = ⟨100, [some (fill ws 0)]⟩ := by simp [MS.push, fill]
    rw [e] at T3' lp
    exact ⟨lm3, loc3, T3', lp⟩
  clear T3 T3' lp T2 R2
  go_loopw [12] (fun i wr => ∃ j : Nat, j ≤ ws.length ∧ i = .int .i64 j ∧ Filled w.heap.size w mb bp ws wr j) (fun i _ => ws.length - (intOf i).toNat)
  case atStart => exact ⟨0, by omega, rfl, hF⟩
  case round =>
    obtain ⟨j, hj, rfl, lm, loc, T, lp⟩ := hrel
    by_cases hjl : j < ws.length
    · have t6 : decide ((j : Int) < ws.length) = true := by simpa using hjl
      obtain ⟨rfl, hab⟩ := hoa.out (by omega)
      obtain ⟨p0, p1, p2, p3⟩ := lp.cells
      go_wp2_with fail
      refine (off_any true 1 0 j _ (by omega) rfl).mono ?_
      rintro e w4 ⟨rfl, hb4⟩
      have T4 := T.next hb4
      replace lp := lp.next hb4
      have lq := Loc.mk' T4 true 1 j
      obtain ⟨x, hx⟩ : ∃ x, ws[j]? = some x := ⟨_, List.getElem?_eq_getElem hjl⟩
      obtain ⟨g0, g1, g2⟩ := hA.out j x hx
      have hab4 : ab < w4.heap.size := by have := T4.le; omega
      replace g0 := (T4.below.cell (p := ⟨ab, off + j * 3, none⟩) hab).trans g0
      replace g1 := (T4.below.cell (p := ⟨ab, off + j * 3 + 1, none⟩) hab).trans g1
      replace g2 := (T4.below.cell (p := ⟨ab, off + j * 3 + 2, none⟩) hab).trans g2
      have HX := Lib.hid hx
      clear hx
      have hfl : j < (fill ws j).length := by rw [fill_len ws j hj]; exact hjl
      go_wp2_with fail
      go_region_with (go_at_call 21; refine (store_any (T4.alloc _).drew.rep true 1 j x.p x.a x.n 0 j _ rfl rfl rfl rfl hfl).mono ?_; rintro e w5 ⟨rfl, ht⟩)
      all_goals
        have hF' := Filled.step (T4.alloc _).drew (lp.alloc _).drew HX.out ht
        clear ht lq lp T4
        go_wp2
        go_roundw
        case rel => exact ⟨j + 1, by omega, by go_num, hF'⟩
        case measure => simp [intOf]; omega
    · have t6 : decide ((j : Int) < ws.length) = false := by simpa using hjl
      obtain rfl : j = ws.length := by omega
      obtain ⟨p0, p1, p2, p3⟩ := lp.cells
      go_wp2_with fail
      refine (off_any true 1 0 f _ (by omega) rfl).mono ?_
      rintro e w4 ⟨rfl, hb4⟩
      have T4 := T.next hb4
      replace lp := lp.next hb4
      have lq := Loc.mk' T4 true 1 f
      clear T
      go_wp2_with fail
      refine (clear_is (T4.alloc _).rep true 1 f n 0 f n _ rfl rfl rfl rfl rfl (by rw [fill_len ws _ (Nat.le_refl _)]; omega)).mono ?_
      rintro e w5 ⟨rfl, ht⟩
      obtain ⟨lm5, loc5, T5, F5, K5⟩ := (T4.alloc _).turned ht
      replace lp := (lp.alloc _).turned F5 K5
      have hS : Stays w.heap.size w mb bp (cleared ws f n) w5 := ⟨lm5, loc5, T5, lp⟩
      clear ht F5 K5 lq T4 T5 lp
      go_wp2_with fail
      go_loopw [17] (fun i wr => ∃ j : Nat, j ≤ ws.length ∧ i = .int .i64 j ∧ Stays w.heap.size w mb bp (cleared ws f n) wr) (fun i _ => ws.length - (intOf i).toNat)
      case atStart => exact ⟨0, by omega, rfl, hS⟩
      case round =>
        obtain ⟨j, hj, rfl, lm, loc, T, lp⟩ := hrel
        by_cases hjl : j < ws.length
        · have t6 : decide ((j : Int) < ws.length) = true := by simpa using hjl
          obtain ⟨rfl, hab⟩ := hoa.out (by omega)
          obtain ⟨p0, p1, p2, p3⟩ := lp.cells
          go_wp2_with fail
          refine (off_any true 1 0 j _ (by omega) rfl).mono ?_
          rintro e w6 ⟨rfl, hb6⟩
          have T6 := T.next hb6
          replace lp := lp.next hb6
          have hc := cleared_get ws f n j (by omega)
          by_cases hin : f ≤ j ∧ j < f + n
          · rw [if_pos hin] at hc
            have HC := Lib.hid hc
            clear hc
            have s1 : decide ((f : Int) ≤ j) = true := by simp; omega
            have s1' : decide (f ≤ j) = true := by simp; omega
            have s2 : decide ((j : Int) < (f : Int) + n) = true := by simp; omega
            have s3 : decide ((j : Int) < f) = false := by simp; omega
            have s3' : decide (j < f) = false := by simp; omega
            have s4 : decide ((f : Int) + n ≤ j) = false := by simp; omega
            go_wp2_with fail
            refine (load_any (T6.alloc _).rep true 1 j ⟨false, 0, 0⟩ 14 (loadR_none rfl j HC.out 1 rfl _ rfl)).mono ?_
            rintro e w7 ⟨rfl, hb7⟩
            have T7 := (T6.alloc _).next hb7
            replace lp := (lp.alloc _).next hb7
            have lx := Loc.mk' T7 false 0 0
            go_wp2_with fail
            go_quiet (fail)
            go_wp2
            go_roundw
            case rel => exact ⟨j + 1, by omega, by go_num, lm, loc, (T7.alloc _).drewN _, (lp.alloc _).drewN _⟩
            case measure => simp [intOf]; omega
          · rw [if_neg hin] at hc
            obtain ⟨x, hx⟩ : ∃ x, ws[j]? = some x := ⟨_, List.getElem?_eq_getElem hjl⟩
            rw [hx] at hc
            have HC := Lib.hid hc
            obtain ⟨g0, g1, g2⟩ := hA.out j x hx
            clear hc hx
            have s1 : f ≤ j → decide (f ≤ j) = true := by simp
            go_wp2_with fail
            refine (load_any (T6.alloc _).rep true 1 j x 0 (loadR_val rfl j x HC.out 1 rfl _ rfl)).mono ?_
            rintro e w7 ⟨rfl, hb7⟩
            have T7 := (T6.alloc _).next hb7
            replace lp := (lp.alloc _).next hb7
            have lx := Loc.mk' T7 x.p x.a x.n
            have hab7 : ab < w7.heap.size := by have := T7.le; omega
            replace g0 := (T7.below.cell (p := ⟨ab, off + j * 3, none⟩) hab).trans g0
            replace g1 := (T7.below.cell (p := ⟨ab, off + j * 3 + 1, none⟩) hab).trans g1
            replace g2 := (T7.below.cell (p := ⟨ab, off + j * 3 + 2, none⟩) hab).trans g2
            clear s1
            by_cases hfj : f ≤ j
            · have hnj : f + n ≤ j := by omega
              have s1 : decide ((f : Int) ≤ j) = true := by simp; omega
              have s1' : decide (f ≤ j) = true := by simp; omega
              have s2 : decide ((j : Int) < (f : Int) + n) = false := by simp; omega
              have s3 : decide ((j : Int) < f) = false := by simp; omega
              have s3' : decide (j < f) = false := by simp; omega
              have s4 : decide ((f : Int) + n ≤ j) = true := by simp; omega
              go_wp2_with fail
              go_quiet (fail)
              go_wp2
              go_roundw
              case rel => exact ⟨j + 1, by omega, by go_num, lm, loc, (T7.alloc _).drewN _, (lp.alloc _).drewN _⟩
              case measure => simp [intOf]; omega
            · have s1 : decide ((f : Int) ≤ j) = false := by simp; omega
              have s1' : decide (f ≤ j) = false := by simp; omega
              have s3 : decide ((j : Int) < f) = true := by simp; omega
              have s3' : decide (j < f) = true := by simp; omega
              go_wp2_with fail
              go_quiet (fail)
              go_wp2
              go_roundw
              case rel => exact ⟨j + 1, by omega, by go_num, lm, loc, (T7.alloc _).drewN _, (lp.alloc _).drewN _⟩
              case measure => simp [intOf]; omega
        · have t6 : decide ((j : Int) < ws.length) = false := by simpa using hjl
          have W8 := words_any T.rep
          have L8 := live_any T.rep
          rw [show MS.words ⟨100, [some (cleared ws f n)]⟩ = ws.length by simp [MS.words, szO, cleared_len ws f n (by omega)]] at W8
          rw [show MS.live ⟨100, [some (cleared ws f n)]⟩ = 1 from rfl] at L8
          have HW := Lib.hid W8
          have HL := Lib.hid L8
          clear W8 L8
          go_wp2_with fail
          refine HW.out.mono ?_
          rintro e w8 ⟨rfl, rfl⟩
          go_wp2_with fail
          refine HL.out.mono ?_
          rintro e w8 ⟨rfl, rfl⟩
          go_wp2
          go_ret
          exact ⟨rfl, T.below⟩
end Go.Proofs.Ytbcockaleegicaa
