/-
  The document's own memory: Copy. Conditions: it lies in the heap.
-/
import Derived.Test.YtbcockaleegicaaRefF
import Derived.StillTailTactics
namespace Go.Proofs.Ytbcockaleegicaa
open Go.RowKit

/-- the first error of c readings -/
def RS.readE (r : RS) (b : Bool) (a n : Int) : Nat → Nat → Int
  | 0, _ => 0
  | c + 1, i => if (r.loadR b a (n + i)).2 = 0 then r.readE b a n c (i + 1) else (r.loadR b a (n + i)).2
def RS.storeN (r : RS) (a n : Int) (ws : Nat → Wd) : Nat → RS
  | 0 => r
  | i + 1 => ((r.storeN a n ws i).storeR true a (n + i) (ws i)).2
def RS.reads (r : RS) (b : Bool) (a n : Int) (i : Nat) : Wd := (r.loadR b a (n + i)).1
def RS.copyR (r : RS) (b : Bool) (a n : Int) (b' : Bool) (a' n' c : Int) : Int × RS :=
  if c < 0 then (1, r) else if r.readE b' a' n' c.toNat 0 ≠ 0 then (r.readE b' a' n' c.toNat 0, r) else if r.check b a ≠ 0 then (r.check b a, r) else if ¬ (0 ≤ n ∧ n + c ≤ r.size a) then (13, r)
    else (0, r.storeN a n (r.reads b' a' n') c.toNat)

theorem readE_ok {r : RS} {b : Bool} {a n : Int} : ∀ (C i : Nat), (∀ j, i ≤ j → j < i + C → (r.loadR b a (n + j)).2 = 0) → r.readE b a n C i = 0
  | 0, _, _ => rfl
  | C + 1, i, h => by
    unfold RS.readE
    rw [if_pos (h i (Nat.le_refl _) (by omega))]
    exact readE_ok C (i + 1) fun j h1 h2 => h j (by omega) (by omega)
theorem readE_fail {r : RS} {b : Bool} {a n : Int} : ∀ (C i k : Nat), i ≤ k → k < i + C → (∀ j, i ≤ j → j < k → (r.loadR b a (n + j)).2 = 0) → (r.loadR b a (n + k)).2 ≠ 0 → r.readE b a n C i = (r.loadR b a (n + k)).2
  | 0, i, k, h1, h2, _, _ => by omega
  | C + 1, i, k, h1, h2, h, hk => by
    unfold RS.readE
    by_cases e : i = k
    · subst e
      rw [if_neg hk]
    · rw [if_pos (h i (Nat.le_refl _) (by omega))]
      exact readE_fail C (i + 1) k (by omega) (by omega) (fun j h1 h2 => h j (by omega) h2) hk
theorem load_zero {r : RS} {b : Bool} {a n : Int} (h : (r.loadR b a n).2 = 0) : 0 ≤ n ∧ ∃ k m : Nat, b = true ∧ a = (k : Int) + 1 ∧ r.bs[k]? = some (m, false) ∧ n + 1 ≤ m := by
  unfold RS.loadR at h
  split at h
  · exact absurd h (by assumption)
  · rename_i h1
    have h1 : r.check b a = 0 := by simpa using h1
    split at h
    · simp at h
    · rename_i h2
      obtain ⟨k, m, hb, ha, hk⟩ := check_zero h1
      rw [ha, size_at hk] at h2
      have h2 : 0 ≤ n ∧ n + 1 ≤ m := by simpa using h2
      exact ⟨h2.1, k, m, hb, ha, hk, h2.2⟩
theorem storeN_len (r : RS) (a n : Int) (ws : Nat → Wd) : ∀ i, (r.storeN a n ws i).cs.length ≤ r.cs.length + i
  | 0 => Nat.le_refl _
  | i + 1 => by
    have ih := storeN_len r a n ws i
    show ((r.storeN a n ws i).storeR true a (n + i) (ws i)).2.cs.length ≤ _
    unfold RS.storeR
    have := List.length_filter_le (other a (n + i)) (r.storeN a n ws i).cs
    split
    · show (r.storeN a n ws i).cs.length ≤ _; omega
    · split
      · show (r.storeN a n ws i).cs.length ≤ _; omega
      · simp only [List.length_append, List.length_singleton]; omega

def wv (x : Wd) : List Value := [.bool x.p, .int .i64 x.a, .int .i64 x.n]
theorem wv_len (x : Wd) : (wv x).length = 3 := rfl
def wordRow (f : Nat → Wd) (i : Nat) : List Value := ((List.range i).map f).flatMap wv
theorem wordRow_succ (f : Nat → Wd) (i : Nat) : wordRow f (i + 1) = wordRow f i ++ wv (f i) := by
  unfold wordRow
  rw [List.range_succ, List.map_append, List.flatMap_append]
  simp
theorem row_rkept {B : Nat} {w w' : World} {base size n : Nat} {v : Value} {xs : List Value} (h : w.ownsRow base 30 size v n xs) (hk : RKept B w w') : w'.ownsRow base 30 size v n xs := by
  refine ⟨h.1, ?_⟩
  rcases h.2 with hn | ⟨g, cap, cur, rfl, hbb, hgg, rest⟩
  · exact .inl hn
  · exact .inr ⟨g, cap, cur, rfl, hbb, hk.box hgg, rest⟩
theorem word_cells' {w : World} {base g cap n : Nat} {f : Nat → Wd} (h : w.ownsRow base 30 3 (.slice (some ⟨g, 0, none⟩) n cap) n (wordRow f n)) (i : Nat) (hi : i < n) :
    w.cell? ⟨g, i * 3, none⟩ = some (.bool (f i).p) ∧ w.cell? ⟨g, i * 3 + 1, none⟩ = some (.int .i64 (f i).a) ∧ w.cell? ⟨g, i * 3 + 2, none⟩ = some (.int .i64 (f i).n) := by
  have hc : ((List.range n).map f)[i]? = some (f i) := by simp [hi]
  have e := fun j hj => flat_get wv 3 wv_len _ i j _ hc hj
  exact ⟨(h.cellAt (i * 3) (by omega)).trans (e 0 (by decide)), (h.cellAt (i * 3 + 1) (by omega)).trans (e 1 (by decide)), (h.cellAt (i * 3 + 2) (by omega)).trans (e 2 (by decide))⟩

/-- the first loop's state -/
structure Reads (w0 : World) (r : RS) (b : Bool) (a n : Int) (v : Value) (wr : World) (i : Nat) : Prop where
  row : wr.ownsRow w0.heap.size 30 3 v i (wordRow (r.reads b a n) i)
  below : Below w0.heap.size w0 wr
  ok : ∀ j, j < i → (r.loadR b a (n + j)).2 = 0
/-- the second loop's state -/
structure Writes (B : Nat) (w w0 : World) (rb : Nat) (r' : RS) (f : Nat → Wd) (C : Nat) (v : Value) (k : Nat) (n : Int) (wr : World) : Prop where
  turned : RTurned B w wr rb r'
  row : wr.ownsRow w0.heap.size 30 3 v C (wordRow f C)
  box : wr.heap[w.heap.size]? = some (.cells #[.bool true, .int .i64 ((k : Int) + 1), .int .i64 n] 30)

section
variable {B : Nat} {w : World} {rb : Nat} {r : RS} {vb vc : Value}

set_option maxHeartbeats 1000000 in
theorem rcopy_neg (w : World) (rb : Nat) (b b' : Bool) (a n a' n' c : Int) (hc : c < 0) :
    Calls Try.prog 24 #[.pointer (some ⟨rb, 0, none⟩), .agg #[.bool b, .int .i64 a, .int .i64 n], .agg #[.bool b', .int .i64 a', .int .i64 n'], .int .i64 c] w fun e w' => e = .returned (.int .i64 1) ∧ Below w.heap.size w w' := by
  have t1 : decide (c < 0) = true := by simpa using hc
  clear hc
  go_enter Try.func24, Try.ntmps24
  go_wp2
  go_ret
  exact ⟨rfl, by go_grown⟩

set_option maxHeartbeats 2000000 in
theorem rcopy_main (R : RefAt B w rb r vb vc) (b b' : Bool) (a n a' n' : Int) (C : Nat) (hC : C ≤ 1000) (hn' : -9223372036854775808 ≤ n' ∧ n' ≤ 9223372036854775807) (hlen : r.cs.length + C < 99999) (er : Int) (r' : RS) (h : r.copyR b a n b' a' n' C = (er, r')) :
    Calls Try.prog 24 #[.pointer (some ⟨rb, 0, none⟩), .agg #[.bool b, .int .i64 a, .int .i64 n], .agg #[.bool b', .int .i64 a', .int .i64 n'], .int .i64 C] w fun e w' => e = .returned (.int .i64 er) ∧ RTurned B w w' rb r' := by
  have t1 : decide ((C : Int) < 0) = false := by simp
  have H := Lib.hid h
  obtain ⟨i30, hi30, hz30, hs30, hb30⟩ := info_parts info30
  have hr1 := R.room1
  have hw1 := R.words
  clear h
  go_enter Try.func24, Try.ntmps24
  go_wp2_with fail
  obtain ⟨w0, hw0⟩ : ∃ w0, w0 = (w.alloc (.cells #[.bool b, .int .i64 a, .int .i64 n] 30)).alloc (.cells #[.bool b', .int .i64 a', .int .i64 n'] 30) := ⟨_, rfl⟩
  have hS0 : Reads w0 r b' a' n' (.slice none 0 0) w0 0 := ⟨World.ownsRow_nil _ _ _ _, Below.refl _ _, fun j hj => absurd hj (Nat.not_lt_zero _)⟩
  rw [← hw0]
  have H0 := Lib.hid hw0
  have hz0 : w0.heap.size = w.heap.size + 2 := by rw [hw0]; simp
  clear hw0
  go_loopw [9, 10] (fun u9 ui wr => ∃ i : Nat, i ≤ C ∧ ui = .int .i64 i ∧ Reads w0 r b' a' n' u9 wr i) (fun _ ui _ => C - (intOf ui).toNat)
  case atStart => exact ⟨0, by omega, rfl, hS0⟩
  case round =>
    obtain ⟨i, hi, rfl, hown, hb, hok⟩ := hrel
    have HOK := Lib.hid hok
    by_cases hil : i < C
    · have t2 : decide ((i : Int) < C) = true := by simpa using hil
      have hs : -9223372036854775808 ≤ n' + i ∧ n' + i ≤ 9223372036854775807 := by
        by_cases h0 : i = 0
        · subst h0; omega
        · have h1 := hok (i - 1) (by omega)
          obtain ⟨h2, k, m, _, _, hk, h3⟩ := load_zero h1
          have := words_le hk
          omega
      clear hok
      have hb0 := hb
      rw [H0.out] at hb0
      obtain ⟨q0, q1, q2⟩ := box_cells (box2_heap2 hb0)
      have Rr := ((R.alloc _).alloc _).below hb0
      clear hb0
      obtain ⟨⟨x, e1⟩, hld⟩ : ∃ y, r.loadR b' a' (n' + i) = y := ⟨_, rfl⟩
      have HLD := Lib.hid hld
      go_wp2_with fail
      refine (rload_any Rr b' a' (n' + i) x e1 hld).mono ?_
      rintro e w2 ⟨rfl, hb2⟩
      clear hld Rr q0 q1 q2
      have hb3 := hb.trans (hb2.mono hb.size)
      have hown2 := row_below hb2 hown
      have hbx := fun j v hv => alloc_cell w2 #[.bool x.p, .int .i64 x.a, .int .i64 x.n] 30 j v hv
      have x0 := hbx 0 _ rfl
      have x1 := hbx 1 _ rfl
      have x2 := hbx 2 _ rfl
      clear hbx
      by_cases he : e1 = 0
      · have d1 : (e1 == 0) = true := by simpa using he
        have d2 : (e1 != 0) = false := by simpa using he
        go_upto_region 10 with fail
        have hb4 := hb3.alloc hb3.size (.cells #[.bool x.p, .int .i64 x.a, .int .i64 x.n] 30)
        have hown4 := row_below ((Below.refl w2.heap.size w2).alloc (Nat.le_refl _) (.cells #[.bool x.p, .int .i64 x.a, .int .i64 x.n] 30)) hown2
        generalize hvs : w2.heap.size = vs at x0 x1 x2 hb4 hown4 ⊢
        generalize hW : w2.alloc (.cells #[.bool x.p, .int .i64 x.a, .int .i64 x.n] 30) = w4 at x0 x1 x2 hb4 hown4 ⊢
        clear hW hvs hb3 hown2 hb2
        have hs4 := hb4.size
        go_wp2_with (at_builtin; refine wpList_append_own _ rfl (.tmp 39) (.tmp 41) 54 rfl w0.heap.size 30 i30 _ 3 24 Try.underlying54 hi30 hz30 hs30 hb30 rfl (by decide) u9 i _ rfl (row_below ((Below.refl _ _).alloc (Nat.le_refl _) _) hown4) ⟨w4.heap.size, 0, none⟩ 1 1 (wv x) rfl rfl ?c1 ?c2 ?c3 ?c4 ?c5 ?_)
        case c1 => first | exact new_cells w4 (wv x) 30 _ rfl | exact fun _ _ h => h
        case c2 => intro u hu; simp [wv] at hu; rcases hu with rfl | rfl | rfl <;> rfl
        case c3 => unfold maxLen; omega
        case c4 => omega
        case c5 => first | omega | (simp; omega)
        intro v' w' hown' hgrow _
        have hb' : Below w0.heap.size w0 w' := (hb4.alloc hs4 _).grown hgrow (by simp; omega) fun j hj => (hown4.lt j hj).1
        have hR : Reads w0 r b' a' n' v' w' (i + 1) := by
          refine ⟨?_, hb', fun j hj => ?_⟩
          · rw [wordRow_succ, show r.reads b' a' n' i = x by unfold RS.reads; rw [HLD.out], hz0]
            exact hown'
          · by_cases e : j = i
            · subst e; rw [HLD.out]; exact he
            · exact HOK.out j (by omega)
        clear hown' hgrow hown4 hb4 hown hb x0 x1 x2
        go_wp2
        go_roundw
        case rel => exact ⟨i + 1, by omega, by go_num, hR⟩
        case measure => simp [intOf]; omega
      · have d1 : (e1 == 0) = false := by simpa using he
        have d2 : (e1 != 0) = true := by simpa using he
        go_wp2
        go_ret
        have hh := H.out
        unfold RS.copyR at hh
        have hre : r.readE b' a' n' C 0 = e1 := by
          rw [readE_fail C 0 i (by omega) (by omega) (fun j _ hj => HOK.out j hj) (by rw [HLD.out]; exact he), HLD.out]
        rw [if_neg (by omega), Int.toNat_natCast, hre, if_pos he] at hh
        cases hh
        refine ⟨rfl, .same R ?_⟩
        rw [H0.out] at hb3
        have hb5 := box2_below hb3
        exact hb5.alloc hb5.size _
    · have t2 : decide ((i : Int) < C) = false := by simpa using hil
      obtain rfl : i = C := by omega
      have hre : r.readE b' a' n' i 0 = 0 := readE_ok i 0 fun j _ hj => hok j (by omega)
      have hh : (if r.check b a ≠ 0 then (r.check b a, r) else if ¬ (0 ≤ n ∧ n + i ≤ r.size a) then (13, r) else (0, r.storeN a n (r.reads b' a' n') i)) = (er, r') := by
        have hh := H.out
        unfold RS.copyR at hh
        rw [if_neg (by omega), Int.toNat_natCast, hre, if_neg (by simp)] at hh
        exact hh
      have hb0 := hb
      rw [H0.out] at hb0
      have Rr := ((R.alloc _).alloc _).below hb0
      have hbx := box2_heap1 hb0
      have hbw := box2_below hb0
      obtain ⟨og, g, cap, rfl, hog⟩ := row_shape hown
      replace hog := Lib.hid hog
      obtain ⟨q0, q1, q2⟩ := box_cells hbx
      clear hok hre hb0 H HOK hS0
      by_cases he : r.check b a = 0
      · rw [if_neg (by simpa using he)] at hh
        have HE := Lib.hid he
        obtain ⟨k, m, rfl, rfl, hk⟩ := check_zero he
        have hm : m ≤ 1048576 := by have := words_le hk; omega
        rw [size_at hk] at hh
        have HH := Lib.hid hh
        replace hk := Lib.hid hk
        clear hh he
        go_wp2_with fail
        refine (rcheck_any Rr true ((k : Int) + 1) n).mono ?_
        rintro e w2 ⟨rfl, hb2⟩
        rw [HE.out]
        clear q0 q1 q2
        have R2 := Rr.below hb2
        have hbx2 := (hb2.block _ (Array.getElem?_eq_some_iff.1 hbx).1).trans hbx
        obtain ⟨q0, q1, q2⟩ := box_cells hbx2
        go_wp2_with fail
        refine (rhas_any R2 k m false hk.out hm true n i (by omega)).mono ?_
        rintro e w3 ⟨rfl, hb3⟩
        have hb23 := hb2.trans (hb3.mono hb2.size)
        have hbw3 := hbw.trans (hb23.mono hbw.size)
        have hbx3 := (hb23.block _ (Array.getElem?_eq_some_iff.1 hbx).1).trans hbx
        have hown3 := row_below hb23 hown
        clear q0 q1 q2 R2 hbx2 hb2 hb3 hb23 hbx hbw Rr hown hb
        by_cases h2 : 0 ≤ n ∧ n + i ≤ m
        · have HN := Lib.hid (show decide (0 ≤ n ∧ n + i ≤ (m : Int)) = true by simpa using h2)
          rw [HN.out]
          have hh := HH.out
          rw [if_neg (by simpa using h2)] at hh
          have HH := Lib.hid hh
          obtain ⟨N, rfl⟩ : ∃ N : Nat, n = N := ⟨n.toNat, by omega⟩
          have hNC : N + i ≤ 1048576 := by omega
          have hWS : Writes B w w0 rb (r.storeN ((k : Int) + 1) N (r.reads b' a' n') 0) (r.reads b' a' n') i (.slice og i cap) k N w3 := ⟨.same R hbw3, hown3, hbx3⟩
          clear h2 hh hbw3 hown3 hbx3 HN
          go_wp2_with fail
          go_loopw [14] (fun ui wr => ∃ j : Nat, j ≤ i ∧ ui = .int .i64 j ∧ Writes B w w0 rb (r.storeN ((k : Int) + 1) N (r.reads b' a' n') j) (r.reads b' a' n') i (.slice og i cap) k N wr) (fun ui _ => i - (intOf ui).toNat)
          case atStart => exact ⟨0, by omega, rfl, hWS⟩
          case round =>
            obtain ⟨j, hj, rfl, hT, hown, hbx⟩ := hrel
            by_cases hjl : j < i
            · have t3 : decide ((j : Int) < i) = true := by simpa using hjl
              have hjl' : (j : Int) < i := by omega
              obtain rfl := hog.out (by omega)
              obtain ⟨q0, q1, q2⟩ := box_cells hbx
              obtain ⟨g0, g1, g2⟩ := word_cells' hown j hjl
              have hwr : IntKind.i64.wrap (j : Int) = j := IntWalk.i64_in _ (by omega)
              have hwr2 : IntKind.i64.wrap ((N : Int) + j) = (N : Int) + j := IntWalk.i64_in _ (by omega)
              have hlen2 : (r.storeN ((k : Int) + 1) N (r.reads b' a' n') j).cs.length + 1 < 100000 := by have := storeN_len r ((k : Int) + 1) N (r.reads b' a' n') j; omega
              have HL := Lib.hid hlen2
              clear hlen2
              go_wp2
              go_still_tail 12, (by kernel_rfl)
              obtain ⟨⟨vb1, vc1, Rr⟩, Kr⟩ := hT
              have hrow := row_below (below_drew wr) hown
              have hbx' := ((below_drew wr).block _ (Array.getElem?_eq_some_iff.1 hbx).1).trans hbx
              replace Rr := Rr.below (below_drew wr)
              replace Kr := Kr.trans (.of_below (below_drew wr))
              clear q0 q1 q2 g0 g1 g2 hown hbx
              change wpList _ _ _ _ _ wr.drew
              generalize wr.drew = w4 at *
              go_wp2_with fail
              refine (rstore_any Rr HL.out true ((k : Int) + 1) ((N : Int) + j) (r.reads b' a' n' j) _ _ rfl).mono ?_
              rintro e w5 ⟨rfl, hT⟩
              have hW : Writes B w w0 rb (r.storeN ((k : Int) + 1) N (r.reads b' a' n') (j + 1)) (r.reads b' a' n') i (.slice (some ⟨g, 0, none⟩) i cap) k N w5 := ⟨⟨hT.1, Kr.trans hT.2⟩, row_rkept hrow hT.2, hT.2.box hbx'⟩
              clear hT hrow hbx' Rr Kr
              go_wp2
              go_roundw
              case rel => exact ⟨j + 1, by omega, by go_num, hW⟩
              case measure => simp [intOf]; omega
            · have t3 : decide ((j : Int) < i) = false := by simpa using hjl
              obtain rfl : j = i := by omega
              go_wp2
              go_ret
              have hh := HH.out
              cases hh
              exact ⟨rfl, hT⟩
        · have HN := Lib.hid (show decide (0 ≤ n ∧ n + i ≤ (m : Int)) = false by simpa using h2)
          rw [HN.out]
          have hh := HH.out
          rw [if_pos h2] at hh
          cases hh
          clear h2
          go_wp2
          go_ret
          exact ⟨rfl, .same R hbw3⟩
      · rw [if_pos he] at hh
        have he2 := (Prod.mk.inj hh).1
        obtain rfl := (Prod.mk.inj hh).2
        rw [he2] at he
        have HE := Lib.hid he2
        have d1 : (er == 0) = false := by simpa using he
        have d2 : (er != 0) = true := by simpa using he
        clear he he2 hh
        go_wp2_with fail
        refine (rcheck_any Rr b a n).mono ?_
        rintro e w2 ⟨rfl, hb2⟩
        rw [HE.out]
        go_wp2
        go_ret
        exact ⟨rfl, .same R (hbw.trans (hb2.mono hbw.size))⟩

theorem rcopy_any (R : RefAt B w rb r vb vc) (b b' : Bool) (a n a' n' c : Int) (hC : c ≤ 1000) (hn' : -9223372036854775808 ≤ n' ∧ n' ≤ 9223372036854775807) (hlen : r.cs.length + 1000 < 99999) (er : Int) (r' : RS) (h : r.copyR b a n b' a' n' c = (er, r')) :
    Calls Try.prog 24 #[.pointer (some ⟨rb, 0, none⟩), .agg #[.bool b, .int .i64 a, .int .i64 n], .agg #[.bool b', .int .i64 a', .int .i64 n'], .int .i64 c] w fun e w' => e = .returned (.int .i64 er) ∧ RTurned B w w' rb r' := by
  by_cases h0 : c < 0
  · unfold RS.copyR at h
    rw [if_pos h0] at h
    cases h
    exact (rcopy_neg w rb b b' a n a' n' c h0).mono fun e w' ⟨he, hb⟩ => ⟨he, .same R hb⟩
  · obtain ⟨C, rfl⟩ : ∃ C : Nat, c = C := ⟨c.toNat, by omega⟩
    exact rcopy_main R b b' a n a' n' C (by omega) hn' (by omega) er r' h
end
end Go.Proofs.Ytbcockaleegicaa
