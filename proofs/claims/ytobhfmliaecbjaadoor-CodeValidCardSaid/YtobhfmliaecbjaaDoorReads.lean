/-
  Reads and Writes of package code. Conditions: the table of operations lies in its place.
-/
import Derived.Test.YtobhfmliaecbjaaDoorSmall
namespace Go.Proofs.YtobhfmliaecbjaaDoor
open Go.RowKit

theorem info3 : (Tryd.prog.info? 3).map (fun i => (i.zero, i.size, i.bytes)) = some (some (.int .i64 0), 1, 8) := by kernel_rfl
theorem info_parts {t : TypeId} {z : Value} {size bytes : Nat} (h : (Tryd.prog.info? t).map (fun i => (i.zero, i.size, i.bytes)) = some (some z, size, bytes)) : ∃ i, Tryd.prog.info? t = some i ∧ i.zero = some z ∧ i.size = size ∧ i.bytes = bytes := by
  cases hi : Tryd.prog.info? t with
  | none => rw [hi] at h; cases h
  | some i =>
    rw [hi] at h
    simp only [Option.map_some, Option.some.injEq, Prod.mk.injEq] at h
    exact ⟨i, rfl, h.1, h.2.1, h.2.2⟩
theorem new_cells (w : World) (l : List Value) (t : TypeId) (g : Nat) (hg : g = w.heap.size) : ∀ j u, l[j]? = some u → (w.alloc (.cells l.toArray t)).cell? ((⟨g, 0, none⟩ : Addr).add j) = some u := by
  intro j u hu
  subst hg
  have e : ((⟨w.heap.size, 0, none⟩ : Addr).add j) = ⟨w.heap.size, j, none⟩ := by unfold Addr.add; split <;> simp_all
  rw [e]
  exact alloc_cell w l.toArray t j u (by simpa using hu)
theorem row_shape {w : World} {base e size n : Nat} {v : Value} {xs : List Value} (h : w.ownsRow base e size v n xs) : ∃ og g cap, v = .slice og n cap ∧ (0 < n → og = some ⟨g, 0, none⟩) := by
  rcases h.2 with ⟨rfl, rfl⟩ | ⟨g, cap, cur, rfl, _⟩
  · exact ⟨none, 0, 0, rfl, fun h => absurd h (Nat.lt_irrefl _)⟩
  · exact ⟨_, g, cap, rfl, fun _ => rfl⟩

/-- a row of numbers that a call owns is a slice of numbers -/
theorem IntsV.own {w : World} {base : Nat} {v : Value} {l : List Int} (h : w.ownsRow base 3 1 v l.length (l.map (Value.int .i64))) : IntsV w v l := by
  rcases h.2 with ⟨rfl, h0⟩ | ⟨g, cap, cur, rfl, hb, hg, hn, hm, hs, ht⟩
  · have : l = [] := by cases l; rfl; simp at h0
    subst this
    exact ⟨none, 0, 0, 0, rfl, Nat.le_refl _, Nat.zero_le _, fun h => absurd h (Nat.lt_irrefl _), fun i z hz => by simp at hz⟩
  · refine ⟨_, cap, g, 0, rfl, hn, hm, fun _ => ⟨rfl, (Array.getElem?_eq_some_iff.1 hg).1⟩, fun i z hz => ?_⟩
    have hi : i < l.length := (List.getElem?_eq_some_iff.1 hz).1
    have e : cur.toList[i]? = some (.int .i64 z) := by
      have : (cur.toList.take (l.length * 1))[i]? = some (.int .i64 z) := by rw [ht]; simp [hz]
      rwa [List.getElem?_take_of_lt (by omega)] at this
    simp only [World.cell?, hg, Nat.zero_add]
    simpa using e

def fl (f z : Int) : List Int := if f = 1 then [z] else []
def readsL (x : In) : List Int := fl (shp x.op).f0 x.a ++ fl (shp x.op).f1 x.b ++ fl (shp x.op).f2 x.c
def rdU (x : In) : Nat → List Int
  | 0 => []
  | 1 => fl (shp x.op).f0 x.a
  | 2 => fl (shp x.op).f0 x.a ++ fl (shp x.op).f1 x.b
  | _ => readsL x
theorem fl_len (f z : Int) : (fl f z).length ≤ 1 := by unfold fl; split <;> simp

/-- the register that is written -/
def writesO (x : In) : Option Int := if (shp x.op).f0 = 2 then some x.a else if (shp x.op).f1 = 2 then some x.b else if (shp x.op).f2 = 2 then some x.c else none

set_option maxRecDepth 100000 in
set_option maxHeartbeats 2000000 in
theorem reads_any (x : In) (lv : Value) (w : World) (ht : TabAt w) : Calls Tryd.prog 14 #[x.val lv] w fun e w' => ∃ v, e = .returned v ∧ IntsV w' v (readsL x) ∧ Below w.heap.size w w' := by
  unfold In.val
  obtain ⟨i3, hi3, hz3, hs3, hb3⟩ := info_parts info3
  have HI := Lib.hid (And.intro hi3 (And.intro hz3 (And.intro hs3 hb3)))
  clear hi3 hz3 hs3 hb3
  have hts := ht.lt
  have ht1 : TabAt (w.alloc (.cells #[.int .i64 x.op, .int .i64 x.a, .int .i64 x.b, .int .i64 x.c, lv] 25)) := ht.below ((Below.refl _ _).alloc (Nat.le_refl _) _) hts
  replace ht1 := Lib.hid ht1
  clear ht
  go_enter Tryd.func14, Tryd.ntmps14
  go_wp2_with fail
  refine (shapeOf_any x.op _ ht1.out).mono ?_
  rintro e w1 ⟨rfl, hb1⟩
  clear ht1
  have hB := box_below hb1
  have x0 := box_cell hb1 0 (.int .i64 x.op) rfl
  have x1 := box_cell hb1 1 (.int .i64 x.a) rfl
  have x2 := box_cell hb1 2 (.int .i64 x.b) rfl
  have x3 := box_cell hb1 3 (.int .i64 x.c) rfl
  have x4 := box_cell hb1 4 lv rfl
  have hlt := World.block_lt_of_cell? w1 _ x0
  clear hb1
  unfold Sh.val
  go_wp2_with fail
  refine (fieldsOf_any x lv _).mono ?_
  rintro e w2 ⟨rfl, hb2⟩
  have s0 := box_cell hb2 0 (.int .i64 (shp x.op).f0) rfl
  have s1 := box_cell hb2 1 (.int .i64 (shp x.op).f1) rfl
  have s2 := box_cell hb2 2 (.int .i64 (shp x.op).f2) rfl
  have hlt2 := World.block_lt_of_cell? w2 _ s0
  replace hB := hB.trans ((box_below hb2).mono hB.size)
  clear hb2 x0 x1 x2 x3 x4 hlt
  generalize w1.heap.size = bs at s0 s1 s2 hlt2 ⊢
  obtain ⟨F0, hF0⟩ : ∃ F, F = (shp x.op).f0 := ⟨_, rfl⟩
  obtain ⟨F1, hF1⟩ : ∃ F, F = (shp x.op).f1 := ⟨_, rfl⟩
  obtain ⟨F2, hF2⟩ : ∃ F, F = (shp x.op).f2 := ⟨_, rfl⟩
  simp only [← hF0] at s0 ⊢
  simp only [← hF1] at s1 ⊢
  simp only [← hF2] at s2 ⊢
  replace hF0 := Lib.hid hF0
  replace hF1 := Lib.hid hF1
  replace hF2 := Lib.hid hF2
  have i0 : ∀ w, (Instr.index 49 (.agg #[.int .i64 x.a, .int .i64 x.b, .int .i64 x.c]) (.int .i64 0)).run Tryd.prog w = .ok (.int .i64 x.a) w := fun _ => by kernel_rfl
  have i1 : ∀ w, (Instr.index 49 (.agg #[.int .i64 x.a, .int .i64 x.b, .int .i64 x.c]) (.int .i64 1)).run Tryd.prog w = .ok (.int .i64 x.b) w := fun _ => by kernel_rfl
  have i2 : ∀ w, (Instr.index 49 (.agg #[.int .i64 x.a, .int .i64 x.b, .int .i64 x.c]) (.int .i64 2)).run Tryd.prog w = .ok (.int .i64 x.c) w := fun _ => by kernel_rfl
  go_wp2_with fail
  go_loopw [3, 12] (fun u i wr => ∃ j : Nat, j ≤ 3 ∧ i = .int .i64 j ∧ wr.ownsRow w2.heap.size 3 1 u (rdU x j).length ((rdU x j).map (Value.int .i64)) ∧ Below w2.heap.size w2 wr) (fun _ i _ => 3 - (intOf i).toNat)
  case atStart => exact ⟨0, by omega, rfl, World.ownsRow_nil _ _ _ _, Below.refl _ _⟩
  case round =>
    obtain ⟨j, hj, hi, hown, hbw⟩ := hrel
    replace s0 := (hbw.cell (p := ⟨bs, 0, none⟩) hlt2).trans s0
    replace s1 := (hbw.cell (p := ⟨bs, 1, none⟩) hlt2).trans s1
    replace s2 := (hbw.cell (p := ⟨bs, 2, none⟩) hlt2).trans s2
    have hsz := hbw.size
    have hj4 : j = 0 ∨ j = 1 ∨ j = 2 ∨ j = 3 := by omega
    rcases hj4 with rfl | rfl | rfl | rfl
    · replace hi : u12 = .int .i64 0 := hi
      subst hi
      have he : rdU x 1 = rdU x 0 ++ fl (shp x.op).f0 x.a := by simp [rdU]
      have hle : (rdU x 0).length ≤ 0 := by simp [rdU]
      have HE := Lib.hid he
      clear he
      by_cases hf : F0 = 1
      · have HE2 := Lib.hid (show rdU x 1 = rdU x 0 ++ [x.a] by rw [HE.out, ← hF0.out, hf]; rfl)
        have t1 : (F0 == 1) = true := by simpa using hf
        obtain ⟨hi3, hz3, hs3, hb3⟩ := HI.out
        clear HE hf
        obtain ⟨L, hL⟩ : ∃ L, L = rdU x 0 := ⟨_, rfl⟩
        rw [← hL] at hown hle HE2
        clear hL
        go_wp2_with (at_builtin; refine wpList_append_own _ rfl (.tmp 21) (.tmp 23) 23 rfl w2.heap.size 3 i3 _ 1 8 Tryd.underlying23 hi3 hz3 hs3 hb3 rfl (by decide) u3 L.length _ rfl (hown.alloc _) ⟨wr.heap.size, 0, none⟩ 1 1 [.int .i64 x.a] rfl rfl ?c1 ?c2 ?c3 ?c4 ?c5 ?_)
        case c1 => exact new_cells wr [.int .i64 x.a] 3 _ rfl
        case c2 => intro u hu; simp at hu; rcases hu with rfl; rfl
        case c3 => unfold maxLen; omega
        case c4 => omega
        case c5 => simp; omega
        intro v' w' hown' hgrow _
        have hb' : Below w2.heap.size w2 w' := (hbw.alloc hsz _).grown hgrow (by simp; omega) fun j hj => (hown.lt j hj).1
        have hown2 : w'.ownsRow w2.heap.size 3 1 v' (L ++ [x.a]).length ((L ++ [x.a]).map (Value.int .i64)) := by
          rw [List.length_append, List.length_singleton, List.map_append]
          exact hown'
        clear hown' hgrow hown
        go_wp2
        go_roundw
        case rel => exact ⟨1, by omega, by go_num, by rw [HE2.out]; exact hown2, hb'⟩
        case measure => simp [intOf]
      · have HE2 := Lib.hid (show rdU x 1 = rdU x 0 by rw [HE.out, ← hF0.out, fl, if_neg hf, List.append_nil])
        have t1 : (F0 == 1) = false := by simpa using hf
        clear HE hf
        go_wp2
        go_roundw
        case rel => exact ⟨1, by omega, by go_num, by rw [HE2.out]; exact hown, hbw⟩
        case measure => simp [intOf]
    · replace hi : u12 = .int .i64 1 := hi
      subst hi
      have he : rdU x 2 = rdU x 1 ++ fl (shp x.op).f1 x.b := by rfl
      have hle : (rdU x 1).length ≤ 1 := by exact fl_len _ _
      have HE := Lib.hid he
      clear he
      by_cases hf : F1 = 1
      · have HE2 := Lib.hid (show rdU x 2 = rdU x 1 ++ [x.b] by rw [HE.out, ← hF1.out, hf]; rfl)
        have t1 : (F1 == 1) = true := by simpa using hf
        obtain ⟨hi3, hz3, hs3, hb3⟩ := HI.out
        clear HE hf
        obtain ⟨L, hL⟩ : ∃ L, L = rdU x 1 := ⟨_, rfl⟩
        rw [← hL] at hown hle HE2
        clear hL
        go_wp2_with (at_builtin; refine wpList_append_own _ rfl (.tmp 21) (.tmp 23) 23 rfl w2.heap.size 3 i3 _ 1 8 Tryd.underlying23 hi3 hz3 hs3 hb3 rfl (by decide) u3 L.length _ rfl (hown.alloc _) ⟨wr.heap.size, 0, none⟩ 1 1 [.int .i64 x.b] rfl rfl ?c1 ?c2 ?c3 ?c4 ?c5 ?_)
        case c1 => exact new_cells wr [.int .i64 x.b] 3 _ rfl
        case c2 => intro u hu; simp at hu; rcases hu with rfl; rfl
        case c3 => unfold maxLen; omega
        case c4 => omega
        case c5 => simp; omega
        intro v' w' hown' hgrow _
        have hb' : Below w2.heap.size w2 w' := (hbw.alloc hsz _).grown hgrow (by simp; omega) fun j hj => (hown.lt j hj).1
        have hown2 : w'.ownsRow w2.heap.size 3 1 v' (L ++ [x.b]).length ((L ++ [x.b]).map (Value.int .i64)) := by
          rw [List.length_append, List.length_singleton, List.map_append]
          exact hown'
        clear hown' hgrow hown
        go_wp2
        go_roundw
        case rel => exact ⟨2, by omega, by go_num, by rw [HE2.out]; exact hown2, hb'⟩
        case measure => simp [intOf]
      · have HE2 := Lib.hid (show rdU x 2 = rdU x 1 by rw [HE.out, ← hF1.out, fl, if_neg hf, List.append_nil])
        have t1 : (F1 == 1) = false := by simpa using hf
        clear HE hf
        go_wp2
        go_roundw
        case rel => exact ⟨2, by omega, by go_num, by rw [HE2.out]; exact hown, hbw⟩
        case measure => simp [intOf]
    · replace hi : u12 = .int .i64 2 := hi
      subst hi
      have he : rdU x 3 = rdU x 2 ++ fl (shp x.op).f2 x.c := by rfl
      have hle : (rdU x 2).length ≤ 2 := by have := fl_len (shp x.op).f0 x.a; have := fl_len (shp x.op).f1 x.b; simp [rdU]; omega
      have HE := Lib.hid he
      clear he
      by_cases hf : F2 = 1
      · have HE2 := Lib.hid (show rdU x 3 = rdU x 2 ++ [x.c] by rw [HE.out, ← hF2.out, hf]; rfl)
        have t1 : (F2 == 1) = true := by simpa using hf
        obtain ⟨hi3, hz3, hs3, hb3⟩ := HI.out
        clear HE hf
        obtain ⟨L, hL⟩ : ∃ L, L = rdU x 2 := ⟨_, rfl⟩
        rw [← hL] at hown hle HE2
        clear hL
        go_wp2_with (at_builtin; refine wpList_append_own _ rfl (.tmp 21) (.tmp 23) 23 rfl w2.heap.size 3 i3 _ 1 8 Tryd.underlying23 hi3 hz3 hs3 hb3 rfl (by decide) u3 L.length _ rfl (hown.alloc _) ⟨wr.heap.size, 0, none⟩ 1 1 [.int .i64 x.c] rfl rfl ?c1 ?c2 ?c3 ?c4 ?c5 ?_)
        case c1 => exact new_cells wr [.int .i64 x.c] 3 _ rfl
        case c2 => intro u hu; simp at hu; rcases hu with rfl; rfl
        case c3 => unfold maxLen; omega
        case c4 => omega
        case c5 => simp; omega
        intro v' w' hown' hgrow _
        have hb' : Below w2.heap.size w2 w' := (hbw.alloc hsz _).grown hgrow (by simp; omega) fun j hj => (hown.lt j hj).1
        have hown2 : w'.ownsRow w2.heap.size 3 1 v' (L ++ [x.c]).length ((L ++ [x.c]).map (Value.int .i64)) := by
          rw [List.length_append, List.length_singleton, List.map_append]
          exact hown'
        clear hown' hgrow hown
        go_wp2
        go_roundw
        case rel => exact ⟨3, by omega, by go_num, by rw [HE2.out]; exact hown2, hb'⟩
        case measure => simp [intOf]
      · have HE2 := Lib.hid (show rdU x 3 = rdU x 2 by rw [HE.out, ← hF2.out, fl, if_neg hf, List.append_nil])
        have t1 : (F2 == 1) = false := by simpa using hf
        clear HE hf
        go_wp2
        go_roundw
        case rel => exact ⟨3, by omega, by go_num, by rw [HE2.out]; exact hown, hbw⟩
        case measure => simp [intOf]
    · replace hi : u12 = .int .i64 3 := hi
      subst hi
      go_wp2
      go_ret
      exact ⟨_, rfl, IntsV.own hown, hB.trans (hbw.mono hB.size)⟩

def writesV (o : Option Int) : Value := match o with
  | some r => .tuple #[.int .i64 r, .bool true]
  | none => .tuple #[.int .i64 0, .bool false]
theorem writesV_some (r : Int) : writesV (some r) = .tuple #[.int .i64 r, .bool true] := rfl
theorem writesV_none : writesV none = .tuple #[.int .i64 0, .bool false] := rfl

set_option maxRecDepth 100000 in
set_option maxHeartbeats 2000000 in
theorem writes_any (x : In) (lv : Value) (w : World) (ht : TabAt w) : Calls Tryd.prog 11 #[x.val lv] w fun e w' => e = .returned (writesV (writesO x)) ∧ Below w.heap.size w w' := by
  unfold In.val
  have hts := ht.lt
  have ht1 : TabAt (w.alloc (.cells #[.int .i64 x.op, .int .i64 x.a, .int .i64 x.b, .int .i64 x.c, lv] 25)) := ht.below ((Below.refl _ _).alloc (Nat.le_refl _) _) hts
  replace ht1 := Lib.hid ht1
  clear ht
  go_enter Tryd.func11, Tryd.ntmps11
  go_wp2_with fail
  refine (shapeOf_any x.op _ ht1.out).mono ?_
  rintro e w1 ⟨rfl, hb1⟩
  clear ht1
  have hB := box_below hb1
  have x0 := box_cell hb1 0 (.int .i64 x.op) rfl
  have x1 := box_cell hb1 1 (.int .i64 x.a) rfl
  have x2 := box_cell hb1 2 (.int .i64 x.b) rfl
  have x3 := box_cell hb1 3 (.int .i64 x.c) rfl
  have x4 := box_cell hb1 4 lv rfl
  have hlt := World.block_lt_of_cell? w1 _ x0
  clear hb1
  unfold Sh.val
  go_wp2_with fail
  refine (fieldsOf_any x lv _).mono ?_
  rintro e w2 ⟨rfl, hb2⟩
  have s0 := box_cell hb2 0 (.int .i64 (shp x.op).f0) rfl
  have s1 := box_cell hb2 1 (.int .i64 (shp x.op).f1) rfl
  have s2 := box_cell hb2 2 (.int .i64 (shp x.op).f2) rfl
  have hlt2 := World.block_lt_of_cell? w2 _ s0
  replace hB := hB.trans ((box_below hb2).mono hB.size)
  clear hb2 x0 x1 x2 x3 x4 hlt
  generalize w1.heap.size = bs at s0 s1 s2 hlt2 ⊢
  obtain ⟨F0, hF0⟩ : ∃ F, F = (shp x.op).f0 := ⟨_, rfl⟩
  obtain ⟨F1, hF1⟩ : ∃ F, F = (shp x.op).f1 := ⟨_, rfl⟩
  obtain ⟨F2, hF2⟩ : ∃ F, F = (shp x.op).f2 := ⟨_, rfl⟩
  have hW : writesO x = if F0 = 2 then some x.a else if F1 = 2 then some x.b else if F2 = 2 then some x.c else none := by rw [hF0, hF1, hF2]; rfl
  replace hW := Lib.hid hW
  simp only [← hF0] at s0 ⊢
  simp only [← hF1] at s1 ⊢
  simp only [← hF2] at s2 ⊢
  clear hF0 hF1 hF2
  have i0 : ∀ w, (Instr.index 49 (.agg #[.int .i64 x.a, .int .i64 x.b, .int .i64 x.c]) (.int .i64 0)).run Tryd.prog w = .ok (.int .i64 x.a) w := fun _ => by kernel_rfl
  have i1 : ∀ w, (Instr.index 49 (.agg #[.int .i64 x.a, .int .i64 x.b, .int .i64 x.c]) (.int .i64 1)).run Tryd.prog w = .ok (.int .i64 x.b) w := fun _ => by kernel_rfl
  have i2 : ∀ w, (Instr.index 49 (.agg #[.int .i64 x.a, .int .i64 x.b, .int .i64 x.c]) (.int .i64 2)).run Tryd.prog w = .ok (.int .i64 x.c) w := fun _ => by kernel_rfl
  go_wp2_with fail
  go_loop [12] (fun i => ∃ j : Nat, j ≤ 3 ∧ i = .int .i64 j ∧ (0 < j → F0 ≠ 2) ∧ (1 < j → F1 ≠ 2) ∧ (2 < j → F2 ≠ 2)) (fun i => 3 - (intOf i).toNat)
  case atStart => exact ⟨0, by omega, rfl, by omega, by omega, by omega⟩
  case round =>
    obtain ⟨j, hj, hi, n0, n1, n2⟩ := hrel
    replace n0 := Lib.hid n0
    replace n1 := Lib.hid n1
    replace n2 := Lib.hid n2
    have hj4 : j = 0 ∨ j = 1 ∨ j = 2 ∨ j = 3 := by omega
    rcases hj4 with rfl | rfl | rfl | rfl
    · replace hi : u12 = .int .i64 0 := hi
      subst hi
      by_cases hf : F0 = 2
      · have t1 : (F0 == 2) = true := by simpa using hf
        replace hf := Lib.hid hf
        go_wp2
        go_returns
        exact ⟨by rw [hW.out, if_pos hf.out]; rfl, hB⟩
      · have t1 : (F0 == 2) = false := by simpa using hf
        replace hf := Lib.hid hf
        go_wp2
        go_round
        case rel => exact ⟨1, by omega, by go_num, fun h => hf.out, fun h => absurd h (by omega), fun h => absurd h (by omega)⟩
        case measure => simp [intOf]
    · replace hi : u12 = .int .i64 1 := hi
      subst hi
      by_cases hf : F1 = 2
      · have t1 : (F1 == 2) = true := by simpa using hf
        replace hf := Lib.hid hf
        go_wp2
        go_returns
        exact ⟨by rw [hW.out, if_neg (n0.out (by omega)), if_pos hf.out]; rfl, hB⟩
      · have t1 : (F1 == 2) = false := by simpa using hf
        replace hf := Lib.hid hf
        go_wp2
        go_round
        case rel => exact ⟨2, by omega, by go_num, fun h => n0.out (by omega), fun h => hf.out, fun h => absurd h (by omega)⟩
        case measure => simp [intOf]
    · replace hi : u12 = .int .i64 2 := hi
      subst hi
      by_cases hf : F2 = 2
      · have t1 : (F2 == 2) = true := by simpa using hf
        replace hf := Lib.hid hf
        go_wp2
        go_returns
        exact ⟨by rw [hW.out, if_neg (n0.out (by omega)), if_neg (n1.out (by omega)), if_pos hf.out]; rfl, hB⟩
      · have t1 : (F2 == 2) = false := by simpa using hf
        replace hf := Lib.hid hf
        go_wp2
        go_round
        case rel => exact ⟨3, by omega, by go_num, fun h => n0.out (by omega), fun h => n1.out (by omega), fun h => hf.out⟩
        case measure => simp [intOf]
    · replace hi : u12 = .int .i64 3 := hi
      subst hi
      go_wp2
      go_returns
      exact ⟨by rw [hW.out, if_neg (n0.out (by omega)), if_neg (n1.out (by omega)), if_neg (n2.out (by omega))]; rfl, hB⟩
end Go.Proofs.YtobhfmliaecbjaaDoor
