/-
  MemRoom: the walk of its main way. No conditions but those of the statement's own guard.
-/
import Derived.Test.YtbcockaleegicaaActs
import Derived.OwnWalk
namespace Go.Proofs.Ytbcockaleegicaa
open Go.RowKit Go.ChangeShapes Go.WideShapes Go.ChangeAt

/-! ### rows of a slice beside a memory -/

theorem row_free {w : World} {mb : Nat} {lm : Option Nat} {loc : Nat → Nat} {S : MS} (R : RepAt w mb lm loc S) {g e : Nat} {cur : Array Value} (hg : w.heap[g]? = some (.cells cur e (0, 0))) (h1 : e ≠ 63) (h2 : e ≠ 69) : ¬ Owned mb lm loc S g := by
  rintro (rfl | h | ⟨k, l, h, rfl⟩)
  · rw [R.obj] at hg
    simp only [memObj, Option.some.injEq, Obj.cells.injEq] at hg
    exact h1 hg.2.1.symm
  · obtain ⟨D, ⟨es, clock, hb, _⟩, _⟩ := R.map g h
    rw [hb] at hg
    cases hg
  · rw [R.blk k l h] at hg
    simp only [Option.some.injEq, Obj.cells.injEq] at hg
    exact h2 hg.2.1.symm

theorem row_turned {w w' : World} {mb : Nat} {lm : Option Nat} {loc : Nat → Nat} {S : MS} {base e size n : Nat} {v : Value} {xs : List Value} (R : RepAt w mb lm loc S) (hK : Kept (Owned mb lm loc S) w w') (h1 : e ≠ 63) (h2 : e ≠ 69) (h : w.ownsRow base e size v n xs) : w'.ownsRow base e size v n xs := by
  refine ⟨h.1, ?_⟩
  rcases h.2 with hn | ⟨g, cap, cur, rfl, hb, hg, rest⟩
  · exact .inl hn
  · exact .inr ⟨g, cap, cur, rfl, hb, (hK.block g (Array.getElem?_eq_some_iff.1 hg).1 (row_free R hg h1 h2)).trans hg, rest⟩
theorem row_below {w w' : World} {base e size n : Nat} {v : Value} {xs : List Value} (hb : Below w.heap.size w w') (h : w.ownsRow base e size v n xs) : w'.ownsRow base e size v n xs := by
  refine ⟨h.1, ?_⟩
  rcases h.2 with hn | ⟨g, cap, cur, rfl, hbb, hg, rest⟩
  · exact .inl hn
  · exact .inr ⟨g, cap, cur, rfl, hbb, (hb.block g (Array.getElem?_eq_some_iff.1 hg).1).trans hg, rest⟩

/-- behind an append to a row the memory is as it was -/
theorem St.grown {B : Nat} {w0 w w' : World} {mb : Nat} {lm : Option Nat} {loc : Nat → Nat} {S : MS} {base e size n : Nat} {v : Value} {xs : List Value} (T : St B w0 w mb lm loc S) (h : w.ownsRow base e size v n xs) (hBb : B ≤ base) (h1 : e ≠ 63) (h2 : e ≠ 69) (hg : w.grownBy w' v.ownBlock) : St B w0 w' mb lm loc S := by
  have hne : ∀ b, Owned mb lm loc S b → some b ≠ v.ownBlock := by
    intro b ho
    rcases h.2 with ⟨rfl, _⟩ | ⟨g, cap, cur, rfl, hb, hgg, _⟩
    · simp [Value.ownBlock]
    · simp only [Value.ownBlock, ne_eq, Option.some.injEq]
      rintro rfl
      exact row_free T.rep hgg h1 h2 ho
  refine ⟨T.rep.keep fun b ho => hg.block b (T.rep.lt b ho) (hne b ho), T.own, ?_, Nat.le_trans T.le hg.size⟩
  refine T.below.grown hg T.le fun k hk => ?_
  have := h.lt k hk
  omega
/-- .. and another row, of other elements -/
theorem row_grown {w w' : World} {base e size n base' e' size' n' : Nat} {v v' : Value} {xs xs' : List Value} (h : w.ownsRow base e size v n xs) (h' : w.ownsRow base' e' size' v' n' xs') (hne : e ≠ e') (hg : w.grownBy w' v'.ownBlock) : w'.ownsRow base e size v n xs := by
  refine h.kept hg ?_
  rcases h.2 with ⟨rfl, _⟩ | ⟨g, cap, cur, rfl, hb, hgg, _⟩
  · exact .inl rfl
  · right
    rcases h'.2 with ⟨rfl, _⟩ | ⟨g', cap', cur', rfl, hb', hgg', _⟩
    · simp [Value.ownBlock]
    · simp only [Value.ownBlock, ne_eq, Option.some.injEq]
      rintro rfl
      rw [hgg] at hgg'
      simp only [Option.some.injEq, Obj.cells.injEq] at hgg'
      exact hne hgg'.2.1

theorem new_cells (w : World) (l : List Value) (t : TypeId) (g : Nat) (hg : g = w.heap.size) : ∀ j u, l[j]? = some u → (w.alloc (.cells l.toArray t)).cell? ((⟨g, 0, none⟩ : Addr).add j) = some u := by
  intro j u h
  subst hg
  rw [add_plain, Nat.zero_add]
  exact alloc_cell w l.toArray t j u (by simpa using h)

/-! ### the plain part -/
def allS (r : Int) (ns : List Nat) : MS := ⟨r, ns.map fun n => some (List.replicate n none)⟩
theorem allS_words (r : Int) (ns : List Nat) : (allS r ns).words = ns.sum := by
  unfold allS MS.words
  induction ns with
  | nil => rfl
  | cons n ns ih => simp only [List.map_cons, List.sum_cons, szO, List.length_replicate] at ih ⊢; omega
theorem allS_len (r : Int) (ns : List Nat) : (allS r ns).blocks.length = ns.length := by simp [allS]
theorem allS_push (r : Int) (ns : List Nat) (n : Nat) : (allS r ns).push n = allS r (ns ++ [n]) := by simp [allS, MS.push]
def madeRow (k : Nat) : List Value := (List.range k).flatMap fun (i : Nat) => [.bool true, .int .i64 ((i : Int) + 1), .int .i64 0]
theorem madeRow_succ (k : Nat) : madeRow (k + 1) = madeRow k ++ [.bool true, .int .i64 ((k : Int) + 1), .int .i64 0] := by simp [madeRow, List.range_succ]
def sizeRow (ns : List Nat) : List Value := ns.map fun (n : Nat) => .int .i64 (n : Int)
theorem sizeRow_snoc (ns : List Nat) (n : Nat) : sizeRow (ns ++ [n]) = sizeRow ns ++ [.int .i64 (n : Int)] := by simp [sizeRow]

def IntsAt (w : World) (b off : Nat) (zs : List Int) : Prop := ∀ i z, zs[i]? = some z → w.cell? ⟨b, off + i, none⟩ = some (.int .i64 z)

/-- the first loop's state -/
structure Roomy (B : Nat) (w0 : World) (mb : Nat) (r : Int) (vm vs : Value) (wr : World) (ns : List Nat) : Prop where
  st : ∃ lm loc, St B w0 wr mb lm loc (allS r ns)
  made : wr.ownsRow B 30 3 vm ns.length (madeRow ns.length)
  size : wr.ownsRow B 3 1 vs ns.length (sizeRow ns)

theorem madeRow_len (n : Nat) : (madeRow n).length = n * 3 := by
  induction n with
  | zero => rfl
  | succ n ih => rw [madeRow_succ, List.length_append, ih]; simp; omega
theorem madeRow_get (n k j : Nat) (hk : k < n) (hj : j < 3) : (madeRow n)[k * 3 + j]? = [Value.bool true, .int .i64 ((k : Int) + 1), .int .i64 0][j]? := by
  induction n with
  | zero => omega
  | succ n ih =>
    rw [madeRow_succ]
    by_cases h : k < n
    · rw [List.getElem?_append_left (by rw [madeRow_len]; omega)]
      exact ih h
    · obtain rfl : k = n := by omega
      rw [List.getElem?_append_right (by rw [madeRow_len]; omega), madeRow_len]
      congr 1
      omega

/-- .. the first k freed -/
def partS (r : Int) (ns : List Nat) (k : Nat) : MS := ⟨r, List.replicate k none ++ (ns.drop k).map fun n => some (List.replicate n none)⟩
theorem partS_zero (r : Int) (ns : List Nat) : partS r ns 0 = allS r ns := by simp [partS, allS]
theorem partS_words (r : Int) (ns : List Nat) (k : Nat) : (partS r ns k).words = (ns.drop k).sum := by
  have h := allS_words r (ns.drop k)
  unfold allS MS.words at h
  unfold partS MS.words
  rw [List.map_append, List.sum_append, h]
  simp [szO]
theorem partS_len (r : Int) (ns : List Nat) (k : Nat) (hk : k ≤ ns.length) : (partS r ns k).blocks.length = ns.length := by simp [partS]; omega
theorem partS_at (r : Int) (ns : List Nat) (k n : Nat) (hn : ns[k]? = some n) : (partS r ns k).at k = some (List.replicate n none) := by
  have hk : k < ns.length := (List.getElem?_eq_some_iff.1 hn).1
  unfold partS MS.at
  rw [List.getElem?_append_right (by simp)]
  simp [hn]
theorem partS_step (r : Int) (ns : List Nat) (k n : Nat) (hn : ns[k]? = some n) : (partS r ns k).setb k none = partS r ns (k + 1) := by
  have hk : k < ns.length := (List.getElem?_eq_some_iff.1 hn).1
  unfold partS MS.setb
  congr 1
  rw [List.set_append_right _ _ (by simp), List.length_replicate, Nat.sub_self, List.drop_eq_getElem_cons hk, List.map_cons, List.set_cons_zero, List.replicate_succ', List.append_assoc]
  rfl
theorem drop_sum (ns : List Nat) (k n : Nat) (hn : ns[k]? = some n) : (ns.drop k).sum = n + (ns.drop (k + 1)).sum := by
  have hk : k < ns.length := (List.getElem?_eq_some_iff.1 hn).1
  have : ns[k] = n := by rw [List.getElem?_eq_getElem hk] at hn; simpa using hn
  rw [List.drop_eq_getElem_cons hk, List.sum_cons, this]

theorem row_shape {w : World} {base e size n : Nat} {v : Value} {xs : List Value} (h : w.ownsRow base e size v n xs) : ∃ og g cap, v = .slice og n cap ∧ (0 < n → og = some ⟨g, 0, none⟩) := by
  rcases h.2 with ⟨rfl, rfl⟩ | ⟨g, cap, cur, rfl, _⟩
  · exact ⟨none, 0, 0, rfl, fun h => absurd h (Nat.lt_irrefl _)⟩
  · exact ⟨_, g, cap, rfl, fun _ => rfl⟩

/-- the second loop's state -/
structure Parted (B : Nat) (w0 : World) (mb : Nat) (r : Int) (vm vs : Value) (ns : List Nat) (wr : World) (k : Nat) : Prop where
  st : ∃ lm loc, St B w0 wr mb lm loc (partS r ns k)
  made : wr.ownsRow B 30 3 vm ns.length (madeRow ns.length)
  size : wr.ownsRow B 3 1 vs ns.length (sizeRow ns)

theorem info30 : (Try.prog.info? 30).map (fun i => (i.zero, i.size, i.bytes)) = some (some (.agg #[.bool false, .int .i64 0, .int .i64 0]), 3, 24) := by kernel_rfl
theorem info3 : (Try.prog.info? 3).map (fun i => (i.zero, i.size, i.bytes)) = some (some (.int .i64 0), 1, 8) := by kernel_rfl

set_option maxRecDepth 100000 in
set_option maxHeartbeats 3000000 in
theorem memRoom_main (r : Nat) (oa : Option Addr) (ab off cap : Nat) (zs : List Int) (w : World) (hr : r ≤ 1000) (hlen : zs.length ≤ 40) (hoa : 0 < zs.length → oa = some ⟨ab, off, none⟩ ∧ ab < w.heap.size) (hA : IntsAt w ab off zs) :
    Calls Try.prog 8 #[.int .i64 r, .slice oa zs.length cap] w fun e w' => e = .returned (.bool true) ∧ Below w.heap.size w w' := by
  have t1 : decide ((r : Int) < 0) = false := by simp
  have t2 : decide ((1000 : Int) < r) = false := by simp; omega
  have t3 : decide ((40 : Int) < zs.length) = false := by simp; omega
  replace hoa := Lib.hid hoa
  replace hA := Lib.hid hA
  obtain ⟨i30, hi30, hz30, hs30, hb30⟩ := info_parts info30
  obtain ⟨i3, hi3, hz3, hs3, hb3⟩ := info_parts info3
  have HI30 := Lib.hid (And.intro hi30 (And.intro hz30 (And.intro hs30 hb30)))
  have HI3 := Lib.hid (And.intro hi3 (And.intro hz3 (And.intro hs3 hb3)))
  clear hi30 hz30 hs30 hb30 hi3 hz3 hs3 hb3
  go_enter Try.func8, Try.ntmps8
  go_wp2_with fail
  refine (works_any _).mono ?_
  rintro e w1 ⟨rfl, hb1⟩
  go_wp2_with fail
  refine (new_any r r _ (by omega)).mono ?_
  rintro e w2 ⟨rfl, R2, hb2, hz2⟩
  obtain ⟨T2, F2⟩ := St.new hb1 hb1.size R2 hb2
  generalize hmb : w1.heap.size = mb at R2 T2 F2 ⊢
  clear hmb F2
  have hR : Roomy w.heap.size w mb r (.slice none 0 0) (.slice none 0 0) w2 [] := ⟨⟨none, _, T2⟩, World.ownsRow_nil _ _ _ _, World.ownsRow_nil _ _ _ _⟩
  clear T2 R2
  go_wp2_with fail
  go_loopw [7, 8, 9, 10] (fun ul um us ui wr => ∃ (j : Nat) (ns : List Nat), j ≤ zs.length ∧ ui = .int .i64 j ∧ ul = .int .i64 ((r : Int) - ns.sum) ∧ ns.sum ≤ r ∧ ns.length ≤ j ∧ Roomy w.heap.size w mb r um us wr ns) (fun _ _ _ ui _ => zs.length - (intOf ui).toNat)
  case atStart => exact ⟨0, [], by omega, rfl, by simp, by simp, by simp, hR⟩
  case round =>
    obtain ⟨j, ns, hj, rfl, rfl, hsum, hnl, ⟨lm, loc, T⟩, hm, hs⟩ := hrel
    by_cases hjl : j < zs.length
    · have t6 : decide ((j : Int) < zs.length) = true := by simpa using hjl
      obtain ⟨rfl, hab⟩ := hoa.out (by omega)
      obtain ⟨z, hz⟩ : ∃ z, zs[j]? = some z := ⟨_, List.getElem?_eq_getElem hjl⟩
      have habr : ab < wr.heap.size := by have := T.le; omega
      have g0 := (T.below.cell (p := ⟨ab, off + j, none⟩) hab).trans (hA.out j z hz)
      have HZ := Lib.hid hz
      clear hz
      by_cases c1 : z < 0
      · have s1 : decide (z < 0) = true := by simpa using c1
        go_wp2
        go_ret
        exact ⟨rfl, T.below⟩
      · have s1 : decide (z < 0) = false := by simpa using c1
        by_cases c2 : 2000 < z
        · have s2 : decide (2000 < z) = true := by simpa using c2
          go_wp2
          go_ret
          exact ⟨rfl, T.below⟩
        · have s2 : decide (2000 < z) = false := by simpa using c2
          obtain ⟨n, rfl⟩ : ∃ n : Nat, z = n := ⟨z.toNat, by omega⟩
          by_cases c3 : (n : Int) ≤ (r : Int) - ns.sum
          · have s3 : decide ((n : Int) ≤ (r : Int) - ns.sum) = true := by simpa using c3
            go_wp2_with fail
            refine (alloc_any T.rep n ((ns.length : Int) + 1) (by omega) (by rw [allS_words]; exact c3) (by rw [allS_len]; omega) (by rw [allS_len])).mono ?_
            rintro e w4 ⟨rfl, ht⟩
            obtain ⟨lm4, loc4, T4, F4, K4⟩ := T.turned ht
            rw [Int.toNat_natCast, allS_push] at T4
            replace hm := row_turned T.rep K4 (by decide) (by decide) hm
            replace hs := row_turned T.rep K4 (by decide) (by decide) hs
            clear ht F4 K4 T
            have g4 := T4.below
            have hab4 : ab < w4.heap.size := by have := T4.le; omega
            replace g0 := (T4.below.cell (p := ⟨ab, off + j, none⟩) hab).trans (hA.out j n HZ.out)
            clear g4
            obtain ⟨hi30, hz30, hs30, hb30⟩ := HI30.out
            obtain ⟨hi3, hz3, hs3, hb3⟩ := HI3.out
            go_wp2_with (at_builtin; refine wpList_append_own _ rfl (.tmp 79) (.tmp 81) 54 rfl w.heap.size 30 i30 _ 3 24 Try.underlying54 hi30 hz30 hs30 hb30 rfl (by decide) u8 ns.length _ rfl ((hm.alloc _).alloc _) ⟨w4.heap.size + 1, 0, none⟩ 1 1 [.bool true, .int .i64 ((ns.length : Int) + 1), .int .i64 0] rfl rfl ?c1 ?c2 ?c3 ?c4 ?c5 ?_)
            case c1 => exact new_cells (w4.alloc _) [.bool true, .int .i64 ((ns.length : Int) + 1), .int .i64 0] 30 _ (by simp)
            case c2 => intro u hu; simp at hu; rcases hu with rfl | rfl | rfl <;> rfl
            case c3 => unfold maxLen; omega
            case c4 => omega
            case c5 => have := T4.le; simp; omega
            intro v5 w5 hown5 hg5 _
            have T5 := ((T4.alloc _).alloc _).grown ((hm.alloc _).alloc _) (Nat.le_refl _) (by decide) (by decide) hg5
            have hs5 := row_grown ((hs.alloc _).alloc _) ((hm.alloc _).alloc _) (by decide) hg5
            clear hg5 T4 hm hs
            have hab5 : ab < w5.heap.size := by have := T5.le; omega
            replace g0 := (T5.below.cell (p := ⟨ab, off + j, none⟩) hab).trans (hA.out j n HZ.out)
            go_wp2_with (at_builtin; refine wpList_append_own _ rfl (.tmp 83) (.tmp 88) 57 rfl w.heap.size 3 i3 _ 1 8 Try.underlying57 hi3 hz3 hs3 hb3 rfl (by decide) u9 ns.length _ rfl (hs5.alloc _) ⟨w5.heap.size, 0, none⟩ 1 1 [.int .i64 (n : Int)] rfl rfl ?c1 ?c2 ?c3 ?c4 ?c5 ?_)
            case c1 => exact new_cells w5 [.int .i64 (n : Int)] 3 _ rfl
            case c2 => intro u hu; simp at hu; rcases hu with rfl; rfl
            case c3 => unfold maxLen; omega
            case c4 => omega
            case c5 => have := T5.le; simp; omega
            intro v6 w6 hown6 hg6 _
            have T6 := (T5.alloc _).grown (hs5.alloc _) (Nat.le_refl _) (by decide) (by decide) hg6
            have hm6 := row_grown (hown5.alloc _) (hs5.alloc _) (by decide) hg6
            have hR6 : Roomy w.heap.size w mb r v5 v6 w6 (ns ++ [n]) := by
              refine ⟨⟨lm4, loc4, T6⟩, ?_, ?_⟩
              · rw [List.length_append, List.length_singleton, madeRow_succ]; exact hm6
              · rw [List.length_append, List.length_singleton, sizeRow_snoc]; exact hown6
            have hsum2 : (ns ++ [n]).sum = ns.sum + n := by simp
            have HS2 := Lib.hid hsum2
            clear T5 T6 hm6 hs5 hown5 hown6 hg6 g0 hsum2
            go_wp2
            go_roundw
            case rel => exact ⟨j + 1, ns ++ [n], by omega, by go_num, by rw [HS2.out]; go_num, by rw [HS2.out]; omega, by simp; omega, hR6⟩
            case measure => simp [intOf]; omega
          · have s3 : decide ((n : Int) ≤ (r : Int) - ns.sum) = false := by simpa using c3
            go_wp2_with fail
            refine (alloc_room T.rep n (by omega) (by rw [allS_words]; show (r : Int) - _ < _; omega)).mono ?_
            rintro e w4 ⟨rfl, hb4⟩
            have T4 := T.next hb4
            have hm4 := row_below hb4 hm
            have hs4 := row_below hb4 hs
            have hab4 : ab < w4.heap.size := by have := T4.le; omega
            replace g0 := (T4.below.cell (p := ⟨ab, off + j, none⟩) hab).trans (hA.out j n HZ.out)
            clear T hm hs
            go_wp2
            go_roundw
            case rel => exact ⟨j + 1, ns, by omega, by go_num, rfl, by omega, by omega, ⟨lm, loc, T4.alloc _⟩, hm4.alloc _, hs4.alloc _⟩
            case measure => simp [intOf]; omega
    · have t6 : decide ((j : Int) < zs.length) = false := by simpa using hjl
      have hP : Parted w.heap.size w mb r u8 u9 ns wr 0 := ⟨⟨lm, loc, by rw [partS_zero]; exact T⟩, hm, hs⟩
      obtain ⟨og, gm, cm, rfl, hog⟩ := row_shape hm
      obtain ⟨os, gs, cs, rfl, hos⟩ := row_shape hs
      replace hog := Lib.hid hog
      replace hos := Lib.hid hos
      have hns : ns.length ≤ 40 := by omega
      clear T hm hs
      go_wp2_with fail
      go_loopw [7, 13] (fun ul uk wr => ∃ k left : Nat, k ≤ ns.length ∧ uk = .int .i64 k ∧ ul = .int .i64 left ∧ left + (ns.drop k).sum = r ∧ Parted w.heap.size w mb r (.slice og ns.length cm) (.slice os ns.length cs) ns wr k) (fun _ uk _ => ns.length - (intOf uk).toNat)
      case atStart => exact ⟨0, r - ns.sum, by omega, rfl, by rw [show ((r - ns.sum : Nat) : Int) = (r : Int) - ns.sum by omega], by rw [List.drop_zero]; omega, hP⟩
      case round =>
        obtain ⟨k, left, hk, rfl, rfl, hsk, ⟨lm, loc, T⟩, hm, hs⟩ := hrel
        have hW := words_any T.rep
        rw [partS_words] at hW
        have HW := Lib.hid hW
        clear hW
        by_cases hkl : k < ns.length
        · have t7 : decide ((k : Int) < ns.length) = true := by simpa using hkl
          obtain rfl := hog.out (by omega)
          obtain rfl := hos.out (by omega)
          obtain ⟨n, hn⟩ : ∃ n, ns[k]? = some n := ⟨_, List.getElem?_eq_getElem hkl⟩
          have hds := drop_sum ns k n hn
          obtain ⟨q, hq⟩ : ∃ q, (ns.drop (k + 1)).sum = q := ⟨_, rfl⟩
          obtain ⟨q', hq'⟩ : ∃ q', (ns.drop k).sum = q' := ⟨_, rfl⟩
          rw [hq, hq'] at hds
          rw [hq'] at hsk HW
          have hne : ((q' : Int) != (r : Int) - (left : Int)) = false := by simp; omega
          have hl1 : left ≤ r := by omega
          have hl2 : left + n ≤ r := by omega
          have HSK := Lib.hid hsk
          clear hsk
          have HQ := Lib.hid hq
          have HN := Lib.hid hn
          have HDS := Lib.hid hds
          clear hq hq' hn hds
          have m0 := (hm.cellAt (k * 3) (by omega)).trans (madeRow_get ns.length k 0 hkl (by decide))
          have m1 := (hm.cellAt (k * 3 + 1) (by omega)).trans (madeRow_get ns.length k 1 hkl (by decide))
          have m2 := (hm.cellAt (k * 3 + 2) (by omega)).trans (madeRow_get ns.length k 2 hkl (by decide))
          simp only [List.getElem?_cons_zero, List.getElem?_cons_succ] at m0 m1 m2
          go_wp2_with fail
          refine HW.out.mono ?_
          rintro e w7 ⟨rfl, rfl⟩
          go_wp2_with fail
          refine (free_is T.rep true ((k : Int) + 1) 0 k _ rfl rfl rfl (partS_at r ns k n HN.out)).mono ?_
          rintro e w8 ⟨rfl, ht⟩
          obtain ⟨lm8, loc8, T8, F8, K8⟩ := T.turned ht
          rw [partS_step r ns k n HN.out] at T8
          have hm8 := row_turned T.rep K8 (by decide) (by decide) hm
          have hs8 := row_turned T.rep K8 (by decide) (by decide) hs
          have hP8 : Parted w.heap.size w mb r (.slice (some ⟨gm, 0, none⟩) ns.length cm) (.slice (some ⟨gs, 0, none⟩) ns.length cs) ns w8 (k + 1) := ⟨⟨lm8, loc8, T8⟩, hm8, hs8⟩
          have s0 : w8.cell? ⟨gs, k, none⟩ = some (.int .i64 (n : Int)) := by
            rw [hs8.cellAt k (by omega)]
            unfold sizeRow
            rw [List.getElem?_map, HN.out]
            rfl
          clear ht F8 K8 T8 hm8 hs8 hm hs T m0 m1 m2 HW
          go_wp2
          go_roundw
          case rel => exact ⟨k + 1, left + n, by omega, by go_num, by go_num, by have h1 := HQ.out; have h2 := HDS.out; have h3 := HSK.out; rw [h1]; omega, hP8⟩
          case measure => simp [intOf]; omega
        · have t7 : decide ((k : Int) < ns.length) = false := by simpa using hkl
          obtain rfl : k = ns.length := by omega
          have e0 : (ns.drop ns.length).sum = 0 := by simp
          have E0 := Lib.hid e0
          rw [e0] at hsk
          obtain rfl : left = r := by omega
          clear e0
          go_wp2_with fail
          refine (alloc_any T.rep left ((ns.length : Int) + 1) (by omega) (by rw [partS_words, E0.out]; show (left : Int) ≤ (left : Int) - _; omega) (by rw [partS_len _ _ _ (Nat.le_refl _)]; omega) (by rw [partS_len _ _ _ (Nat.le_refl _)])).mono ?_
          rintro e w7 ⟨rfl, ht⟩
          obtain ⟨lm7, loc7, T7, F7, K7⟩ := T.turned ht
          clear ht F7 K7 T hm hs HW
          go_wp2
          go_ret
          exact ⟨rfl, (T7.alloc _).below⟩
end Go.Proofs.Ytbcockaleegicaa
