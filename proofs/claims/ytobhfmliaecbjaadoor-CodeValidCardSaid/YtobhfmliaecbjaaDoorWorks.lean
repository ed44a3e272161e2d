/-
  The walk of works, the document's examples. Conditions: the tables lie in their places.
-/
import Derived.Test.YtobhfmliaecbjaaDoorText
import Derived.Test.YtobhfmliaecbjaaDoorValid
namespace Go.Proofs.YtobhfmliaecbjaaDoor
open Go.RowKit

def x0 : In := ⟨3, 1, 0, 0, []⟩
def x1 : In := ⟨29, 0, 0, 0, []⟩
def x2 : In := ⟨3, 1, 2, 0, []⟩
def p1 : Pg := ⟨[[x0, x1]], []⟩
def p2 : Pg := ⟨[[x2, x1]], []⟩
def p3 : Pg := ⟨[[x1]], []⟩

theorem ints_nil (w : World) : IntsV w (.slice none 0 0) [] := ⟨none, 0, 0, 0, rfl, Nat.le_refl _, Nat.zero_le _, fun h => absurd h (Nat.lt_irrefl _), fun i z hz => by simp at hz⟩
def ic (x : In) : List Value := [.int .i64 x.op, .int .i64 x.a, .int .i64 x.b, .int .i64 x.c, .slice none 0 0]

theorem pg_two {w : World} {g1 g2 : Nat} {a b : In} (h2 : w.heap[g2]? = some (.cells (ic a ++ ic b).toArray 25)) (h1 : w.heap[g1]? = some (.cells #[.slice (some ⟨g2, 0, none⟩) 2 2] 39)) (ha : a.l = []) (hb : b.l = []) :
    PgV w (.slice (some ⟨g1, 0, none⟩) 1 1) (.slice none 0 0) ⟨[[a, b]], []⟩ := by
  have hl2 := (Array.getElem?_eq_some_iff.1 h2).1
  have hl1 := (Array.getElem?_eq_some_iff.1 h1).1
  refine ⟨⟨_, 1, g1, 0, rfl, Nat.le_refl _, by unfold maxLen; omega, fun _ => ⟨rfl, hl1⟩, fun i f hf => ?_⟩, none, 0, 0, 0, rfl, Nat.le_refl _, Nat.zero_le _, fun h => absurd h (Nat.lt_irrefl _), fun i c hc => by simp at hc⟩
  match i, hf with
  | 0, hf =>
    simp at hf
    subst hf
    refine ⟨_, by simp [World.cell?, h1], _, 2, g2, 0, rfl, Nat.le_refl _, by unfold maxLen; omega, fun _ => ⟨rfl, hl2⟩, fun k x hx => ?_⟩
    match k, hx with
    | 0, hx =>
      simp at hx
      subst hx
      refine ⟨.slice none 0 0, ?_, ?_, ?_, ?_, ?_, by rw [ha]; exact ints_nil w⟩ <;> simp [World.cell?, h2, ic]
    | 1, hx =>
      simp at hx
      subst hx
      refine ⟨.slice none 0 0, ?_, ?_, ?_, ?_, ?_, by rw [hb]; exact ints_nil w⟩ <;> simp [World.cell?, h2, ic]
    | n + 2, hx => simp at hx
  | n + 1, hf => simp at hf
theorem pg_one {w : World} {g1 g2 : Nat} {a : In} (h2 : w.heap[g2]? = some (.cells (ic a).toArray 25)) (h1 : w.heap[g1]? = some (.cells #[.slice (some ⟨g2, 0, none⟩) 1 1] 39)) (ha : a.l = []) :
    PgV w (.slice (some ⟨g1, 0, none⟩) 1 1) (.slice none 0 0) ⟨[[a]], []⟩ := by
  have hl2 := (Array.getElem?_eq_some_iff.1 h2).1
  have hl1 := (Array.getElem?_eq_some_iff.1 h1).1
  refine ⟨⟨_, 1, g1, 0, rfl, Nat.le_refl _, by unfold maxLen; omega, fun _ => ⟨rfl, hl1⟩, fun i f hf => ?_⟩, none, 0, 0, 0, rfl, Nat.le_refl _, Nat.zero_le _, fun h => absurd h (Nat.lt_irrefl _), fun i c hc => by simp at hc⟩
  match i, hf with
  | 0, hf =>
    simp at hf
    subst hf
    refine ⟨_, by simp [World.cell?, h1], _, 1, g2, 0, rfl, Nat.le_refl _, by unfold maxLen; omega, fun _ => ⟨rfl, hl2⟩, fun k x hx => ?_⟩
    match k, hx with
    | 0, hx =>
      simp at hx
      subst hx
      refine ⟨.slice none 0 0, ?_, ?_, ?_, ?_, ?_, by rw [ha]; exact ints_nil w⟩ <;> simp [World.cell?, h2, ic]
    | n + 1, hx => simp at hx
  | n + 1, hf => simp at hf

theorem ok1 : PgOk p1 := by
  refine ⟨by decide, by decide, fun c hc => by simp [p1] at hc, fun i f hf => ?_⟩
  match i, hf with
  | 0, hf =>
    simp [p1] at hf
    subst hf
    refine ⟨by decide, by decide, fun x hx => ?_, fun x hx => ?_, fun i x r hx hr hu => ?_⟩
    · simp at hx; subst hx; decide
    · simp at hx
      rcases hx with rfl | rfl <;> decide
    · match i, hx with
      | 0, hx =>
        simp at hx
        subst hx
        have e : readsL x0 = [0] := rfl
        rw [e] at hr
        simp at hr
        subst hr
        have key : ∀ k, ¬ Un [x0, x1] (zk ((kindsL p1).getD 0 0)).testBit 0 k := fun k hk => by
          induction hk with
          | start h => exact absurd h (by decide)
          | step _ _ _ _ ih => exact ih
        exact key _ hu
      | 1, hx =>
        simp at hx
        subst hx
        have e : readsL x1 = [] := rfl
        rw [e] at hr
        simp at hr
      | n + 2, hx => simp at hx
  | n + 1, hf => simp [p1] at hf
theorem nok2 : ¬ PgOk p2 := fun h => by
  have h1 := h.fn 0 [x2, x1] rfl
  exact h1.ahead 0 x2 2 rfl (by decide) (.start (by decide))
theorem lab_nil {p : Pg} (h : ∀ f ∈ p.fs, ∀ x ∈ f, x.l = []) : LabOk p := fun f hf x hx => by rw [h f hf x hx]; exact Nat.zero_le _
theorem text3 : textB p3 = [102, 117, 110, 10, 50, 57, 32, 48, 32, 48, 32, 48, 10] := by kernel_rfl

def three (w : World) (cs : Array Value) (n : Nat) : World := ((w.alloc (.cells cs 25)).alloc (.cells #[.slice (some ⟨w.heap.size, 0, none⟩) n n] 39)).alloc (.cells #[.slice (some ⟨w.heap.size + 1, 0, none⟩) 1 1, .slice none 0 0] 35)
theorem three_is (w : World) (cs : Array Value) (n : Nat) : (three w cs n).heap[w.heap.size]? = some (.cells cs 25) ∧ (three w cs n).heap[w.heap.size + 1]? = some (.cells #[.slice (some ⟨w.heap.size, 0, none⟩) n n] 39) ∧
    (three w cs n).heap[w.heap.size + 1 + 1]? = some (.cells #[.slice (some ⟨w.heap.size + 1, 0, none⟩) 1 1, .slice none 0 0] 35) ∧ Below w.heap.size w (three w cs n) := by
  have sz : ∀ (w : World) (o : Obj), (w.alloc o).heap.size = w.heap.size + 1 := fun w o => by simp
  unfold three
  refine ⟨?_, ?_, ?_, ?_⟩
  · rw [heap_alloc_old _ _ (by simp only [sz]; omega), heap_alloc_old _ _ (by simp only [sz]; omega), heap_alloc_new]
  · rw [heap_alloc_old _ _ (by simp only [sz]; omega)]
    have := heap_alloc_new (w.alloc (.cells cs 25)) (.cells #[.slice (some ⟨w.heap.size, 0, none⟩) n n] 39)
    simpa only [sz] using this
  · have := heap_alloc_new ((w.alloc (.cells cs 25)).alloc (.cells #[.slice (some ⟨w.heap.size, 0, none⟩) n n] 39)) (.cells #[.slice (some ⟨w.heap.size + 1, 0, none⟩) 1 1, .slice none 0 0] 35)
    simpa only [sz] using this
  · exact ((alloc_below _ _).alloc (by simp only [sz]; omega) _).alloc (by simp only [sz]; omega) _
theorem keepB {w w' : World} {k : Nat} {o : Obj} (h : w.heap[k]? = some o) (hb : Below w.heap.size w w') : w'.heap[k]? = some o := (hb.block _ (Array.getElem?_eq_some_iff.1 h).1).trans h

theorem ins_one {w : World} {v : Value} {z : Int} (h : IntsV w v [z]) : ∃ b off cap, v = .slice (some ⟨b, off, none⟩) 1 cap ∧ w.cell? ⟨b, off, none⟩ = some (.int .i64 z) ∧ b < w.heap.size := by
  obtain ⟨oa, cap, b, off, rfl, h1, h2, h3, h4⟩ := h
  obtain ⟨rfl, hb⟩ := h3 (by simp)
  exact ⟨b, off, cap, rfl, h4 0 z rfl, hb⟩

set_option maxRecDepth 100000 in
set_option maxHeartbeats 4000000 in
theorem works_any (w : World) (hT : TabAt w) (hP : PowAt w) (h4 : 4 ≤ w.heap.size) : Calls Tryd.prog 10 #[] w fun e w' => e = .returned (.bool true) ∧ Below w.heap.size w w' := by
  have HT := Lib.hid hT
  have HP := Lib.hid hP
  clear hT hP
  go_enter Tryd.func10, Tryd.ntmps10
  go_wp2_with fail
  obtain ⟨a1, a2, a3, hb1⟩ := three_is w (ic x0 ++ ic x1).toArray 2
  change Calls _ _ _ (three w (ic x0 ++ ic x1).toArray 2) _
  have hc : Calls Tryd.prog 11 #[.agg #[.int .i64 3, .int .i64 1, .int .i64 0, .int .i64 0, .slice none 0 0]] (three w (ic x0 ++ ic x1).toArray 2) (fun e w' => e = .returned (.tuple #[.int .i64 1, .bool true]) ∧ Below (three w (ic x0 ++ ic x1).toArray 2).heap.size (three w (ic x0 ++ ic x1).toArray 2) w') := writes_any x0 (.slice none 0 0) _ (HT.out.below hb1 (by omega))
  generalize three w (ic x0 ++ ic x1).toArray 2 = W1 at a1 a2 a3 hb1 hc ⊢
  refine hc.mono ?_
  clear hc
  rintro e w2 ⟨rfl, hb2⟩
  replace a1 := keepB a1 hb2
  replace a2 := keepB a2 hb2
  replace a3 := keepB a3 hb2
  have B2 : Below w.heap.size w w2 := hb1.trans (hb2.mono hb1.size)
  clear hb1 hb2
  obtain ⟨g1, hg1⟩ : ∃ g, g = w.heap.size := ⟨_, rfl⟩
  rw [← hg1] at a1 a2 a3
  simp only [← hg1]
  clear hg1
  have d0 : w2.cell? ⟨g1 + 1 + 1, 0, none⟩ = some (.slice (some ⟨g1 + 1, 0, none⟩) 1 1) := by simp [World.cell?, a3]
  have d1 : w2.cell? ⟨g1 + 1 + 1, 1, none⟩ = some (.slice none 0 0) := by simp [World.cell?, a3]
  have d2 : w2.cell? ⟨g1 + 1, 0, none⟩ = some (.slice (some ⟨g1, 0, none⟩) 2 2) := by simp [World.cell?, a2]
  have e0 : w2.cell? ⟨g1, 0, none⟩ = some (.int .i64 3) := by simp [World.cell?, a1, ic, x0]
  have e1 : w2.cell? ⟨g1, 1, none⟩ = some (.int .i64 1) := by simp [World.cell?, a1, ic, x0]
  have e2 : w2.cell? ⟨g1, 2, none⟩ = some (.int .i64 0) := by simp [World.cell?, a1, ic, x0]
  have e3 : w2.cell? ⟨g1, 3, none⟩ = some (.int .i64 0) := by simp [World.cell?, a1, ic, x0]
  have e4 : w2.cell? ⟨g1, 4, none⟩ = some (.slice none 0 0) := by simp [World.cell?, a1, ic, x0]
  have A1 := Lib.hid a1
  have A2 := Lib.hid a2
  have A3 := Lib.hid a3
  clear a1 a2 a3
  have hc : Calls Tryd.prog 14 #[.agg #[.int .i64 3, .int .i64 1, .int .i64 0, .int .i64 0, .slice none 0 0]] w2 (fun e w' => ∃ v, e = .returned v ∧ IntsV w' v [0] ∧ Below w2.heap.size w2 w') := reads_any x0 (.slice none 0 0) _ (HT.out.below B2 (by omega))
  go_wp2_with fail
  refine hc.mono ?_
  clear hc
  rintro e w3 ⟨vr, rfl, hr, hb3⟩
  have a1 := Lib.hid (keepB A1.out hb3)
  have a2 := Lib.hid (keepB A2.out hb3)
  have a3 := Lib.hid (keepB A3.out hb3)
  have B3 : Below w.heap.size w w3 := B2.trans (hb3.mono B2.size)
  clear d0 d1 d2 e0 e1 e2 e3 e4 A1 A2 A3 hb3 B2
  have d0 : w3.cell? ⟨g1 + 1 + 1, 0, none⟩ = some (.slice (some ⟨g1 + 1, 0, none⟩) 1 1) := by simp [World.cell?, a3.out]
  have d1 : w3.cell? ⟨g1 + 1 + 1, 1, none⟩ = some (.slice none 0 0) := by simp [World.cell?, a3.out]
  have hc : Calls Tryd.prog 19 #[.agg #[.slice (some ⟨g1 + 1, 0, none⟩) 1 1, .slice none 0 0]] w3 (fun e w' => ∃ v, e = .returned v ∧ IntsV w' v [0] ∧ Below w3.heap.size w3 w') := kinds_any w3 _ _ p1 (pg_two a1.out a2.out rfl rfl) (by decide) (by decide)
  obtain ⟨rb, ro, rc, rfl, r0, rlt⟩ := ins_one hr
  clear hr
  go_wp2_with fail
  refine hc.mono ?_
  clear hc
  rintro e w4 ⟨vk, rfl, hk, hb4⟩
  obtain ⟨kb, ko, kc, rfl, k0, klt⟩ := ins_one hk
  clear hk
  replace a1 := Lib.hid (keepB a1.out hb4)
  replace a2 := Lib.hid (keepB a2.out hb4)
  replace a3 := Lib.hid (keepB a3.out hb4)
  have B4 : Below w.heap.size w w4 := B3.trans (hb4.mono B3.size)
  replace r0 := (hb4.cell (p := ⟨rb, ro, none⟩) rlt).trans r0
  replace rlt : rb < w4.heap.size := Nat.lt_of_lt_of_le rlt hb4.size
  clear d0 d1 hb4 B3
  have d0 : w4.cell? ⟨g1 + 1 + 1, 0, none⟩ = some (.slice (some ⟨g1 + 1, 0, none⟩) 1 1) := by simp [World.cell?, a3.out]
  have d1 : w4.cell? ⟨g1 + 1 + 1, 1, none⟩ = some (.slice none 0 0) := by simp [World.cell?, a3.out]
  have dlt : g1 + 1 + 1 < w4.heap.size := (Array.getElem?_eq_some_iff.1 a3.out).1
  have d0' : ∀ o1 o2 o3, (((w4.alloc o1).alloc o2).alloc o3).cell? ⟨g1 + 1 + 1, 0, none⟩ = some (.slice (some ⟨g1 + 1, 0, none⟩) 1 1) := fun o1 o2 o3 =>
    (alloc_same _ _ _ (by simp; omega)).trans ((alloc_same _ _ _ (by simp; omega)).trans ((alloc_same _ _ _ dlt).trans d0))
  have d1' : ∀ o1 o2 o3, (((w4.alloc o1).alloc o2).alloc o3).cell? ⟨g1 + 1 + 1, 1, none⟩ = some (.slice none 0 0) := fun o1 o2 o3 =>
    (alloc_same _ _ _ (by simp; omega)).trans ((alloc_same _ _ _ (by simp; omega)).trans ((alloc_same _ _ _ dlt).trans d1))
  go_wp2_with fail
  obtain ⟨c1, c2, c3, hb5⟩ := three_is w4 (ic x2 ++ ic x1).toArray 2
  change Calls _ _ _ (three w4 (ic x2 ++ ic x1).toArray 2) _
  generalize three w4 (ic x2 ++ ic x1).toArray 2 = W5 at c1 c2 c3 hb5 ⊢
  replace a1 := keepB a1.out hb5
  replace a2 := keepB a2.out hb5
  have B5 : Below w.heap.size w W5 := B4.trans (hb5.mono B4.size)
  replace r0 := (hb5.cell (p := ⟨rb, ro, none⟩) rlt).trans r0
  replace k0 := (hb5.cell (p := ⟨kb, ko, none⟩) klt).trans k0
  replace rlt : rb < W5.heap.size := Nat.lt_of_lt_of_le rlt hb5.size
  replace klt : kb < W5.heap.size := Nat.lt_of_lt_of_le klt hb5.size
  obtain ⟨g2, hg2⟩ : ∃ g, g = w4.heap.size := ⟨_, rfl⟩
  rw [← hg2] at c1 c2 c3
  simp only [← hg2]
  clear d0 d1 d0' d1' dlt a3 hb5 B4 hg2
  refine (valid_any W5 _ _ p1 (pg_two a1 a2 rfl rfl) (lab_nil (by simp [p1, x0, x1])) (HT.out.below B5 (by omega))).mono ?_
  rintro e w6 ⟨b, rfl, hiff, hb6⟩
  obtain rfl : b = true := hiff.2 ok1
  clear hiff a1 a2
  have B6 : Below w.heap.size w w6 := B5.trans (hb6.mono B5.size)
  replace c1 := keepB c1 hb6
  replace c2 := keepB c2 hb6
  replace c3 := keepB c3 hb6
  replace r0 := (hb6.cell (p := ⟨rb, ro, none⟩) rlt).trans r0
  replace k0 := (hb6.cell (p := ⟨kb, ko, none⟩) klt).trans k0
  replace rlt : rb < w6.heap.size := Nat.lt_of_lt_of_le rlt hb6.size
  replace klt : kb < w6.heap.size := Nat.lt_of_lt_of_le klt hb6.size
  have d0 : w6.cell? ⟨g2 + 1 + 1, 0, none⟩ = some (.slice (some ⟨g2 + 1, 0, none⟩) 1 1) := by simp [World.cell?, c3]
  have d1 : w6.cell? ⟨g2 + 1 + 1, 1, none⟩ = some (.slice none 0 0) := by simp [World.cell?, c3]
  have hv2 := valid_any w6 _ _ p2 (pg_two c1 c2 rfl rfl) (lab_nil (by simp [p2, x2, x1])) (HT.out.below B6 (by omega))
  clear hb6 B5 c1 c2 c3
  go_wp2_with fail
  refine hv2.mono ?_
  rintro e w7 ⟨b, rfl, hiff, hb7⟩
  obtain rfl : b = false := by
    cases b with
    | false => rfl
    | true => exact absurd (hiff.1 rfl) nok2
  clear hiff hv2 d0 d1
  have B7 : Below w.heap.size w w7 := B6.trans (hb7.mono B6.size)
  replace r0 := (hb7.cell (p := ⟨rb, ro, none⟩) rlt).trans r0
  replace k0 := (hb7.cell (p := ⟨kb, ko, none⟩) klt).trans k0
  clear rlt klt hb7 B6
  go_wp2_with fail
  have q1 : ((w7.alloc (.cells (ic x1).toArray 25)).alloc (.cells #[.slice (some ⟨w7.heap.size, 0, none⟩) 1 1] 39)).heap[w7.heap.size]? = some (.cells (ic x1).toArray 25) := by
    rw [heap_alloc_old _ _ (by simp), heap_alloc_new]
  have q2 : ((w7.alloc (.cells (ic x1).toArray 25)).alloc (.cells #[.slice (some ⟨w7.heap.size, 0, none⟩) 1 1] 39)).heap[w7.heap.size + 1]? = some (.cells #[.slice (some ⟨w7.heap.size, 0, none⟩) 1 1] 39) := by
    have := heap_alloc_new (w7.alloc (.cells (ic x1).toArray 25)) (.cells #[.slice (some ⟨w7.heap.size, 0, none⟩) 1 1] 39)
    simpa using this
  have hb8 : Below w7.heap.size w7 ((w7.alloc (.cells (ic x1).toArray 25)).alloc (.cells #[.slice (some ⟨w7.heap.size, 0, none⟩) 1 1] 39)) := (alloc_below _ _).alloc (by simp) _
  have B8 := B7.trans (hb8.mono B7.size)
  have hc := text_any _ _ _ p3 (pg_one q1 q2 rfl) ⟨by decide, by decide, by decide, by decide⟩ ⟨by simp [p3], fun f hf x hx => by
    simp [p3] at hf
    subst hf
    simp at hx
    subst hx
    intro n hn
    simp [x1] at hn
    rcases hn with rfl | rfl <;> omega⟩ (HP.out.below B8 h4) (Nat.le_trans h4 B8.size)
  refine hc.mono ?_
  clear hc q1 q2 hb8
  rintro e w9 ⟨rfl, hb9⟩
  have B9 : Below w.heap.size w w9 := B8.trans (hb9.mono B8.size)
  clear B8 hb9 B7 r0 k0
  rw [text3]
  go_wp2_with fail
  refine (falls_any ⟨3, 0, 0, 0, []⟩ (.slice none 0 0) w9).mono ?_
  rintro e w10 ⟨rfl, hb10⟩
  have e1 : fallsB (In.mk 3 0 0 0 []).op = true := by decide
  rw [e1]
  go_wp2
  go_ret
  exact ⟨rfl, B9.trans (hb10.mono B9.size)⟩
end Go.Proofs.YtobhfmliaecbjaaDoor
