/-
  Several texts of the proof in one: KStart, KGoOn, KUndo. No conditions of their own: each lemma states its own.
-/
import Derived.Test.YtgpkhdccchpljaaDoorKJMac
import Derived.Test.YtgpkhdccchpljaaDoorKWord
import Derived.Test.YtgpkhdccchpljaaDoorKJBegin
import Derived.Deep.RegionWith
namespace Go.Proofs.YtgpkhdccchpljaaDoor
open Go.RowKit
open M (Wd MS RepAt Owned Kept Turned loadR storeR copyR clearR freeR allocR)
open C (In)

theorem MacAt.not_own {w0 w : World} {L : Ly} {c : Cx} {S : MS} {told : List Ev} (h : MacAt w0 w L c S told) {t : TypeId} (ht : Loc t) {b : Nat} {cs : Array Value} (hb : w.heap[b]? = some (.cells cs t)) : ¬ MOwn L S b := by
  obtain ⟨t1, t2, t3, t4, t5, t6⟩ := ht
  rintro (rfl | e | e | e)
  · obtain ⟨_, _, h1, _⟩ := h.mach
    rw [hb] at h1; simp at h1; exact t1 h1.2
  · exact not_owned h.mem ⟨t5, t6⟩ hb e
  · obtain ⟨D, ⟨es, clock, h5, _⟩, _⟩ := h.evs.2 _ e
    rw [hb] at h5; cases h5
  · obtain ⟨_, h1⟩ := own_blk h.told e
    rw [hb] at h1; simp at h1; exact t4 h1.2
theorem MTurns.cell {w0 w w1 : World} {L : Ly} {c c' : Cx} {S S' : MS} {told' : List Ev} (h : MTurns w0 w w1 L c S c' S' told') (hw : w0.heap.size ≤ w.heap.size) {t : TypeId} (ht : Loc t) {b : Nat} {cs : Array Value} (hb : w1.heap[b]? = some (.cells cs t)) (hB : w.heap.size ≤ b) (j : Nat) (v : Value) : MTurns w0 w (w1.setCell ⟨b, j, none⟩ v) L c S c' S' told' := by
  obtain ⟨L1, e1, h1, h2, h3⟩ := h
  exact ⟨L1, e1, h1.keep (h1.below.next (by simp [World.setCell]) fun b' _ hf => Below.heap_setCell _ _ _ _ (show b' ≠ b from fun e => hf (e ▸ free_of_ge (Nat.le_trans hw hB)))) fun b' ho => Below.heap_setCell _ _ _ _ (show b' ≠ b from fun e => h1.not_own ht hb (e ▸ ho)), h2, kept_cell h3 hB j v⟩
theorem MTurns.out {w0 w WW : World} {L : Ly} {c c' : Cx} {S S' : MS} {told' : List Ev} (h : MTurns w0 w WW L c S c' S' told') (hw : w0.heap.size ≤ w.heap.size) {B : Nat} (hB : w.heap.size ≤ B) {a0 a1 : Value} (hr : WW.heap[B]? = some (.cells #[a0, a1] 41)) (k n : Value) :
    ((WW.setCell ⟨B, 0, none⟩ k).setCell ⟨B, 1, none⟩ n).heap[B]? = some (.cells #[k, n] 41) ∧ MTurns w0 w ((WW.setCell ⟨B, 0, none⟩ k).setCell ⟨B, 1, none⟩ n) L c S c' S' told' :=
  ⟨set2 hr, (h.cell hw (t := 41) (by unfold Loc; decide) hr hB 0 k).cell hw (t := 41) (by unfold Loc; decide) (heap_setCell_same WW B 0 _ 41 k hr) hB 1 n⟩
theorem MTurns.drew {w0 w w1 : World} {L : Ly} {c c' : Cx} {S S' : MS} {told' : List Ev} (h : MTurns w0 w w1 L c S c' S' told') : MTurns w0 w w1.drew L c S c' S' told' := h.below (Below.refl _ _).drew

/-- a call of mem turns the memory alone -/
theorem MTurns.mem {w0 w w' : World} {L : Ly} {c : Cx} {S S' : MS} {told : List Ev} (h : MacAt w0 w L c S told) (T : Turned w w' L.mb L.lm L.loc S S') : MTurns w0 w w' L c S c S' told := by
  obtain ⟨lm', loc', R', ho, hk⟩ := T
  have hlt := h.lt
  obtain ⟨fv, cv, h1, h2⟩ := h.mach
  have hkb : ∀ b, MOwn L S b → ¬ Owned L.mb L.lm L.loc S b → w'.heap[b]? = w.heap[b]? := fun b hb hn => hk.block b (hlt b hb) hn
  have ho' : ∀ b, MOwn { L with lm := lm', loc := loc' } S' b → MOwn L S b ∨ w.heap.size ≤ b := by
    rintro b (e | e | e | e)
    · exact .inl (.inl e)
    · rcases ho b e with h5 | h5
      · exact .inl (.inr (.inl h5))
      · exact .inr h5
    · exact .inl (.inr (.inr (.inl e)))
    · exact .inl (.inr (.inr (.inr e)))
  refine ⟨{ L with lm := lm', loc := loc' }, rfl, ⟨⟨fv, cv, (hkb _ (.inl rfl) (not_owned h.mem (by decide) h1)).trans h1, h2⟩, R', ?_, ?_, ?_, ?_, h.evs.1, ?_⟩, ho', ⟨hk.os, hk.tape, hk.output, hk.size, fun b hb hn => hk.block b hb fun e => hn (.inr (.inl e))⟩⟩
  · refine own_keep h.told fun b hb => hkb b (.inr (.inr (.inr hb))) ?_
    obtain ⟨_, h3⟩ := own_blk h.told hb
    exact not_owned h.mem (by decide) h3
  · exact h.below.next hk.size fun b hl hf => hk.block b hl fun e => hf (h.own b (.inr (.inl e)))
  · intro b hb
    rcases ho' b hb with h5 | h5
    · exact h.own b h5
    · exact free_of_ge (Nat.le_trans h.below.size h5)
  · intro b hb e
    rcases ho b e with h5 | h5
    · exact h.apart b hb h5
    · have := hlt b (.inr (.inr (.inl hb)))
      omega
  · intro b hb
    obtain ⟨D, ⟨es, clock, h5, h6⟩, h7⟩ := h.evs.2 b hb
    exact ⟨D, ⟨es, clock, (hkb b (.inr (.inr (.inl hb))) (h.apart b hb)).trans h5, h6⟩, h7⟩
theorem MTurns.local {w0 w w1 : World} {L : Ly} {c c' : Cx} {S S' : MS} {told told' : List Ev} (h : MTurns w0 w w1 L c S c' S' told') (hs : MacAt w0 w L c S told) {t : TypeId} (ht : Loc t) {b : Nat} {cs : Array Value} (hb : w.heap[b]? = some (.cells cs t)) : w1.heap[b]? = some (.cells cs t) := by
  obtain ⟨L1, e1, h1, h2, h3⟩ := h
  exact (h3.block b (Array.getElem?_eq_some_iff.1 hb).1 (hs.not_own ht hb)).trans hb
theorem MTurns.out3 {w0 w WW : World} {L : Ly} {c c' : Cx} {S S' : MS} {told' : List Ev} (h : MTurns w0 w WW L c S c' S' told') (hw : w0.heap.size ≤ w.heap.size) {B : Nat} (hB : w.heap.size ≤ B) {a0 a1 a2 : Value} (hr : WW.heap[B]? = some (.cells #[a0, a1, a2] 38)) (y : Wd) :
    (((WW.setCell ⟨B, 0, none⟩ (.bool y.p)).setCell ⟨B, 1, none⟩ (.int .i64 y.a)).setCell ⟨B, 2, none⟩ (.int .i64 y.n)).heap[B]? = some (.cells #[.bool y.p, .int .i64 y.a, .int .i64 y.n] 38) ∧ MTurns w0 w (((WW.setCell ⟨B, 0, none⟩ (.bool y.p)).setCell ⟨B, 1, none⟩ (.int .i64 y.a)).setCell ⟨B, 2, none⟩ (.int .i64 y.n)) L c S c' S' told' := by
  have h1 := heap_setCell_same WW B 0 _ 38 (.bool y.p) hr
  have h2 := heap_setCell_same _ B 1 _ 38 (.int .i64 y.a) h1
  have h3 := heap_setCell_same _ B 2 _ 38 (.int .i64 y.n) h2
  exact ⟨by simpa using h3, ((h.cell hw (t := 38) (by unfold Loc; decide) hr hB 0 _).cell hw (t := 38) (by unfold Loc; decide) h1 hB 1 _).cell hw (t := 38) (by unfold Loc; decide) h2 hB 2 _⟩
/-- the two results' cells are written -/
theorem MTurns.out5 {w0 w WW : World} {L : Ly} {c c' : Cx} {S S' : MS} {told' : List Ev} (h : MTurns w0 w WW L c S c' S' told') (hw : w0.heap.size ≤ w.heap.size) {B : Nat} (hB : w.heap.size ≤ B) {a0 a1 a2 b0 b1 : Value} (hr : WW.heap[B]? = some (.cells #[a0, a1, a2] 38)) (hq : WW.heap[B + 1]? = some (.cells #[b0, b1] 41)) (y : Wd) (k n : Value) :
    (((((WW.setCell ⟨B, 0, none⟩ (.bool y.p)).setCell ⟨B, 1, none⟩ (.int .i64 y.a)).setCell ⟨B, 2, none⟩ (.int .i64 y.n)).setCell ⟨B + 1, 0, none⟩ k).setCell ⟨B + 1, 1, none⟩ n).heap[B]? = some (.cells #[.bool y.p, .int .i64 y.a, .int .i64 y.n] 38) ∧
    (((((WW.setCell ⟨B, 0, none⟩ (.bool y.p)).setCell ⟨B, 1, none⟩ (.int .i64 y.a)).setCell ⟨B, 2, none⟩ (.int .i64 y.n)).setCell ⟨B + 1, 0, none⟩ k).setCell ⟨B + 1, 1, none⟩ n).heap[B + 1]? = some (.cells #[k, n] 41) ∧
    MTurns w0 w (((((WW.setCell ⟨B, 0, none⟩ (.bool y.p)).setCell ⟨B, 1, none⟩ (.int .i64 y.a)).setCell ⟨B, 2, none⟩ (.int .i64 y.n)).setCell ⟨B + 1, 0, none⟩ k).setCell ⟨B + 1, 1, none⟩ n) L c S c' S' told' := by
  obtain ⟨g1, g2⟩ := h.out3 hw hB hr y
  have hne : B + 1 ≠ B := Nat.succ_ne_self B
  have hq' : (((WW.setCell ⟨B, 0, none⟩ (.bool y.p)).setCell ⟨B, 1, none⟩ (.int .i64 y.a)).setCell ⟨B, 2, none⟩ (.int .i64 y.n)).heap[B + 1]? = some (.cells #[b0, b1] 41) := by
    rw [Below.heap_setCell _ _ _ _ hne, Below.heap_setCell _ _ _ _ hne, Below.heap_setCell _ _ _ _ hne]; exact hq
  obtain ⟨g3, g4⟩ := g2.out hw (show w.heap.size ≤ B + 1 by omega) hq' k n
  refine ⟨?_, g3, g4⟩
  rw [Below.heap_setCell _ _ _ _ (show B ≠ B + 1 by omega), Below.heap_setCell _ _ _ _ (show B ≠ B + 1 by omega)]
  exact g1

/-- what Start comes to -/
def startR (p : C.Pg) (S : MS) (co : Int) (args : List Int) : (Wd × Out) × MS :=
  if hasB p co = false ∨ (args.length : Int) ≠ (coOf p co).ar then ((z3, ⟨6, 1⟩), S)
  else if (frameR p S co args).1.2 ≠ 0 then ((z3, stopO (frameR p S co args).1.2), (frameR p S co args).2)
  else (((frameR p S co args).1.1, ⟨2, 0⟩), (frameR p S co args).2)

set_option maxRecDepth 100000 in
set_option maxHeartbeats 8000000 in
theorem start_any {w0 w : World} {L : Ly} {c : Cx} {S : MS} {told : List Ev} (H : MacAt w0 w L c S told) (hmade : S.blocks.length + 1 < 1000000) (co : Int) (oaa : Option Addr) (capa : Nat) (args : List Int)
    (harg : ∀ w', Kept (MOwn L S) w w' → C.IntsV w' (.slice oaa args.length capa) args) (y : Wd) (o : Out) (S' : MS) (hR : startR c.p S co args = ((y, o), S')) :
    Calls Tryd.prog 8 #[.pointer (some ⟨L.mc, 0, none⟩), .int .i64 co, .slice oaa args.length capa] w fun e w' => e = .returned (.tuple #[.agg #[.bool y.p, .int .i64 y.a, .int .i64 y.n], outV o]) ∧ MTurns w0 w w' L c S c S' told := by
  obtain ⟨fm, cm, hmm, hP⟩ := H.mach
  have hC := (pgV_under H.below hP).2
  obtain ⟨oac, capc, bc, offc, rfl, hc1, hc2, hc3, hc4⟩ := hC
  obtain ⟨W, hW⟩ : ∃ W, W = (w.alloc (.cells #[.bool false, .int .i64 0, .int .i64 0] 38)).alloc (.cells #[.int .i64 0, .int .i64 0] 41) := ⟨_, rfl⟩
  obtain ⟨hbW, hx0, hx1⟩ := al2 w (.cells #[.bool false, .int .i64 0, .int .i64 0] 38) (.cells #[.int .i64 0, .int .i64 0] 41)
  rw [← hW] at hbW hx0 hx1
  have HS := H.under hbW
  obtain ⟨m0, m1, m2, m3, m4, mf, ml⟩ := cells5 (keepB7 hmm hbW)
  have hhas := Lib.hid (fun w' h => has_any (w := w') (mk := L.mc) (p := c.p) (oac := oac) (capc := capc) h co)
  obtain ⟨B, hB⟩ : ∃ B, B = w.heap.size := ⟨_, rfl⟩
  have hBw : w.heap.size ≤ B := Nat.le_of_eq hB.symm
  rw [← hB] at hx0 hx1
  have hBl : B < W.heap.size := (Array.getElem?_eq_some_iff.1 hx0).1
  have hw00 := H.below.size
  go_enter Tryd.func8, Tryd.ntmps8
  go_upto_region 1 with fail
  rw [← hW]
  simp only [← hB]
  clear hW
  replace hB := Lib.hid hB
  have HX0 := Lib.hid hx0
  have HX1 := Lib.hid hx1
  have HSS := Lib.hid HS
  have HW := Lib.hid hbW
  have HM0 := Lib.hid (MTurns.same H hbW)
  obtain ⟨r0, r1, r2, rf, rl⟩ := cells3 hx0
  obtain ⟨q0, q1, qf, ql⟩ := cells2 hx1
  have HARG := Lib.hid harg
  have M1 := Lib.hid m1
  clear hx0 hx1 HS harg hBl
  obtain ⟨al, hal⟩ : ∃ al, args.length = al := ⟨_, rfl⟩
  rw [hal]
  cases hb : hasB c.p co with
  | false =>
    have hR2 : y = z3 ∧ o = ⟨6, 1⟩ ∧ S' = S := by
      rw [startR, if_pos (.inl hb)] at hR
      simp only [Prod.mk.injEq] at hR
      exact ⟨hR.1.1.symm, hR.1.2.symm, hR.2.symm⟩
    obtain ⟨rfl, rfl, rfl⟩ := hR2
    rw [hb] at hhas
    clear hR hb hc1 hc2 hc3 hc4 hP hmm H hal
    have hst := Lib.hid (fun w' => stop_any 1 w')
    rw [show stopO 1 = ⟨6, 1⟩ from rfl] at hst
    go_wp2_with
      (first
        | (go_at_call 21; refine (orEmpty_any L.mc _).mono ?_; rintro e W1 ⟨rfl, rfl⟩)
        | (go_at_call 22; refine (hhas.out _ M1.out).mono ?_; rintro e W2 ⟨rfl, rfl⟩)
        | (go_at_call 23; refine (hst.out _).mono ?_; rintro e WW ⟨rfl, hb7⟩; obtain ⟨g0, g1, g2⟩ := MTurns.out5 (HM0.out.below hb7) hw00 hBw (keepB7 HX0.out hb7) (keepB7 HX1.out hb7) z3 (.int .i64 6) (.int .i64 1); simp only [z3] at g0 g1 g2; have hfz0 := Lib.hid g0; have hfz1 := Lib.hid g1; have hfin := Lib.hid g2; have hX0 := keepB7 HX0.out hb7; have hX1 := keepB7 HX1.out hb7; clear r0 r1 r2 rf rl q0 q1 qf ql; obtain ⟨r0, r1, r2, rf, rl⟩ := cells3 hX0; obtain ⟨q0, q1, qf, ql⟩ := cells2 hX1; clear g0 g1 g2 hX0 hX1 hb7))
    have hf0 := hfz0.out
    have hf1 := hfz1.out
    clear hfz0 hfz1
    generalize (World.setCell (World.setCell (World.setCell (World.setCell (World.setCell WW _ _) _ _) _ _) _ _) _ _) = WF at hf0 hf1 hfin ⊢
    obtain ⟨p0, p1, p2, pf, pl⟩ := cells3 hf0
    obtain ⟨s0, s1, sf, sl⟩ := cells2 hf1
    exact bodyPost_ret (v := .tuple #[.agg #[.bool false, .int .i64 0, .int .i64 0], .agg #[.int .i64 6, .int .i64 1]]) (by simp [results, Tryd.results8, go_sem, p0, p1, p2, s0, s1]) rfl ⟨rfl, hfin.out⟩
  | true =>
    have hb' := hb
    simp only [hasB, Bool.and_eq_true, decide_eq_true_eq] at hb'
    obtain ⟨f, hf⟩ : ∃ f : Nat, co = f := ⟨co.toNat, by omega⟩
    subst hf
    have hfl : f < c.p.cs.length := by omega
    have hfi : (f : Int) < c.p.cs.length := by omega
    obtain ⟨cr, hcr⟩ : ∃ cr, c.p.cs[f]? = some cr := ⟨_, List.getElem?_eq_getElem hfl⟩
    have hco : coOf c.p f = cr := by simp [coOf, hcr]
    obtain ⟨rfl, hbc⟩ := hc3 (by omega)
    obtain ⟨nms, -, -, -, -, k4⟩ := hc4 f cr hcr
    replace k4 := (HW.out.cell (p := ⟨bc, offc + f * 5 + 4, none⟩) hbc).trans k4
    rw [hb] at hhas
    have hcl : bc < W.heap.size := Nat.lt_of_lt_of_le hbc HW.out.size
    by_cases har : (args.length : Int) = cr.ar
    · obtain ⟨x, er, S1, hfr⟩ : ∃ x er S1, frameR c.p S f args = ((x, er), S1) := ⟨_, _, _, rfl⟩
      have hR2 : (er ≠ 0 → y = z3 ∧ o = stopO er ∧ S' = S1) ∧ (er = 0 → y = x ∧ o = ⟨2, 0⟩ ∧ S' = S1) := by
        rw [startR, if_neg (by rw [hb, hco]; simp [har]), hfr] at hR
        by_cases he : er = 0
        · rw [if_neg (by simp [he])] at hR
          simp only [Prod.mk.injEq] at hR
          exact ⟨fun h => absurd he h, fun _ => ⟨hR.1.1.symm, hR.1.2.symm, hR.2.symm⟩⟩
        · rw [if_pos (by simpa using he)] at hR
          simp only [Prod.mk.injEq] at hR
          exact ⟨fun _ => ⟨hR.1.1.symm, hR.1.2.symm, hR.2.symm⟩, fun h => absurd h he⟩
      have HR2 := Lib.hid hR2
      have hfrm := Lib.hid (frame_any (p := c.p) (oac := some ⟨bc, offc, none⟩) (capc := capc) (oaa := oaa) (capa := capa) (mk := L.mc) HSS.out.mem hmade f cr args (fun w' hk => by
        obtain ⟨fm', cm', hm', hP'⟩ := HSS.out.mach
        have hm2 := (hk.block L.mc (HSS.out.lt _ (.inl rfl)) (not_owned HSS.out.mem (by decide) hm')).trans hm'
        obtain ⟨g0, g1, g2, -, -, -, -⟩ := cells5 hm2
        have hu := pgV_under (HSS.out.below.next hk.size fun b hl hf => hk.block b hl fun e => hf (HSS.out.own b (.inr (.inl e)))) hP'
        have hk2 : Kept (MOwn L S) w w' := kept_trans (Kept.of_below HW.out) hk fun b hb => .inl (.inr (.inl hb))
        have e1 := (HW.out.block L.mc (H.lt _ (.inl rfl))).trans hmm
        rw [hm'] at e1
        simp at e1
        rw [e1.2] at g1 hu
        exact ⟨g2, g1, hu.2, HARG.out w' hk2⟩) hcr x er S1 hfr)
      rw [hal] at hfrm
      rw [← har, hal] at k4
      have hst := Lib.hid (fun w' => stop_any er w')
      obtain ⟨kk, hkk⟩ : ∃ kk, kk = (stopO er).k := ⟨_, rfl⟩
      obtain ⟨nn, hnn⟩ : ∃ nn, nn = (stopO er).n := ⟨_, rfl⟩
      rw [← hkk, ← hnn] at hst
      have HKN := Lib.hid (show outV (stopO er) = .agg #[.int .i64 kk, .int .i64 nn] by rw [outV, hkk, hnn])
      clear hR hR2 hb hb' hc1 hc2 hc3 hc4 hP hmm H hal hbc hcr hco har hfr hkk hnn hmade
      go_upto_region 5 with
        (first
          | (go_at_call 21; refine (orEmpty_any L.mc _).mono ?_; rintro e W1 ⟨rfl, rfl⟩)
          | (go_at_call 22; refine (hhas.out _ M1.out).mono ?_; rintro e W2 ⟨rfl, rfl⟩)
          | (go_at_call 24; refine hfrm.out.mono ?_; rintro e W5 ⟨rfl, hT5⟩; have HT5 := Lib.hid hT5; clear hT5))
      have hM5 := MTurns.mem HSS.out HT5.out
      have hb6 : Below W5.heap.size W5 (W5.alloc (.cells #[.bool x.p, .int .i64 x.a, .int .i64 x.n] 38)) := C.alloc_below _ _
      have hy6 : (W5.alloc (.cells #[.bool x.p, .int .i64 x.a, .int .i64 x.n] 38)).heap[W5.heap.size]? = some (.cells #[.bool x.p, .int .i64 x.a, .int .i64 x.n] 38) := heap_alloc_new _ _
      have HX06 := Lib.hid (keepB7 (hM5.local HSS.out (t := 38) (by unfold Loc; decide) HX0.out) hb6)
      have HX16 := Lib.hid (keepB7 (hM5.local HSS.out (t := 41) (by unfold Loc; decide) HX1.out) hb6)
      have HM6 := Lib.hid ((MTurns.under HW.out hM5).below hb6)
      clear r0 r1 r2 rf rl q0 q1 qf ql hM5 hb6 k4 m0 m1 m2 m3 m4 mf ml hcl
      generalize W5.alloc (.cells #[.bool x.p, .int .i64 x.a, .int .i64 x.n] 38) = W6 at hy6 HX06 HX16 HM6 ⊢
      generalize W5.heap.size = b6 at hy6 ⊢
      obtain ⟨r0, r1, r2, rf, rl⟩ := cells3 HX06.out
      obtain ⟨q0, q1, qf, ql⟩ := cells2 HX16.out
      obtain ⟨v0, v1, v2, vf, vl⟩ := cells3 hy6
      clear hy6
      by_cases he : er = 0
      · have t1 : (er != 0) = false := by simp [he]
        obtain ⟨rfl, rfl, rfl⟩ := HR2.out.2 he
        obtain ⟨g0, g1, g2⟩ := MTurns.out5 HM6.out hw00 hBw HX06.out HX16.out y (.int .i64 2) (.int .i64 0)
        have hfz0 := Lib.hid g0
        have hfz1 := Lib.hid g1
        have hfin := Lib.hid g2
        clear g0 g1 g2 he
        go_wp2
        have hf0 := hfz0.out
        have hf1 := hfz1.out
        clear hfz0 hfz1
        generalize (World.setCell (World.setCell (World.setCell (World.setCell (World.setCell W6 _ _) _ _) _ _) _ _) _ _) = WF at hf0 hf1 hfin ⊢
        obtain ⟨p0, p1, p2, pf, pl⟩ := cells3 hf0
        obtain ⟨s0, s1, sf, sl⟩ := cells2 hf1
        exact bodyPost_ret (v := .tuple #[.agg #[.bool y.p, .int .i64 y.a, .int .i64 y.n], .agg #[.int .i64 2, .int .i64 0]]) (by simp [results, Tryd.results8, go_sem, p0, p1, p2, s0, s1]) rfl ⟨rfl, hfin.out⟩
      · have t1 : (er != 0) = true := by simpa using he
        obtain ⟨rfl, rfl, rfl⟩ := HR2.out.1 he
        clear he
        go_wp2_with
          (go_at_call 23; refine (hst.out _).mono ?_; rintro e WW ⟨rfl, hb7⟩; obtain ⟨g0, g1, g2⟩ := MTurns.out5 (HM6.out.below hb7) hw00 hBw (keepB7 HX06.out hb7) (keepB7 HX16.out hb7) z3 (.int .i64 kk) (.int .i64 nn); simp only [z3] at g0 g1 g2; have hfz0 := Lib.hid g0; have hfz1 := Lib.hid g1; have hfin := Lib.hid g2; have hX0 := keepB7 HX06.out hb7; have hX1 := keepB7 HX16.out hb7; clear r0 r1 r2 rf rl q0 q1 qf ql; obtain ⟨r0, r1, r2, rf, rl⟩ := cells3 hX0; obtain ⟨q0, q1, qf, ql⟩ := cells2 hX1; clear g0 g1 g2 hX0 hX1 hb7)
        have hf0 := hfz0.out
        have hf1 := hfz1.out
        clear hfz0 hfz1
        generalize (World.setCell (World.setCell (World.setCell (World.setCell (World.setCell WW _ _) _ _) _ _) _ _) _ _) = WF at hf0 hf1 hfin ⊢
        obtain ⟨p0, p1, p2, pf, pl⟩ := cells3 hf0
        obtain ⟨s0, s1, sf, sl⟩ := cells2 hf1
        exact bodyPost_ret (v := .tuple #[.agg #[.bool false, .int .i64 0, .int .i64 0], .agg #[.int .i64 kk, .int .i64 nn]]) (by simp [results, Tryd.results8, go_sem, p0, p1, p2, s0, s1]) rfl ⟨by rw [HKN.out]; rfl, hfin.out⟩
    · have hR2 : y = z3 ∧ o = ⟨6, 1⟩ ∧ S' = S := by
        rw [startR, if_pos (.inr (by rw [hco]; exact har))] at hR
        simp only [Prod.mk.injEq] at hR
        exact ⟨hR.1.1.symm, hR.1.2.symm, hR.2.symm⟩
      obtain ⟨rfl, rfl, rfl⟩ := hR2
      rw [hal] at har
      have t9 : ((al : Int) != cr.ar) = true := by simpa using har
      clear hR hb hb' hc1 hc2 hc3 hc4 hP hmm H hal hbc hcr hco har
      have hst := Lib.hid (fun w' => stop_any 1 w')
      rw [show stopO 1 = ⟨6, 1⟩ from rfl] at hst
      go_wp2_with
        (first
          | (go_at_call 21; refine (orEmpty_any L.mc _).mono ?_; rintro e W1 ⟨rfl, rfl⟩)
          | (go_at_call 22; refine (hhas.out _ M1.out).mono ?_; rintro e W2 ⟨rfl, rfl⟩)
          | (go_at_call 23; refine (hst.out _).mono ?_; rintro e WW ⟨rfl, hb7⟩; obtain ⟨g0, g1, g2⟩ := MTurns.out5 (HM0.out.below hb7) hw00 hBw (keepB7 HX0.out hb7) (keepB7 HX1.out hb7) z3 (.int .i64 6) (.int .i64 1); simp only [z3] at g0 g1 g2; have hfz0 := Lib.hid g0; have hfz1 := Lib.hid g1; have hfin := Lib.hid g2; have hX0 := keepB7 HX0.out hb7; have hX1 := keepB7 HX1.out hb7; clear r0 r1 r2 rf rl q0 q1 qf ql; obtain ⟨r0, r1, r2, rf, rl⟩ := cells3 hX0; obtain ⟨q0, q1, qf, ql⟩ := cells2 hX1; clear g0 g1 g2 hX0 hX1 hb7))
      have hf0 := hfz0.out
      have hf1 := hfz1.out
      clear hfz0 hfz1
      generalize (World.setCell (World.setCell (World.setCell (World.setCell (World.setCell WW _ _) _ _) _ _) _ _) _ _) = WF at hf0 hf1 hfin ⊢
      obtain ⟨p0, p1, p2, pf, pl⟩ := cells3 hf0
      obtain ⟨s0, s1, sf, sl⟩ := cells2 hf1
      exact bodyPost_ret (v := .tuple #[.agg #[.bool false, .int .i64 0, .int .i64 0], .agg #[.int .i64 6, .int .i64 1]]) (by simp [results, Tryd.results8, go_sem, p0, p1, p2, s0, s1]) rfl ⟨rfl, hfin.out⟩
end Go.Proofs.YtgpkhdccchpljaaDoor

namespace Go.Proofs.YtgpkhdccchpljaaDoor
open Go.RowKit
open M (Wd MS RepAt Owned Kept Turned)

/-- what code that may be run has: each coroutine's functions are there -/
def CoOk (p : C.Pg) : Prop := ∀ c ∈ p.cs, (0 ≤ c.re ∧ c.re < p.fs.length) ∧ (0 ≤ c.ca ∧ c.ca < p.fs.length)

theorem stop_out (e : Int) : stopO e = ⟨(stopO e).k, (stopO e).n⟩ := rfl

set_option maxRecDepth 100000 in
set_option maxHeartbeats 8000000 in
theorem goOn_any {w0 w : World} {L : Ly} {c : Cx} {s : Se} (H : SesAt w0 w L c s) (hco : CoOk c.p) (x : Wd) :
    Calls Tryd.prog 26 #[.pointer (some ⟨L.sk, 0, none⟩), .agg #[.bool x.p, .int .i64 x.a, .int .i64 x.n]] w fun e w' => e = .returned (outV (goOnR c.p s x).1) ∧ Turns w0 w w' L c s (goOnR c.p s x).2 := by
  obtain ⟨W, hW⟩ : ∃ W, W = (w.alloc (.cells #[.bool x.p, .int .i64 x.a, .int .i64 x.n] 38)).alloc (.cells #[.int .i64 0, .int .i64 0] 41) := ⟨_, rfl⟩
  have hbW : Below w.heap.size w W := by rw [hW]; exact (C.alloc_below _ _).alloc (by simp) _
  have hx : W.heap[w.heap.size]? = some (.cells #[.bool x.p, .int .i64 x.a, .int .i64 x.n] 38) := by rw [hW, Below.heap_alloc _ _ _ (by simp), heap_alloc_new]
  have hr : W.heap[w.heap.size + 1]? = some (.cells #[.int .i64 0, .int .i64 0] 41) := by
    have := heap_alloc_new (w.alloc (.cells #[.bool x.p, .int .i64 x.a, .int .i64 x.n] 38)) (.cells #[.int .i64 0, .int .i64 0] 41)
    rw [hW]; simpa using this
  have HS := H.under hbW
  have hses := HS.ses
  rw [sesC] at hses
  obtain ⟨z0, z1, z2, z3', zf, zl⟩ := cells4m hses
  obtain ⟨x0, x1, x2, xf, xl⟩ := cells3 hx
  obtain ⟨r0, r1, rf, rl⟩ := cells2 hr
  have hsl := H.lt L.sk (.inr (.inl rfl))
  have hw00 := H.below.size
  obtain ⟨st, cr, er, hlk⟩ : ∃ st cr er, lookR c.p s.S x = (st, cr, er) := ⟨_, _, _, rfl⟩
  have hlook := Lib.hid (show ∀ w', Below W.heap.size W w' → Calls Tryd.prog 42 #[.pointer (some ⟨L.mc, 0, none⟩), .agg #[.bool x.p, .int .i64 x.a, .int .i64 x.n]] w' fun e w'' => (∃ nm, e = .returned (.tuple #[.int .i64 st, .agg #[.string nm, .int .i64 cr.re, .int .i64 cr.ca, .int .i64 cr.wo, .int .i64 cr.ar], .int .i64 er])) ∧ Below w'.heap.size w' w'' from fun w' hb' => by
    have h1 := HS.under hb'
    obtain ⟨fv, cv, hm, hP⟩ := h1.mach
    obtain ⟨y0, y1, y2, y3, y4, yf, yl⟩ := cells5 hm
    have hC := (pgV_under h1.below hP).2
    have hC' := hC
    obtain ⟨oac, capc, b, off, rfl, -⟩ := hC'
    have := look_any h1.mem y2 y1 hC x
    rw [hlk] at this
    exact this)
  have HLK := Lib.hid hlk
  have HS' := Lib.hid HS
  have HX := Lib.hid hx
  have HR := Lib.hid hr
  have HW := Lib.hid hbW
  have HH := Lib.hid H
  obtain ⟨B, hB⟩ : ∃ B, B = w.heap.size := ⟨_, rfl⟩
  go_enter Tryd.func26, Tryd.ntmps26
  go_upto_region 1 with fail
  rw [← hW]
  clear hW hbW hx hr HS hses hlk H
  rw [← hB] at x0 x1 x2 xl r0 r1 rl HX HR
  simp only [← hB] at xf rf ⊢
  replace hB := Lib.hid hB
  go_cut [5, 6, 7] (fun s5 s6 s7 wc => s5 = .int .i64 st ∧ s7 = .int .i64 er ∧ ∃ b6 nm, s6 = .pointer (some ⟨b6, 0, none⟩) ∧ wc.heap[b6]? = some (.cells #[.string nm, .int .i64 cr.re, .int .i64 cr.ca, .int .i64 cr.wo, .int .i64 cr.ar] 66) ∧ Below W.heap.size W wc)
  case first =>
    have n1 : L.sk ≠ W.heap.size := Nat.ne_of_lt zl
    have n3 : W.heap.size ≠ L.sk := Nat.ne_of_gt zl
    have n2 : B ≠ W.heap.size := Nat.ne_of_lt xl
    have n4 : W.heap.size ≠ B := Nat.ne_of_gt xl
    go_region_with
      (first
        | (go_at_call 42; refine (hlook.out _ ((C.alloc_below W (.cells #[.string ⟨#[]⟩, .int .i64 0, .int .i64 0, .int .i64 0, .int .i64 0] 66)).drew)).mono ?_; rintro e w3 ⟨⟨nm, rfl⟩, hb3⟩; have B3 : Below W.heap.size W w3 := C.box_below (undrew (W.alloc (.cells #[.string ⟨#[]⟩, .int .i64 0, .int .i64 0, .int .i64 0, .int .i64 0] 66)) hb3); have hn3 := ((undrew (W.alloc (.cells #[.string ⟨#[]⟩, .int .i64 0, .int .i64 0, .int .i64 0, .int .i64 0] 66)) hb3).block W.heap.size (by simp)).trans (heap_alloc_new W _); obtain ⟨d0, d1, d2, d3, d4, df, dl⟩ := cells5 hn3; obtain ⟨c0, c1, c2, cf, cl⟩ := cells3 ((B3.block _ xl).trans HX.out); have k0 := (B3.cell (p := ⟨L.sk, 0, none⟩) zl).trans z0; have HF := Lib.hid (And.intro (set5 (u0 := .string nm) (u1 := .int .i64 cr.re) (u2 := .int .i64 cr.ca) (u3 := .int .i64 cr.wo) (u4 := .int .i64 cr.ar) hn3) (set5_below (u0 := .string nm) (u1 := .int .i64 cr.re) (u2 := .int .i64 cr.ca) (u3 := .int .i64 cr.wo) (u4 := .int .i64 cr.ar) (k := W.heap.size) B3 (Nat.le_refl _))); clear hb3 hn3; replace B3 := Lib.hid B3)
        | (go_at_call 42; refine (hlook.out _ ((Below.refl W.heap.size W).drew)).mono ?_; rintro e w3 ⟨⟨nm, rfl⟩, hb3⟩; have B3 : Below W.heap.size W w3 := undrew W hb3; obtain ⟨c0, c1, c2, cf, cl⟩ := cells3 ((B3.block _ xl).trans HX.out); have k0 := (B3.cell (p := ⟨L.sk, 0, none⟩) zl).trans z0; have HF := Lib.hid (And.intro (heap_alloc_new w3 (.cells #[.string nm, .int .i64 cr.re, .int .i64 cr.ca, .int .i64 cr.wo, .int .i64 cr.ar] 66)) (B3.alloc B3.size (.cells #[.string nm, .int .i64 cr.re, .int .i64 cr.ca, .int .i64 cr.wo, .int .i64 cr.ar] 66))); clear hb3; replace B3 := Lib.hid B3))
    all_goals (go_wp2_with fail; go_meet)
    all_goals exact ⟨rfl, rfl, _, _, rfl, HF.out.1, HF.out.2⟩
  case rest =>
    obtain ⟨rfl, rfl, b6, nm, rfl, h6, hb6⟩ := hcut
    have hBw : w.heap.size ≤ B + 1 := by have := hB.out; omega
    have hBW := HW.out.trans (hb6.mono HW.out.size)
    have HBW := Lib.hid hBW
    have hT0 : Turns w0 w wc L c s s := Turns.under HW.out (Turns.below ⟨L, rfl, rfl, rfl, rfl, HS'.out, fun b hb => .inl hb, Kept.refl _ _⟩ hb6)
    have hrr := (hb6.block (B + 1) rl).trans HR.out
    have hxx := (hb6.block B xl).trans HX.out
    have hcrm : er = 0 → cr ∈ c.p.cs := fun he => by
      have h := HLK.out
      rw [he, lookR] at h
      split at h
      · rename_i h1; simp only [Prod.mk.injEq] at h; exact absurd h.2.2 h1
      · split at h
        · rename_i h1; simp only [Prod.mk.injEq] at h; exact absurd h.2.2 h1
        · split at h
          · cases h
          · rename_i h3
            simp only [Prod.mk.injEq] at h
            rw [← h.2.1, coOf, List.getD_eq_getElem?_getD]
            have h4 : hasB c.p (numR s.S x 2).1 = true := by simpa using h3
            simp only [hasB, Bool.and_eq_true, decide_eq_true_eq] at h4
            rw [List.getElem?_eq_getElem (show (numR s.S x 2).1.toNat < c.p.cs.length by omega)]
            exact List.getElem_mem _
    have hgo : goOnR c.p s x = if er ≠ 0 then (stopO er, s) else if st = -1 then (⟨2, 0⟩, s) else if st = -2 then (⟨3, 0⟩, s) else (on, s.begin c.p cr.re x z3) := by
      rw [goOnR, HLK.out]
    have HGO := Lib.hid hgo
    have HRR := Lib.hid hrr
    have HT0 := Lib.hid hT0
    clear hgo r0 r1 rf rl x0 x1 x2 xf
    obtain ⟨r0, r1, rf, rl⟩ := cells2 hrr
    obtain ⟨x0, x1, x2, xf, xl'⟩ := cells3 hxx
    obtain ⟨v0, v1, v2, v3, v4, vf, vl⟩ := cells5 h6
    have hcrm' := Lib.hid hcrm
    clear hcrm hxx h6 z0 z1 z2 z3' zf zl hBW hb6
    by_cases he : er = 0
    · have t0 : (er != 0) = false := by simp [he]
      by_cases h1 : st = -1
      · have t1 : (st == -1) = true := by simp [h1]
        have hs : Hid (goOnR c.p s x = (⟨2, 0⟩, s)) := Lib.hid (by rw [HGO.out, if_neg (by simp [he]), if_pos h1])
        have hTW := hT0
        clear h1 he hT0
        have hfz := Lib.hid (set2 (u0 := .int .i64 2) (u1 := .int .i64 0) hrr)
        have hfin := Lib.hid ((hTW.cell hw00 (t := 41) (by unfold Loc; decide) hrr hBw 0 (.int .i64 2)).cell hw00 (t := 41) (by unfold Loc; decide) (heap_setCell_same _ (B + 1) 0 _ 41 (.int .i64 2) hrr) hBw 1 (.int .i64 0))
        clear hrr hTW
        go_wp2
        have hf := hfz.out
        clear hfz
        generalize (wc.setCell ⟨B + 1, 0, none⟩ (.int .i64 2)).setCell ⟨B + 1, 1, none⟩ (.int .i64 0) = WF at hf hfin ⊢
        obtain ⟨q0, q1, qf, ql⟩ := cells2 hf
        exact bodyPost_ret (v := outV ⟨2, 0⟩) (by simp [results, Tryd.results26, go_sem, q0, q1, outV]) rfl ⟨by rw [hs.out], by rw [hs.out]; exact hfin.out⟩
      · have t1 : (st == -1) = false := by simp [h1]
        by_cases h2 : st = -2
        · have t2 : (st == -2) = true := by simp [h2]
          have hs : Hid (goOnR c.p s x = (⟨3, 0⟩, s)) := Lib.hid (by rw [HGO.out, if_neg (by simp [he]), if_neg h1, if_pos h2])
          have hTW := hT0
          clear h1 h2 he hT0
          have hfz := Lib.hid (set2 (u0 := .int .i64 3) (u1 := .int .i64 0) hrr)
          have hfin := Lib.hid ((hTW.cell hw00 (t := 41) (by unfold Loc; decide) hrr hBw 0 (.int .i64 3)).cell hw00 (t := 41) (by unfold Loc; decide) (heap_setCell_same _ (B + 1) 0 _ 41 (.int .i64 3) hrr) hBw 1 (.int .i64 0))
          clear hrr hTW
          go_wp2
          have hf := hfz.out
          clear hfz
          generalize (wc.setCell ⟨B + 1, 0, none⟩ (.int .i64 3)).setCell ⟨B + 1, 1, none⟩ (.int .i64 0) = WF at hf hfin ⊢
          obtain ⟨q0, q1, qf, ql⟩ := cells2 hf
          exact bodyPost_ret (v := outV ⟨3, 0⟩) (by simp [results, Tryd.results26, go_sem, q0, q1, outV]) rfl ⟨by rw [hs.out], by rw [hs.out]; exact hfin.out⟩
        · have t2 : (st == -2) = false := by simp [h2]
          have hs : Hid (goOnR c.p s x = (on, s.begin c.p cr.re x z3)) := Lib.hid (by rw [HGO.out, if_neg (by simp [he]), if_neg h1, if_neg h2])
          obtain ⟨g1, g2⟩ := (hco cr (hcrm'.out he)).1
          obtain ⟨f, hf⟩ : ∃ f : Nat, cr.re = f := ⟨cr.re.toNat, by omega⟩
          rw [hf] at v1 hs
          have hbg := begin_any (HH.out.under HBW.out) f (by omega) x
          have hbg' := Lib.hid hbg
          clear h1 h2 he hT0 hf g1 g2 hbg hrr
          go_upto_region 9 with (go_at_call 43; refine hbg'.out.mono ?_; rintro e w7 ⟨rfl, hT7⟩; have HT7 := Lib.hid hT7; clear hT7)
          have hTW := Turns.under HBW.out HT7.out
          have hrr := HT7.out.local (HH.out.under HBW.out) (t := 41) (by unfold Loc; decide) HRR.out
          clear r0 r1 rf rl x0 x1 x2 xf v0 v1 v2 v3 v4 vf
          obtain ⟨r0, r1, rf, rl⟩ := cells2 hrr
          have hfz := Lib.hid (set2 (u0 := .int .i64 (-1)) (u1 := .int .i64 0) hrr)
          have hfin := Lib.hid ((hTW.cell hw00 (t := 41) (by unfold Loc; decide) hrr hBw 0 (.int .i64 (-1))).cell hw00 (t := 41) (by unfold Loc; decide) (heap_setCell_same _ (B + 1) 0 _ 41 (.int .i64 (-1)) hrr) hBw 1 (.int .i64 0))
          clear hrr hTW
          go_wp2
          have hf := hfz.out
          clear hfz
          generalize (w7.setCell ⟨B + 1, 0, none⟩ (.int .i64 (-1))).setCell ⟨B + 1, 1, none⟩ (.int .i64 0) = WF at hf hfin ⊢
          obtain ⟨q0, q1, qf, ql⟩ := cells2 hf
          exact bodyPost_ret (v := outV on) (by simp [results, Tryd.results26, go_sem, q0, q1, outV, on]) rfl ⟨by rw [hs.out], by rw [hs.out]; exact hfin.out⟩
    · have t0 : (er != 0) = true := by simpa using he
      have hs : Hid (goOnR c.p s x = (stopO er, s)) := Lib.hid (by rw [HGO.out, if_pos he])
      have hst := Lib.hid (stop_any er wc)
      obtain ⟨kk, hkk⟩ : ∃ kk, kk = (stopO er).k := ⟨_, rfl⟩
      obtain ⟨nn, hnn⟩ : ∃ nn, nn = (stopO er).n := ⟨_, rfl⟩
      rw [← hkk, ← hnn] at hst
      have HKN := Lib.hid (show outV (stopO er) = .agg #[.int .i64 kk, .int .i64 nn] by rw [outV, hkk, hnn])
      clear he hkk hnn x0 x1 x2 xf v0 v1 v2 v3 v4 vf r0 r1 rf hrr hT0
      go_wp2_with (go_at_call 23; refine hst.out.mono ?_; rintro e WW ⟨rfl, hb7⟩; have hrr := (hb7.block (B + 1) rl).trans HRR.out; have hTW := Turns.below HT0.out hb7; have hfz := Lib.hid (set2 (u0 := .int .i64 kk) (u1 := .int .i64 nn) hrr); have hfin := Lib.hid ((hTW.cell hw00 (t := 41) (by unfold Loc; decide) hrr hBw 0 (.int .i64 kk)).cell hw00 (t := 41) (by unfold Loc; decide) (heap_setCell_same _ (B + 1) 0 _ 41 (.int .i64 kk) hrr) hBw 1 (.int .i64 nn)); obtain ⟨r0, r1, rf, rl'⟩ := cells2 hrr; clear hrr hTW hb7)
      have hf := hfz.out
      clear hfz
      generalize (WW.setCell ⟨B + 1, 0, none⟩ (.int .i64 kk)).setCell ⟨B + 1, 1, none⟩ (.int .i64 nn) = WF at hf hfin ⊢
      obtain ⟨q0, q1, qf, ql⟩ := cells2 hf
      exact bodyPost_ret (v := .agg #[.int .i64 kk, .int .i64 nn]) (by simp [results, Tryd.results26, go_sem, q0, q1]) rfl ⟨by rw [hs.out, HKN.out], by rw [hs.out]; exact hfin.out⟩
end Go.Proofs.YtgpkhdccchpljaaDoor

namespace Go.Proofs.YtgpkhdccchpljaaDoor
open Go.RowKit
open M (Wd MS RepAt Owned Kept Turned)

set_option maxRecDepth 100000 in
set_option maxHeartbeats 8000000 in
theorem undo_any {w0 w : World} {L : Ly} {c : Cx} {s : Se} (H : SesAt w0 w L c s) (hco : CoOk c.p) (x : Wd) :
    Calls Tryd.prog 28 #[.pointer (some ⟨L.sk, 0, none⟩), .agg #[.bool x.p, .int .i64 x.a, .int .i64 x.n]] w fun e w' => e = .returned (outV (undoR c.p s x).1) ∧ Turns w0 w w' L c s (undoR c.p s x).2 := by
  obtain ⟨W, hW⟩ : ∃ W, W = (w.alloc (.cells #[.bool x.p, .int .i64 x.a, .int .i64 x.n] 38)).alloc (.cells #[.int .i64 0, .int .i64 0] 41) := ⟨_, rfl⟩
  have hbW : Below w.heap.size w W := by rw [hW]; exact (C.alloc_below _ _).alloc (by simp) _
  have hx : W.heap[w.heap.size]? = some (.cells #[.bool x.p, .int .i64 x.a, .int .i64 x.n] 38) := by rw [hW, Below.heap_alloc _ _ _ (by simp), heap_alloc_new]
  have hr : W.heap[w.heap.size + 1]? = some (.cells #[.int .i64 0, .int .i64 0] 41) := by
    have := heap_alloc_new (w.alloc (.cells #[.bool x.p, .int .i64 x.a, .int .i64 x.n] 38)) (.cells #[.int .i64 0, .int .i64 0] 41)
    rw [hW]; simpa using this
  have HS := H.under hbW
  have hses := HS.ses
  rw [sesC] at hses
  obtain ⟨z0, z1, z2, z3', zf, zl⟩ := cells4m hses
  obtain ⟨x0, x1, x2, xf, xl⟩ := cells3 hx
  obtain ⟨r0, r1, rf, rl⟩ := cells2 hr
  have hsl := H.lt L.sk (.inr (.inl rfl))
  have hw00 := H.below.size
  obtain ⟨st, cr, er, hlk⟩ : ∃ st cr er, lookR c.p s.S x = (st, cr, er) := ⟨_, _, _, rfl⟩
  have hlook := Lib.hid (show ∀ w', Below W.heap.size W w' → Calls Tryd.prog 42 #[.pointer (some ⟨L.mc, 0, none⟩), .agg #[.bool x.p, .int .i64 x.a, .int .i64 x.n]] w' fun e w'' => (∃ nm, e = .returned (.tuple #[.int .i64 st, .agg #[.string nm, .int .i64 cr.re, .int .i64 cr.ca, .int .i64 cr.wo, .int .i64 cr.ar], .int .i64 er])) ∧ Below w'.heap.size w' w'' from fun w' hb' => by
    have h1 := HS.under hb'
    obtain ⟨fv, cv, hm, hP⟩ := h1.mach
    obtain ⟨y0, y1, y2, y3, y4, yf, yl⟩ := cells5 hm
    have hC := (pgV_under h1.below hP).2
    have hC' := hC
    obtain ⟨oac, capc, b, off, rfl, -⟩ := hC'
    have := look_any h1.mem y2 y1 hC x
    rw [hlk] at this
    exact this)
  have HLK := Lib.hid hlk
  have HS' := Lib.hid HS
  have HX := Lib.hid hx
  have HR := Lib.hid hr
  have HW := Lib.hid hbW
  have HH := Lib.hid H
  obtain ⟨B, hB⟩ : ∃ B, B = w.heap.size := ⟨_, rfl⟩
  go_enter Tryd.func28, Tryd.ntmps28
  go_upto_region 1 with fail
  rw [← hW]
  clear hW hbW hx hr HS hses hlk H
  rw [← hB] at x0 x1 x2 xl r0 r1 rl HX HR
  simp only [← hB] at xf rf ⊢
  replace hB := Lib.hid hB
  go_cut [5, 6, 7] (fun s5 s6 s7 wc => s5 = .int .i64 st ∧ s7 = .int .i64 er ∧ ∃ b6 nm, s6 = .pointer (some ⟨b6, 0, none⟩) ∧ wc.heap[b6]? = some (.cells #[.string nm, .int .i64 cr.re, .int .i64 cr.ca, .int .i64 cr.wo, .int .i64 cr.ar] 66) ∧ Below W.heap.size W wc)
  case first =>
    have n1 : L.sk ≠ W.heap.size := Nat.ne_of_lt zl
    have n3 : W.heap.size ≠ L.sk := Nat.ne_of_gt zl
    have n2 : B ≠ W.heap.size := Nat.ne_of_lt xl
    have n4 : W.heap.size ≠ B := Nat.ne_of_gt xl
    go_region_with
      (first
        | (go_at_call 42; refine (hlook.out _ ((C.alloc_below W (.cells #[.string ⟨#[]⟩, .int .i64 0, .int .i64 0, .int .i64 0, .int .i64 0] 66)).drew)).mono ?_; rintro e w3 ⟨⟨nm, rfl⟩, hb3⟩; have B3 : Below W.heap.size W w3 := C.box_below (undrew (W.alloc (.cells #[.string ⟨#[]⟩, .int .i64 0, .int .i64 0, .int .i64 0, .int .i64 0] 66)) hb3); have hn3 := ((undrew (W.alloc (.cells #[.string ⟨#[]⟩, .int .i64 0, .int .i64 0, .int .i64 0, .int .i64 0] 66)) hb3).block W.heap.size (by simp)).trans (heap_alloc_new W _); obtain ⟨d0, d1, d2, d3, d4, df, dl⟩ := cells5 hn3; obtain ⟨c0, c1, c2, cf, cl⟩ := cells3 ((B3.block _ xl).trans HX.out); have k0 := (B3.cell (p := ⟨L.sk, 0, none⟩) zl).trans z0; have HF := Lib.hid (And.intro (set5 (u0 := .string nm) (u1 := .int .i64 cr.re) (u2 := .int .i64 cr.ca) (u3 := .int .i64 cr.wo) (u4 := .int .i64 cr.ar) hn3) (set5_below (u0 := .string nm) (u1 := .int .i64 cr.re) (u2 := .int .i64 cr.ca) (u3 := .int .i64 cr.wo) (u4 := .int .i64 cr.ar) (k := W.heap.size) B3 (Nat.le_refl _))); clear hb3 hn3; replace B3 := Lib.hid B3)
        | (go_at_call 42; refine (hlook.out _ ((Below.refl W.heap.size W).drew)).mono ?_; rintro e w3 ⟨⟨nm, rfl⟩, hb3⟩; have B3 : Below W.heap.size W w3 := undrew W hb3; obtain ⟨c0, c1, c2, cf, cl⟩ := cells3 ((B3.block _ xl).trans HX.out); have k0 := (B3.cell (p := ⟨L.sk, 0, none⟩) zl).trans z0; have HF := Lib.hid (And.intro (heap_alloc_new w3 (.cells #[.string nm, .int .i64 cr.re, .int .i64 cr.ca, .int .i64 cr.wo, .int .i64 cr.ar] 66)) (B3.alloc B3.size (.cells #[.string nm, .int .i64 cr.re, .int .i64 cr.ca, .int .i64 cr.wo, .int .i64 cr.ar] 66))); clear hb3; replace B3 := Lib.hid B3))
    all_goals (go_wp2_with fail; go_meet)
    all_goals exact ⟨rfl, rfl, _, _, rfl, HF.out.1, HF.out.2⟩
  case rest =>
    obtain ⟨rfl, rfl, b6, nm, rfl, h6, hb6⟩ := hcut
    have hBw : w.heap.size ≤ B + 1 := by have := hB.out; omega
    have hBW := HW.out.trans (hb6.mono HW.out.size)
    have HBW := Lib.hid hBW
    have hT0 : Turns w0 w wc L c s s := Turns.under HW.out (Turns.below ⟨L, rfl, rfl, rfl, rfl, HS'.out, fun b hb => .inl hb, Kept.refl _ _⟩ hb6)
    have hrr := (hb6.block (B + 1) rl).trans HR.out
    have hxx := (hb6.block B xl).trans HX.out
    have hcrm : er = 0 → cr ∈ c.p.cs := fun he => by
      have h := HLK.out
      rw [he, lookR] at h
      split at h
      · rename_i h1; simp only [Prod.mk.injEq] at h; exact absurd h.2.2 h1
      · split at h
        · rename_i h1; simp only [Prod.mk.injEq] at h; exact absurd h.2.2 h1
        · split at h
          · cases h
          · rename_i h3
            simp only [Prod.mk.injEq] at h
            rw [← h.2.1, coOf, List.getD_eq_getElem?_getD]
            have h4 : hasB c.p (numR s.S x 2).1 = true := by simpa using h3
            simp only [hasB, Bool.and_eq_true, decide_eq_true_eq] at h4
            rw [List.getElem?_eq_getElem (show (numR s.S x 2).1.toNat < c.p.cs.length by omega)]
            exact List.getElem_mem _
    have hgo : undoR c.p s x = if er ≠ 0 then (stopO er, s) else if st < 0 then (⟨2, 0⟩, s) else (on, s.begin c.p cr.ca x z3) := by
      rw [undoR, HLK.out]
    have HGO := Lib.hid hgo
    have HRR := Lib.hid hrr
    have HT0 := Lib.hid hT0
    clear hgo r0 r1 rf rl x0 x1 x2 xf
    obtain ⟨r0, r1, rf, rl⟩ := cells2 hrr
    obtain ⟨x0, x1, x2, xf, xl'⟩ := cells3 hxx
    obtain ⟨v0, v1, v2, v3, v4, vf, vl⟩ := cells5 h6
    have hcrm' := Lib.hid hcrm
    clear hcrm hxx h6 z0 z1 z2 z3' zf zl hBW hb6
    by_cases he : er = 0
    · have t0 : (er != 0) = false := by simp [he]
      by_cases h1 : st < 0
      · have t1 : st < 0 := h1
        have hs : Hid (undoR c.p s x = (⟨2, 0⟩, s)) := Lib.hid (by rw [HGO.out, if_neg (by simp [he]), if_pos h1])
        have hTW := hT0
        clear h1 he hT0
        have hfz := Lib.hid (set2 (u0 := .int .i64 2) (u1 := .int .i64 0) hrr)
        have hfin := Lib.hid ((hTW.cell hw00 (t := 41) (by unfold Loc; decide) hrr hBw 0 (.int .i64 2)).cell hw00 (t := 41) (by unfold Loc; decide) (heap_setCell_same _ (B + 1) 0 _ 41 (.int .i64 2) hrr) hBw 1 (.int .i64 0))
        clear hrr hTW
        go_wp2
        have hf := hfz.out
        clear hfz
        generalize (wc.setCell ⟨B + 1, 0, none⟩ (.int .i64 2)).setCell ⟨B + 1, 1, none⟩ (.int .i64 0) = WF at hf hfin ⊢
        obtain ⟨q0, q1, qf, ql⟩ := cells2 hf
        exact bodyPost_ret (v := outV ⟨2, 0⟩) (by simp [results, Tryd.results28, go_sem, q0, q1, outV]) rfl ⟨by rw [hs.out], by rw [hs.out]; exact hfin.out⟩
      · have t1 : ¬ st < 0 := h1
        have hs : Hid (undoR c.p s x = (on, s.begin c.p cr.ca x z3)) := Lib.hid (by rw [HGO.out, if_neg (by simp [he]), if_neg h1])
        obtain ⟨g1, g2⟩ := (hco cr (hcrm'.out he)).2
        obtain ⟨f, hf⟩ : ∃ f : Nat, cr.ca = f := ⟨cr.ca.toNat, by omega⟩
        rw [hf] at v2 hs
        have hbg := begin_any (HH.out.under HBW.out) f (by omega) x
        have hbg' := Lib.hid hbg
        clear h1 he hT0 hf g1 g2 hbg hrr
        go_upto_region 7 with (go_at_call 43; refine hbg'.out.mono ?_; rintro e w7 ⟨rfl, hT7⟩; have HT7 := Lib.hid hT7; clear hT7)
        have hTW := Turns.under HBW.out HT7.out
        have hrr := HT7.out.local (HH.out.under HBW.out) (t := 41) (by unfold Loc; decide) HRR.out
        clear r0 r1 rf rl x0 x1 x2 xf v0 v1 v2 v3 v4 vf
        obtain ⟨r0, r1, rf, rl⟩ := cells2 hrr
        have hfz := Lib.hid (set2 (u0 := .int .i64 (-1)) (u1 := .int .i64 0) hrr)
        have hfin := Lib.hid ((hTW.cell hw00 (t := 41) (by unfold Loc; decide) hrr hBw 0 (.int .i64 (-1))).cell hw00 (t := 41) (by unfold Loc; decide) (heap_setCell_same _ (B + 1) 0 _ 41 (.int .i64 (-1)) hrr) hBw 1 (.int .i64 0))
        clear hrr hTW
        go_wp2
        have hf := hfz.out
        clear hfz
        generalize (w7.setCell ⟨B + 1, 0, none⟩ (.int .i64 (-1))).setCell ⟨B + 1, 1, none⟩ (.int .i64 0) = WF at hf hfin ⊢
        obtain ⟨q0, q1, qf, ql⟩ := cells2 hf
        exact bodyPost_ret (v := outV on) (by simp [results, Tryd.results28, go_sem, q0, q1, outV, on]) rfl ⟨by rw [hs.out], by rw [hs.out]; exact hfin.out⟩
    · have t0 : (er != 0) = true := by simpa using he
      have hs : Hid (undoR c.p s x = (stopO er, s)) := Lib.hid (by rw [HGO.out, if_pos he])
      have hst := Lib.hid (stop_any er wc)
      obtain ⟨kk, hkk⟩ : ∃ kk, kk = (stopO er).k := ⟨_, rfl⟩
      obtain ⟨nn, hnn⟩ : ∃ nn, nn = (stopO er).n := ⟨_, rfl⟩
      rw [← hkk, ← hnn] at hst
      have HKN := Lib.hid (show outV (stopO er) = .agg #[.int .i64 kk, .int .i64 nn] by rw [outV, hkk, hnn])
      clear he hkk hnn x0 x1 x2 xf v0 v1 v2 v3 v4 vf r0 r1 rf hrr hT0
      go_wp2_with (go_at_call 23; refine hst.out.mono ?_; rintro e WW ⟨rfl, hb7⟩; have hrr := (hb7.block (B + 1) rl).trans HRR.out; have hTW := Turns.below HT0.out hb7; have hfz := Lib.hid (set2 (u0 := .int .i64 kk) (u1 := .int .i64 nn) hrr); have hfin := Lib.hid ((hTW.cell hw00 (t := 41) (by unfold Loc; decide) hrr hBw 0 (.int .i64 kk)).cell hw00 (t := 41) (by unfold Loc; decide) (heap_setCell_same _ (B + 1) 0 _ 41 (.int .i64 kk) hrr) hBw 1 (.int .i64 nn)); obtain ⟨r0, r1, rf, rl'⟩ := cells2 hrr; clear hrr hTW hb7)
      have hf := hfz.out
      clear hfz
      generalize (WW.setCell ⟨B + 1, 0, none⟩ (.int .i64 kk)).setCell ⟨B + 1, 1, none⟩ (.int .i64 nn) = WF at hf hfin ⊢
      obtain ⟨q0, q1, qf, ql⟩ := cells2 hf
      exact bodyPost_ret (v := .agg #[.int .i64 kk, .int .i64 nn]) (by simp [results, Tryd.results28, go_sem, q0, q1]) rfl ⟨by rw [hs.out, HKN.out], by rw [hs.out]; exact hfin.out⟩
end Go.Proofs.YtgpkhdccchpljaaDoor
