/-
  Two machines side by side, with rows of addresses; what each call makes of them. Conditions: the machines lie in the heap, apart.
-/
import Derived.Test.YtgpkhdccchpljaaDoorKMoreP
import Derived.Test.YtgpkhdccchpljaaDoorKSame
import Derived.Test.YtgpkhdccchpljaaDoorKMoreW
namespace Go.Proofs.YtgpkhdccchpljaaDoor
open Go.RowKit
open M (Wd MS RepAt Owned Kept Turned)
open C (In Cr Pg PgOk)

theorem wordL_inR {l : List Wd} (hl : ∀ x ∈ l, inR x.n) {a : Int} (ha : inR a) : inR (wordL l a).n := by
  unfold wordL
  split
  · rw [List.getD_eq_getElem?_getD]
    cases hg : l[a.toNat]? with
    | none => exact inR_0
    | some x => exact hl x (List.mem_of_getElem? hg)
  · exact ha
theorem pollO_up (m d : Int) (x : Wd) (z : Out × Se) : pollO x (upQ m d z) = pollO x z := rfl
theorem cancelO_up (m d : Int) (x : Wd) (z : Out × Se) : cancelO x (upQ m d z) = ((cancelO x z).1, upS m (cancelO x z).2) := by
  unfold cancelO
  rw [show (upQ m d z).2.S = upS m z.2.S from rfl, show (upQ m d z).1 = z.1 from rfl, free_up]
  have key : ∀ (P : Prop) [Decidable P] (a b a' b' : Out × MS), a' = (a.1, upS m a.2) → b' = (b.1, upS m b.2) → (if P then a' else b') = ((if P then a else b).1, upS m (if P then a else b).2) := by
    intro P _ a b a' b' h1 h2
    by_cases h : P
    · simp only [if_pos h]; exact h1
    · simp only [if_neg h]; exact h2
  exact key _ _ _ _ _ rfl (key _ _ _ _ _ rfl rfl)
theorem start_up {m : Int} (hm : 0 ≤ m) (p : Pg) (S : MS) (co : Int) (args : List Int) (h : (startR p S co args).1.2.k ≠ 5) : startR p (upS m S) co args = ((startR p S co args).1, upS m (startR p S co args).2) := by
  unfold startR at h ⊢
  by_cases h1 : hasB p co = false ∨ (args.length : Int) ≠ (coOf p co).ar
  · rw [if_pos h1, if_pos h1]
  rw [if_neg h1] at h ⊢
  rw [if_neg h1]
  have h10 : (frameR p S co args).1.2 ≠ 10 := by
    intro e
    rw [if_pos (by rw [e]; decide)] at h
    simp only [e] at h
    exact h rfl
  rw [frame_up hm p S co args h10]
  by_cases h2 : (frameR p S co args).1.2 ≠ 0
  · rw [if_pos h2, if_pos h2]
  · rw [if_neg h2, if_neg h2]
theorem poll_more {m d : Int} (hm : 0 ≤ m) (hd : 0 ≤ d) {c : Cx} {S : MS} {told : List Ev} {f : Int} {x : Wd} {z z' : Out × Se} (h : Thr c (goOnR c.p ⟨S, told, f, []⟩ x) z) (h' : Thr c (goOnR c.p ⟨upS m S, told, f + d, []⟩ x) z') : (z.1.k = 4 ∨ z.1.k = 5) ∨ z' = upQ m d z := by
  rcases thr_up hm hd h with h1 | h1
  · exact .inl h1
  · rw [← goOn_up] at h1
    exact .inr (Thr.det h' h1)
theorem cancel_more {m d : Int} (hm : 0 ≤ m) (hd : 0 ≤ d) {c : Cx} {S : MS} {told : List Ev} {f : Int} {x : Wd} {z z' : Out × Se} (h : Thr c (undoR c.p ⟨S, told, f, []⟩ x) z) (h' : Thr c (undoR c.p ⟨upS m S, told, f + d, []⟩ x) z') : (z.1.k = 4 ∨ z.1.k = 5) ∨ z' = upQ m d z := by
  rcases thr_up hm hd h with h1 | h1
  · exact .inl h1
  · rw [← undo_up] at h1
    exact .inr (Thr.det h' h1)
theorem pollO_end {x : Wd} {z : Out × Se} (h : z.1.k = 4 ∨ z.1.k = 5) : (pollO x z).k = 4 ∨ (pollO x z).k = 5 := by
  unfold pollO
  rw [if_pos (by omega)]
  exact h
theorem cancelO_end {x : Wd} {z : Out × Se} (h : z.1.k = 4 ∨ z.1.k = 5) : (cancelO x z).1.k = 4 ∨ (cancelO x z).1.k = 5 := by
  unfold cancelO
  rw [if_pos (by omega)]
  exact h

section
variable {W0 w : World} {O : Nat → Prop} {mc : Nat} {p : Pg} {evs : List (Int × Int)} {S : MS} {told : List Ev}
theorem Mch.start (h : Mch w O mc p evs S told) (hmade : S.blocks.length + 1 < 1000000) (hb : Below W0.heap.size W0 w) (hO : ∀ b, O b → W0.heap.size ≤ b) (co : Int) (args : List Int) (lv : Value) (hlv : C.IntsV W0 lv args) :
    Calls Tryd.prog 8 #[.pointer (some ⟨mc, 0, none⟩), .int .i64 co, lv] w fun e w' => ∃ O', e = .returned (.tuple #[wdW (startR p S co args).1.1, outV (startR p S co args).1.2]) ∧ Acted w w' O O' mc p evs (startR p S co args).2 told := by
  obtain ⟨w0, L, rfl, H, h1, h2⟩ := h.at_
  have hlv' := hlv
  obtain ⟨oaa, capa, _, _, rfl, -⟩ := hlv
  refine (start_any H hmade co oaa capa args (fun w' hk => hlv'.below (M.Kept.below hb hk hb.size fun b hb => hO b (h1 b hb))) _ _ _ rfl).mono ?_
  rintro e w' ⟨he, hT⟩
  obtain ⟨O', hA⟩ := Mch.turned h.lt h1 h2 hT
  exact ⟨O', he, hA⟩
theorem Mch.poll (h : Mch w O mc p evs S told) (hc : CxOk ⟨p, evs, 1⟩) (hm : MemOk S) (ht : told.length ≤ 80000000) (fuel : Int) (hf : fuel ≤ 1000000) (hmade : S.blocks.length + fuel.toNat ≤ 700000) (x : Wd) (hx : inR x.n) :
    Calls Tryd.prog 9 #[.pointer (some ⟨mc, 0, none⟩), wdW x, .int .i64 1, .int .i64 fuel] w fun e w' => ∃ z O', Thr ⟨p, evs, 1⟩ (goOnR p ⟨S, told, fuel, []⟩ x) z ∧ Inv ⟨p, evs, 1⟩ (S.blocks.length + 1 + fuel.toNat) z ∧ e = .returned (.tuple #[outV (pollO x z), .int .i64 z.2.fuel]) ∧ Acted w w' O O' mc p evs z.2.S z.2.told := by
  obtain ⟨w0, L, rfl, H, h1, h2⟩ := h.at_
  refine (poll_any hc H hm ht fuel hf (by omega) x hx).mono ?_
  rintro e w' ⟨z, hz, hI, he, hT⟩
  obtain ⟨O', hA⟩ := Mch.turned h.lt h1 h2 hT
  exact ⟨z, O', hz, hI, he, hA⟩
theorem Mch.cancel (h : Mch w O mc p evs S told) (hc : CxOk ⟨p, evs, 1⟩) (hm : MemOk S) (ht : told.length ≤ 80000000) (fuel : Int) (hf : fuel ≤ 1000000) (hmade : S.blocks.length + fuel.toNat ≤ 700000) (x : Wd) (hx : inR x.n) :
    Calls Tryd.prog 11 #[.pointer (some ⟨mc, 0, none⟩), wdW x, .int .i64 1, .int .i64 fuel] w fun e w' => ∃ z O', Thr ⟨p, evs, 1⟩ (undoR p ⟨S, told, fuel, []⟩ x) z ∧ Inv ⟨p, evs, 1⟩ (S.blocks.length + 1 + fuel.toNat) z ∧ e = .returned (.tuple #[outV (cancelO x z).1, .int .i64 z.2.fuel]) ∧ Acted w w' O O' mc p evs (cancelO x z).2 z.2.told := by
  obtain ⟨w0, L, rfl, H, h1, h2⟩ := h.at_
  refine (cancel_any hc H hm ht fuel hf (by omega) x hx).mono ?_
  rintro e w' ⟨z, hz, hI, he, hT⟩
  obtain ⟨O', hA⟩ := Mch.turned h.lt h1 h2 hT
  exact ⟨z, O', hz, hI, he, hA⟩
theorem Mch.complete (h : Mch w O mc p evs S told) (hlen : evs.length < 1000000) (e n : Int) (he : inR e) :
    Calls Tryd.prog 14 #[.pointer (some ⟨mc, 0, none⟩), .int .i64 e, .int .i64 n] w fun ex w' => ∃ O', ex = .returned (.tuple #[]) ∧ Acted w w' O O' mc p (bring evs e n) S told := by
  obtain ⟨w0, L, rfl, H, h1, h2⟩ := h.at_
  refine (complete_any H hlen e n (WalkArith.wf_i64 he)).mono ?_
  rintro ex w' ⟨he, hT⟩
  obtain ⟨O', hA⟩ := Mch.turned h.lt h1 h2 hT
  exact ⟨O', he, hA⟩
end

/-- two machines, and two rows of addresses -/
structure Duo (w wr : World) (p : Pg) (ma mb : Nat) (ea : List (Int × Int)) (Sa : MS) (ta : List Ev) (Oa : Nat → Prop) (eb : List (Int × Int)) (Sb : MS) (tb : List Ev) (Ob : Nat → Prop) (vx : Value) (lx : List Wd) (vy : Value) (ly : List Wd) : Prop where
  a : Mch wr Oa ma p ea Sa ta
  b : Mch wr Ob mb p eb Sb tb
  below : Below w.heap.size w wr
  oa : ∀ b, Oa b → w.heap.size ≤ b
  ob : ∀ b, Ob b → w.heap.size ≤ b
  ab : ∀ b, Oa b → ¬ Ob b
  rx : wr.ownsRow w.heap.size 38 3 vx lx.length (lx.flatMap wdR)
  ry : wr.ownsRow w.heap.size 38 3 vy ly.length (ly.flatMap wdR)
  xa : ∀ b, vx.ownBlock = some b → ¬ Oa b ∧ ¬ Ob b
  ya : ∀ b, vy.ownBlock = some b → ¬ Oa b ∧ ¬ Ob b
  xy : ∀ b, vx.ownBlock = some b → vy.ownBlock ≠ some b
section
variable {w wr w' : World} {p : Pg} {ma mb : Nat} {ea eb e2 : List (Int × Int)} {Sa Sb S2 : MS} {ta tb t2 : List Ev} {Oa Ob O2 : Nat → Prop} {vx vy v' : Value} {lx ly : List Wd}
theorem row_lt {B : Nat} {v : Value} {n : Nat} {xs : List Value} (h : w.ownsRow B 38 3 v n xs) {b : Nat} (hb : v.ownBlock = some b) : b < w.heap.size := by
  obtain ⟨_, h1⟩ := own_blk h hb
  exact (Array.getElem?_eq_some_iff.1 h1).1
theorem Duo.under (h : Duo w wr p ma mb ea Sa ta Oa eb Sb tb Ob vx lx vy ly) (hb : Below wr.heap.size wr w') : Duo w w' p ma mb ea Sa ta Oa eb Sb tb Ob vx lx vy ly :=
  ⟨h.a.under hb, h.b.under hb, h.below.trans (hb.mono h.below.size), h.oa, h.ob, h.ab, own_keep h.rx fun b hb' => hb.block b (row_lt h.rx hb'), own_keep h.ry fun b hb' => hb.block b (row_lt h.ry hb'), h.xa, h.ya, h.xy⟩
theorem Duo.actA (h : Duo w wr p ma mb ea Sa ta Oa eb Sb tb Ob vx lx vy ly) (hA : Acted wr w' Oa O2 ma p e2 S2 t2) : Duo w w' p ma mb e2 S2 t2 O2 eb Sb tb Ob vx lx vy ly :=
  ⟨hA.mch, h.b.kept hA.kept fun b hb ha => h.ab b ha hb, M.Kept.below h.below hA.kept h.below.size h.oa, nxb h.oa hA.own h.below.size, h.ob, nx1 h.ab hA.own h.b.lt,
    own_keep h.rx fun b hb => hA.kept.block b (row_lt h.rx hb) (h.xa b hb).1, own_keep h.ry fun b hb => hA.kept.block b (row_lt h.ry hb) (h.ya b hb).1,
    fun b hb => ⟨fun h2 => nx1 (P := fun b => vx.ownBlock = some b) (fun b h1 h2 => (h.xa b h2).1 h1) hA.own (fun b hb => row_lt h.rx hb) b h2 hb, (h.xa b hb).2⟩,
    fun b hb => ⟨fun h2 => nx1 (P := fun b => vy.ownBlock = some b) (fun b h1 h2 => (h.ya b h2).1 h1) hA.own (fun b hb => row_lt h.ry hb) b h2 hb, (h.ya b hb).2⟩, h.xy⟩
theorem Duo.actB (h : Duo w wr p ma mb ea Sa ta Oa eb Sb tb Ob vx lx vy ly) (hA : Acted wr w' Ob O2 mb p e2 S2 t2) : Duo w w' p ma mb ea Sa ta Oa e2 S2 t2 O2 vx lx vy ly :=
  ⟨h.a.kept hA.kept h.ab, hA.mch, M.Kept.below h.below hA.kept h.below.size h.ob, h.oa, nxb h.ob hA.own h.below.size, nx2 h.ab hA.own h.a.lt,
    own_keep h.rx fun b hb => hA.kept.block b (row_lt h.rx hb) (h.xa b hb).2, own_keep h.ry fun b hb => hA.kept.block b (row_lt h.ry hb) (h.ya b hb).2,
    fun b hb => ⟨(h.xa b hb).1, fun h2 => nx1 (P := fun b => vx.ownBlock = some b) (fun b h1 h2 => (h.xa b h2).2 h1) hA.own (fun b hb => row_lt h.rx hb) b h2 hb⟩,
    fun b hb => ⟨(h.ya b hb).1, fun h2 => nx1 (P := fun b => vy.ownBlock = some b) (fun b h1 h2 => (h.ya b h2).2 h1) hA.own (fun b hb => row_lt h.ry hb) b h2 hb⟩, h.xy⟩
theorem Duo.pushX (h : Duo w wr p ma mb ea Sa ta Oa eb Sb tb Ob vx lx vy ly) (x : Wd) (hr : w'.ownsRow w.heap.size 38 3 v' (lx.length + 1) (lx.flatMap wdR ++ wdR x)) (hg : wr.grownBy w' vx.ownBlock) (hv : ∀ b, v'.ownBlock = some b → vx.ownBlock = some b ∨ wr.heap.size ≤ b) : Duo w w' p ma mb ea Sa ta Oa eb Sb tb Ob v' (lx ++ [x]) vy ly := by
  have hge : ∀ b, vx.ownBlock = some b → w.heap.size ≤ b := fun b hb => (h.rx.lt b hb).1
  have hk : Kept (fun b => vx.ownBlock = some b) wr w' := ⟨hg.os, hg.tape, hg.output, hg.size, fun b hl hn => hg.block b hl fun e => hn e.symm⟩
  refine ⟨h.a.kept hk fun b hb hx => (h.xa b hx).1 hb, h.b.kept hk fun b hb hx => (h.xa b hx).2 hb, M.Kept.below h.below hk h.below.size hge, h.oa, h.ob, h.ab, ?_, own_keep h.ry fun b hb => hk.block b (row_lt h.ry hb) fun e => h.xy b e hb, fun b hb => ?_, h.ya, fun b hb => ?_⟩
  · simpa [List.flatMap_append] using hr
  · rcases hv b hb with h1 | h1
    · exact h.xa b h1
    · exact ⟨fun h2 => absurd (h.a.lt b h2) (by omega), fun h2 => absurd (h.b.lt b h2) (by omega)⟩
  · rcases hv b hb with h1 | h1
    · exact h.xy b h1
    · intro h2
      have := row_lt h.ry h2
      omega
theorem Duo.pushY (h : Duo w wr p ma mb ea Sa ta Oa eb Sb tb Ob vx lx vy ly) (x : Wd) (hr : w'.ownsRow w.heap.size 38 3 v' (ly.length + 1) (ly.flatMap wdR ++ wdR x)) (hg : wr.grownBy w' vy.ownBlock) (hv : ∀ b, v'.ownBlock = some b → vy.ownBlock = some b ∨ wr.heap.size ≤ b) : Duo w w' p ma mb ea Sa ta Oa eb Sb tb Ob vx lx v' (ly ++ [x]) := by
  have hge : ∀ b, vy.ownBlock = some b → w.heap.size ≤ b := fun b hb => (h.ry.lt b hb).1
  have hk : Kept (fun b => vy.ownBlock = some b) wr w' := ⟨hg.os, hg.tape, hg.output, hg.size, fun b hl hn => hg.block b hl fun e => hn e.symm⟩
  refine ⟨h.a.kept hk fun b hb hx => (h.ya b hx).1 hb, h.b.kept hk fun b hb hx => (h.ya b hx).2 hb, M.Kept.below h.below hk h.below.size hge, h.oa, h.ob, h.ab, own_keep h.rx fun b hb => hk.block b (row_lt h.rx hb) fun e => h.xy b hb e, ?_, h.xa, fun b hb => ?_, fun b hb h2 => ?_⟩
  · simpa [List.flatMap_append] using hr
  · rcases hv b hb with h1 | h1
    · exact h.ya b h1
    · exact ⟨fun h2 => absurd (h.a.lt b h2) (by omega), fun h2 => absurd (h.b.lt b h2) (by omega)⟩
  · rcases hv b h2 with h1 | h1
    · exact h.xy b hb h1
    · have := row_lt h.rx hb
      omega
end

/-- a box beside them -/
structure Bx (wr : World) (Oa Ob : Nat → Prop) (vx vy : Value) (k : Nat) (o : Obj) : Prop where
  at_ : wr.heap[k]? = some o
  na : ¬ Oa k
  nb : ¬ Ob k
  nx : vx.ownBlock ≠ some k
  ny : vy.ownBlock ≠ some k
section
variable {w wr w' : World} {p : Pg} {ma mb k : Nat} {ea eb e2 : List (Int × Int)} {Sa Sb S2 : MS} {ta tb t2 : List Ev} {Oa Ob O2 : Nat → Prop} {vx vy v' : Value} {lx ly : List Wd} {o : Obj}
theorem Bx.lt (h : Bx wr Oa Ob vx vy k o) : k < wr.heap.size := (Array.getElem?_eq_some_iff.1 h.at_).1
theorem Bx.under (h : Bx wr Oa Ob vx vy k o) (hb : Below wr.heap.size wr w') : Bx w' Oa Ob vx vy k o := ⟨(hb.block k h.lt).trans h.at_, h.na, h.nb, h.nx, h.ny⟩
theorem Bx.actA (h : Bx wr Oa Ob vx vy k o) (hA : Acted wr w' Oa O2 ma p e2 S2 t2) : Bx w' O2 Ob vx vy k o :=
  ⟨(hA.kept.block k h.lt h.na).trans h.at_, fun h2 => (hA.own k h2).elim h.na fun h3 => absurd h.lt (by omega), h.nb, h.nx, h.ny⟩
theorem Bx.actB (h : Bx wr Oa Ob vx vy k o) (hA : Acted wr w' Ob O2 mb p e2 S2 t2) : Bx w' Oa O2 vx vy k o :=
  ⟨(hA.kept.block k h.lt h.nb).trans h.at_, h.na, fun h2 => (hA.own k h2).elim h.nb fun h3 => absurd h.lt (by omega), h.nx, h.ny⟩
theorem Bx.pushX (h : Bx wr Oa Ob vx vy k o) (hg : wr.grownBy w' vx.ownBlock) (hv : ∀ b, v'.ownBlock = some b → vx.ownBlock = some b ∨ wr.heap.size ≤ b) : Bx w' Oa Ob v' vy k o :=
  ⟨(hg.block k h.lt fun e => h.nx e.symm).trans h.at_, h.na, h.nb, fun h2 => (hv k h2).elim h.nx fun h3 => absurd h.lt (by omega), h.ny⟩
theorem Bx.pushY (h : Bx wr Oa Ob vx vy k o) (hg : wr.grownBy w' vy.ownBlock) (hv : ∀ b, v'.ownBlock = some b → vy.ownBlock = some b ∨ wr.heap.size ≤ b) : Bx w' Oa Ob vx v' k o :=
  ⟨(hg.block k h.lt fun e => h.ny e.symm).trans h.at_, h.na, h.nb, h.nx, fun h2 => (hv k h2).elim h.ny fun h3 => absurd h.lt (by omega)⟩
theorem Bx.new (h : Duo w wr p ma mb ea Sa ta Oa eb Sb tb Ob vx lx vy ly) (o : Obj) : Bx (wr.alloc o) Oa Ob vx vy wr.heap.size o :=
  ⟨heap_alloc_new _ _, fun h2 => Nat.lt_irrefl _ (h.a.lt _ h2), fun h2 => Nat.lt_irrefl _ (h.b.lt _ h2), fun h2 => Nat.lt_irrefl _ (row_lt h.rx h2), fun h2 => Nat.lt_irrefl _ (row_lt h.ry h2)⟩
theorem Bx.other (h : Bx wr Oa Ob vx vy k o) {j : Nat} (hne : k ≠ j) (i : Nat) (v : Value) : Bx (wr.setCell ⟨j, i, none⟩ v) Oa Ob vx vy k o :=
  ⟨(Below.heap_setCell _ _ _ _ hne).trans h.at_, h.na, h.nb, h.nx, h.ny⟩
theorem Bx.set2 {a0 a1 : Value} (h : Bx wr Oa Ob vx vy k (.cells #[a0, a1] 41)) (u0 u1 : Value) : Bx ((wr.setCell ⟨k, 0, none⟩ u0).setCell ⟨k, 1, none⟩ u1) Oa Ob vx vy k (.cells #[u0, u1] 41) :=
  ⟨Go.Proofs.YtgpkhdccchpljaaDoor.set2 h.at_, h.na, h.nb, h.nx, h.ny⟩
theorem Duo.set (h : Duo w wr p ma mb ea Sa ta Oa eb Sb tb Ob vx lx vy ly) (na : ¬ Oa k) (nb : ¬ Ob k) (nx : vx.ownBlock ≠ some k) (ny : vy.ownBlock ≠ some k) (hk : w.heap.size ≤ k) (i : Nat) (v : Value) : Duo w (wr.setCell ⟨k, i, none⟩ v) p ma mb ea Sa ta Oa eb Sb tb Ob vx lx vy ly := by
  have hs : wr.heap.size ≤ (wr.setCell ⟨k, i, none⟩ v).heap.size := by simp [World.setCell]
  have hn : ∀ b, b ≠ k → (wr.setCell ⟨k, i, none⟩ v).heap[b]? = wr.heap[b]? := fun b hb => Below.heap_setCell _ _ _ _ hb
  exact ⟨h.a.keep hs fun b hb' => hn b fun e => na (e ▸ hb'), h.b.keep hs fun b hb' => hn b fun e => nb (e ▸ hb'), h.below.setCell hk _, h.oa, h.ob, h.ab,
    own_keep h.rx fun b hb' => hn b fun e => nx (e ▸ hb'), own_keep h.ry fun b hb' => hn b fun e => ny (e ▸ hb'), h.xa, h.ya, h.xy⟩
theorem Duo.set2 (h : Duo w wr p ma mb ea Sa ta Oa eb Sb tb Ob vx lx vy ly) (hb : Bx wr Oa Ob vx vy k o) (hk : w.heap.size ≤ k) (u0 u1 : Value) : Duo w ((wr.setCell ⟨k, 0, none⟩ u0).setCell ⟨k, 1, none⟩ u1) p ma mb ea Sa ta Oa eb Sb tb Ob vx lx vy ly :=
  (h.set hb.na hb.nb hb.nx hb.ny hk 0 u0).set hb.na hb.nb hb.nx hb.ny hk 1 u1
theorem Bx.other2 (h : Bx wr Oa Ob vx vy k o) {j : Nat} (hne : k ≠ j) (u0 u1 : Value) : Bx ((wr.setCell ⟨j, 0, none⟩ u0).setCell ⟨j, 1, none⟩ u1) Oa Ob vx vy k o :=
  (h.other hne 0 u0).other hne 1 u1
end
end Go.Proofs.YtgpkhdccchpljaaDoor
