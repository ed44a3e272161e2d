/-
  Several texts of the proof in one: KComplete, KOne, KTwo. No conditions of their own: each lemma states its own.
-/
import Derived.Test.YtgpkhdccchpljaaDoorKJUndo
import Derived.Test.YtgpkhdccchpljaaDoorKJWait
import Derived.Test.YtgpkhdccchpljaaDoorKJWorks
import Derived.Test.YtgpkhdccchpljaaDoorKJTiny
namespace Go.Proofs.YtgpkhdccchpljaaDoor
open Go.RowKit
open M (Wd MS RepAt Owned Kept Turned loadR storeR copyR clearR freeR allocR)
open C (In)

/-- what is brought, once something more is -/
def bring (evs : List (Int × Int)) (e n : Int) : List (Int × Int) := match brought evs e with | some _ => evs | none => (e, n) :: evs
theorem brought_cons (evs : List (Int × Int)) (e n e' : Int) : brought ((e, n) :: evs) e' = if e = e' then some n else brought evs e' := by
  unfold brought
  rw [List.find?_cons]
  by_cases h : e = e'
  · simp [h]
  · have h' : (e == e') = false := by simpa using h
    simp [h, h']
theorem ev_put {w w' : World} {b : Nat} {evs : List (Int × Int)} {D : DataW Unit} (hown : w.ownsMap Tryd.prog 3 intElem b evs.length D)
    (hD : ∀ e, match brought evs e with | some n => Maps.has D (.int .i64 e) = true ∧ ∀ z, D.atKey (.int .i64 e) z = .lit (.int .i64 n) | none => Maps.has D (.int .i64 e) = false)
    (e n : Int) (hown' : w'.ownsMap Tryd.prog 3 intElem b (evs.length + 1) (D.put (.int .i64 e) (.lit (.int .i64 n)))) : EvAt w' (some b) ((e, n) :: evs) := by
  refine ⟨fun h => (by cases h), fun b' hb' => ?_⟩
  cases hb'
  refine ⟨_, hown', fun e' => ?_⟩
  rw [brought_cons]
  by_cases h : e = e'
  · subst h
    rw [if_pos rfl]
    exact ⟨Maps.has_put_same hown.isMap (show WideAt.IsKeyLit (.int .i64 e) from trivial) _, fun z => Maps.atKey_put_same hown.isMap (show WideAt.IsKeyLit (.int .i64 e) from trivial) _ _⟩
  · rw [if_neg h]
    have hne : (Lit.int .i64 e') ≠ (Lit.int .i64 e) := fun he => h (by cases he; rfl)
    have h1 := hD e'
    cases hb : brought evs e' with
    | some m =>
      rw [hb] at h1
      exact ⟨(Maps.has_put_other hne _).trans h1.1, fun z => (Maps.atKey_put_other hne _ _).trans (h1.2 z)⟩
    | none =>
      rw [hb] at h1
      exact (Maps.has_put_other hne _).trans h1
theorem MTurns.ev {w0 w w2 : World} {L : Ly} {c : Cx} {S : MS} {told : List Ev} (H : MacAt w0 w L c S told) {nb : Nat} (hnb : L.em = some nb ∨ w.heap.size ≤ nb) {evs' : List (Int × Int)} (hev : EvAt w2 (some nb) evs')
    (hm : ∀ fv cv, w.heap[L.mc]? = some (.cells #[fv, cv, .pointer (some ⟨L.mb, 0, none⟩), .map L.em, L.tv] 62) → w2.heap[L.mc]? = some (.cells #[fv, cv, .pointer (some ⟨L.mb, 0, none⟩), .map (some nb), L.tv] 62))
    (os : w2.os = w.os) (tape : w2.tape = w.tape) (output : w2.output = w.output) (size : w.heap.size ≤ w2.heap.size)
    (hk : ∀ b, b ≠ L.mc → b ≠ nb → b < w.heap.size → w2.heap[b]? = w.heap[b]?) : MTurns w0 w w2 L c S { c with evs := evs' } S told := by
  obtain ⟨fv, cv, h1, h2⟩ := H.mach
  have hlt := H.lt
  have hno : ¬ Owned L.mb L.lm L.loc S nb := by
    rcases hnb with h | h
    · exact H.apart nb h
    · intro e; have := H.mem.lt nb e; omega
  have hnt : L.tv.ownBlock ≠ some nb := fun e => by
    obtain ⟨_, h3⟩ := own_blk H.told e
    rcases hnb with h | h
    · obtain ⟨D, ⟨es, clock, h5, _⟩, _⟩ := H.evs.2 _ h
      rw [h3] at h5; cases h5
    · have := (Array.getElem?_eq_some_iff.1 h3).1
      omega
  have hnt2 : L.tv.ownBlock ≠ some L.mc := fun e => by
    obtain ⟨_, h3⟩ := own_blk H.told e
    rw [h1] at h3; simp at h3
  refine ⟨{ L with em := some nb }, rfl, ⟨⟨fv, cv, hm _ _ h1, h2⟩, H.mem.keep fun b hb => hk b (fun e => not_owned H.mem (by decide) h1 (e ▸ hb)) (fun e => hno (e ▸ hb)) (hlt b (.inr (.inl hb))), own_keep H.told fun b hb => hk b (fun e => hnt2 (e ▸ hb)) (fun e => hnt (e ▸ hb)) (hlt b (.inr (.inr (.inr hb)))), ?_, ?_, ?_, hev⟩, ?_, ⟨os, tape, output, size, fun b hb hn => hk b (fun e => hn (.inl e)) (fun e => ?_) hb⟩⟩
  · refine H.below.next size fun b hl hf => hk b (fun e => hf (e ▸ H.own _ (.inl rfl))) (fun e => hf ?_) hl
    rcases hnb with h | h
    · exact H.own b (.inr (.inr (.inl (e ▸ h))))
    · omega
  · rintro b (e | e | e | e)
    · exact H.own b (.inl e)
    · exact H.own b (.inr (.inl e))
    · cases e
      rcases hnb with h | h
      · exact H.own nb (.inr (.inr (.inl h)))
      · exact free_of_ge (Nat.le_trans H.below.size h)
    · exact H.own b (.inr (.inr (.inr e)))
  · intro b hb
    cases hb
    exact hno
  · rintro b (e | e | e | e)
    · exact .inl (.inl e)
    · exact .inl (.inr (.inl e))
    · cases e
      rcases hnb with h | h
      · exact .inl (.inr (.inr (.inl h)))
      · exact .inr h
    · exact .inl (.inr (.inr (.inr e)))
  · rcases hnb with h | h
    · exact hn (.inr (.inr (.inl (e ▸ h))))
    · omega

set_option maxRecDepth 100000 in
set_option maxHeartbeats 4000000 in
theorem complete_any {w0 w : World} {L : Ly} {c : Cx} {S : MS} {told : List Ev} (H : MacAt w0 w L c S told) (hlen : c.evs.length < 1000000) (e n : Int) (he : (Lit.int .i64 e).wf = true) :
    Calls Tryd.prog 14 #[.pointer (some ⟨L.mc, 0, none⟩), .int .i64 e, .int .i64 n] w fun ex w' => ex = .returned (.tuple #[]) ∧ MTurns w0 w w' L c S { c with evs := bring c.evs e n } S told := by
  obtain ⟨fv, cv, hm, hP⟩ := H.mach
  obtain ⟨m0, m1, m2, m3, m4, mf, ml⟩ := cells5 hm
  have hkey := Maps.keyOf_int_mk Tryd.underlying3 he
  have hmm := @run_makeMap Tryd.prog
  have hq := fun (w : World) (r : Option Nat) => run_eql_map_nil w 60 3 3 r Tryd.underlying60
  have hz : ∀ w : World, (zeroValue 3).run Tryd.prog w = .ok (.int .i64 0) w := fun w => by kernel_rfl
  have HH := Lib.hid H
  cases hem : L.em with
  | none =>
    have hev0 := H.evs.1 hem
    obtain ⟨W, hW⟩ : ∃ W, W = (w.setCell ⟨L.mc, 3, none⟩ (.map (some w.heap.size))).alloc (.map #[] 0) := ⟨_, rfl⟩
    have hsz : (w.setCell ⟨L.mc, 3, none⟩ (.map (some w.heap.size))).heap.size = w.heap.size := by simp [World.setCell]
    have hne : L.mc ≠ w.heap.size := Nat.ne_of_lt ml
    have hmW : W.heap[L.mc]? = some (.cells #[fv, cv, .pointer (some ⟨L.mb, 0, none⟩), .map (some w.heap.size), L.tv] 62) := by
      rw [hW, Below.heap_alloc _ _ _ (by rw [hsz]; exact ml), heap_setCell_same _ L.mc 3 _ 62 _ hm]
      simp
    have hmp : W.ownsMap Tryd.prog 3 intElem w.heap.size 0 (.map []) := by
      have := World.ownsMap_made (w.setCell ⟨L.mc, 3, none⟩ (.map (some w.heap.size))) Tryd.prog 3 intElem
      rw [hsz, ← hW] at this
      exact this
    obtain ⟨v, ps, hlk, hv⟩ := hmp.look_ok M.keyLaw Tryd.underlying60 (hz W) (zd := .lit (.int .i64 0)) (zp := []) rfl hkey
    have hh : Maps.has (.map [] : DataW Unit) (.int .i64 e) = false := rfl
    rw [hh] at hlk
    rw [Maps.atKey_of_not_has hh] at hv
    rw [intElem_inv hv] at hlk
    obtain ⟨w5, hrun, hown5, hgr⟩ := hmp.update M.keyLaw Tryd.underlying60 (by unfold maxLen; omega) hkey (show intElem (.int .i64 n) = some (.lit (.int .i64 n), []) from rfl)
    have hbr : bring c.evs e n = [(e, n)] := by rw [hev0]; rfl
    have hfin : MTurns w0 w w5 L c S { c with evs := bring c.evs e n } S told := by
      rw [hbr]
      refine MTurns.ev H (nb := w.heap.size) (.inr (Nat.le_refl _)) (ev_put (evs := []) hmp (fun e' => rfl) e n hown5) (fun fv' cv' h' => ?_) ?_ ?_ ?_ ?_ (fun b h1 h2 h3 => ?_)
      · rw [hm] at h'
        simp at h'
        obtain ⟨rfl, rfl, -⟩ := h'
        exact (hgr.block L.mc (Array.getElem?_eq_some_iff.1 hmW).1 (fun h => hne (Option.some.inj h))).trans hmW
      · rw [hgr.os, hW]; rfl
      · rw [hgr.tape, hW]; rfl
      · rw [hgr.output, hW]; rfl
      · have := hgr.size
        rw [hW] at this
        simp [World.setCell] at this
        omega
      · have hl : b < W.heap.size := by rw [hW]; simp [World.setCell]; omega
        refine (hgr.block b hl (fun h => h2 (Option.some.inj h))).trans ?_
        rw [hW, Below.heap_alloc _ _ _ (by rw [hsz]; exact h3), Below.heap_setCell _ _ _ _ h1]
    obtain ⟨z0, z1, z2, z3', z4, zf, zl⟩ := cells5 hmW
    have HF := Lib.hid hfin
    have HW := Lib.hid hW
    clear hW hsz
    rw [hem] at m3
    clear hfin hmW hmp hv hown5 hgr hbr hev0 hem hm hP H hkey hz hh
    go_enter Tryd.func14, Tryd.ntmps14
    go_upto_region 3 with fail
    rw [← HW.out]
    clear HW
    go_wp2
    go_returns
    exact ⟨rfl, HF.out⟩
  | some b =>
    obtain ⟨D, hmp, hD⟩ := H.evs.2 b hem
    obtain ⟨v, ps, hlk, hv⟩ := hmp.look_ok M.keyLaw Tryd.underlying60 (hz w) (zd := .lit (.int .i64 0)) (zp := []) rfl hkey
    have hDe := hD e
    rw [hem] at m3
    cases hbr : brought c.evs e with
    | some q =>
      rw [hbr] at hDe
      rw [hDe.1] at hlk
      rw [hDe.2] at hv
      rw [intElem_inv hv] at hlk
      have hfin : MTurns w0 w w L c S { c with evs := bring c.evs e n } S told := by
        have : bring c.evs e n = c.evs := by rw [bring, hbr]
        rw [this]
        exact MTurns.same H (Below.refl _ _)
      have HF := Lib.hid hfin
      clear hfin hmp hv hDe hbr hD hem hm hP H hkey hz
      go_enter Tryd.func14, Tryd.ntmps14
      go_wp2
      go_returns
      exact ⟨rfl, HF.out⟩
    | none =>
      rw [hbr] at hDe
      have hd : Maps.has D (.int .i64 e) = false := hDe
      rw [hd] at hlk
      rw [Maps.atKey_of_not_has hd] at hv
      rw [intElem_inv hv] at hlk
      obtain ⟨w5, hrun, hown5, hgr⟩ := hmp.update M.keyLaw Tryd.underlying60 (by unfold maxLen; omega) hkey (show intElem (.int .i64 n) = some (.lit (.int .i64 n), []) from rfl)
      have hfin : MTurns w0 w w5 L c S { c with evs := bring c.evs e n } S told := by
        have : bring c.evs e n = (e, n) :: c.evs := by rw [bring, hbr]
        rw [this]
        have hne : L.mc ≠ b := fun h => by
          obtain ⟨es, clock, h5, _⟩ := hmp
          rw [← h, hm] at h5; cases h5
        refine MTurns.ev H (nb := b) (.inl hem) (ev_put hmp hD e n hown5) (fun fv' cv' h' => ?_) hgr.os hgr.tape hgr.output hgr.size (fun q h1 h2 h3 => hgr.block q h3 (fun h => h2 (Option.some.inj h)))
        rw [hem] at h'
        exact (hgr.block L.mc ml (fun h => hne (Option.some.inj h))).trans h'
      have HF := Lib.hid hfin
      clear hfin hmp hv hDe hbr hD hem hm hP H hkey hz hown5 hgr hd
      go_enter Tryd.func14, Tryd.ntmps14
      go_wp2
      go_returns
      exact ⟨rfl, HF.out⟩
end Go.Proofs.YtgpkhdccchpljaaDoor

namespace Go.Proofs.YtgpkhdccchpljaaDoor
open Go.RowKit
open M (Wd MS RepAt Owned Kept Turned loadR storeR copyR clearR freeR allocR)
open C (In Cr Pg PgOk)

/-- an act on a machine -/
structure Ac where
  k : Int
  a : Int
  n : Int
  l : List Int
def acF (a : Ac) : Wd := ⟨true, wr (a.a + 1), 0⟩
/-- what an act comes to: from what a machine holds to what comes out, and what it holds -/
def OneRel (c : Cx) (S : MS) (told : List Ev) (a : Ac) (fuel : Int) (o : Out) (S' : MS) (evs' : List (Int × Int)) (told' : List Ev) : Prop :=
  (a.k.tmod 4 = 0 ∧ (startR c.p S a.a a.l).1.2 = o ∧ (startR c.p S a.a a.l).2 = S' ∧ evs' = c.evs ∧ told' = told) ∨
  (a.k.tmod 4 = 1 ∧ ∃ z, Thr c (goOnR c.p ⟨S, told, fuel, []⟩ (acF a)) z ∧ o = pollO (acF a) z ∧ S' = z.2.S ∧ evs' = c.evs ∧ told' = z.2.told) ∨
  (a.k.tmod 4 = 2 ∧ ∃ z, Thr c (undoR c.p ⟨S, told, fuel, []⟩ (acF a)) z ∧ o = (cancelO (acF a) z).1 ∧ S' = (cancelO (acF a) z).2 ∧ evs' = c.evs ∧ told' = z.2.told) ∨
  (a.k.tmod 4 = 3 ∧ o = ⟨0, 0⟩ ∧ S' = S ∧ evs' = bring c.evs a.a a.n ∧ told' = told) ∨
  (a.k.tmod 4 ≠ 0 ∧ a.k.tmod 4 ≠ 1 ∧ a.k.tmod 4 ≠ 2 ∧ a.k.tmod 4 ≠ 3 ∧ o = ⟨0, 0⟩ ∧ S' = S ∧ evs' = c.evs ∧ told' = told)
theorem OneRel.det {c : Cx} {S : MS} {told : List Ev} {a : Ac} {fuel : Int} {o o2 : Out} {S' S2 : MS} {evs' evs2 : List (Int × Int)} {told' told2 : List Ev} (h : OneRel c S told a fuel o S' evs' told') (h' : OneRel c S told a fuel o2 S2 evs2 told2) : o = o2 ∧ S' = S2 ∧ evs' = evs2 ∧ told' = told2 := by
  rcases h with ⟨k, rfl, rfl, rfl, rfl⟩ | ⟨k, z, hz, rfl, rfl, rfl, rfl⟩ | ⟨k, z, hz, rfl, rfl, rfl, rfl⟩ | ⟨k, rfl, rfl, rfl, rfl⟩ | ⟨k0, k1, k2, k3, rfl, rfl, rfl, rfl⟩
  · rcases h' with ⟨q, rfl, rfl, rfl, rfl⟩ | ⟨q, _⟩ | ⟨q, _⟩ | ⟨q, _⟩ | ⟨q, _⟩
    · exact ⟨rfl, rfl, rfl, rfl⟩
    all_goals omega
  · rcases h' with ⟨q, _⟩ | ⟨q, z', hz', rfl, rfl, rfl, rfl⟩ | ⟨q, _⟩ | ⟨q, _⟩ | ⟨q0, q1, _⟩
    · omega
    · cases Thr.det hz hz'; exact ⟨rfl, rfl, rfl, rfl⟩
    all_goals omega
  · rcases h' with ⟨q, _⟩ | ⟨q, _⟩ | ⟨q, z', hz', rfl, rfl, rfl, rfl⟩ | ⟨q, _⟩ | ⟨q0, q1, q2, _⟩
    · omega
    · omega
    · cases Thr.det hz hz'; exact ⟨rfl, rfl, rfl, rfl⟩
    all_goals omega
  · rcases h' with ⟨q, _⟩ | ⟨q, _⟩ | ⟨q, _⟩ | ⟨q, rfl, rfl, rfl, rfl⟩ | ⟨q0, q1, q2, q3, _⟩
    · omega
    · omega
    · omega
    · exact ⟨rfl, rfl, rfl, rfl⟩
    · omega
  · rcases h' with ⟨q, _⟩ | ⟨q, _⟩ | ⟨q, _⟩ | ⟨q, _⟩ | ⟨q0, q1, q2, q3, rfl, rfl, rfl, rfl⟩
    · omega
    · omega
    · omega
    · omega
    · exact ⟨rfl, rfl, rfl, rfl⟩

/-- what one comes to -/
def OnePost (w0 w : World) (L : Ly) (c : Cx) (S : MS) (told : List Ev) (a : Ac) (fuel : Int) (e : Ending) (w' : World) : Prop :=
  ∃ o S' evs' told', OneRel c S told a fuel o S' evs' told' ∧ e = .returned (outV o) ∧ MTurns w0 w w' L c S { c with evs := evs' } S' told' ∧ MemOk S' ∧ S'.blocks.length ≤ S.blocks.length + 1 + fuel.toNat ∧ told'.length < 90000001 ∧ evs'.length ≤ c.evs.length + 1 ∧ ∀ e' n', brought evs' e' = some n' → inR n'

theorem start_okk (p : Pg) {S : MS} (h : MemOk S) (co : Int) (hco : inR co) (args : List Int) (ha : ∀ n ∈ args, inR n) : MemOk (startR p S co args).2 ∧ (startR p S co args).2.blocks.length ≤ S.blocks.length + 1 := by
  obtain ⟨h1, h2, -⟩ := frame_ok p h co hco args ha
  unfold startR
  split
  · exact ⟨h, Nat.le_succ _⟩
  · split
    · exact ⟨h1, h2⟩
    · exact ⟨h1, h2⟩
theorem bring_ok {evs : List (Int × Int)} (h : ∀ e' n', brought evs e' = some n' → inR n') (e n : Int) (hn : inR n) : (bring evs e n).length ≤ evs.length + 1 ∧ ∀ e' n', brought (bring evs e n) e' = some n' → inR n' := by
  unfold bring
  cases hb : brought evs e with
  | some q => exact ⟨Nat.le_succ _, h⟩
  | none =>
    refine ⟨Nat.le_refl _, fun e' n' hb' => ?_⟩
    rw [brought_cons] at hb'
    by_cases he : e = e'
    · rw [if_pos he] at hb'; cases hb'; exact hn
    · rw [if_neg he] at hb'; exact h e' n' hb'

set_option maxRecDepth 100000 in
set_option maxHeartbeats 8000000 in
theorem one_any {w0 w : World} {L : Ly} {c : Cx} {S : MS} {told : List Ev} (hc : CxOk c) (H : MacAt w0 w L c S told) (hm : MemOk S) (ht : told.length ≤ 80000000) (fuel : Int) (hf : fuel ≤ 1000000) (hmade : S.blocks.length + fuel.toNat ≤ 700000) (hevs : c.evs.length < 1000000) (htask : c.task = 1)
    (a : Ac) (haa : inR a.a) (han : inR a.n) (hal : ∀ n ∈ a.l, inR n) (oaa : Option Addr) (capa : Nat) (harg : ∀ w', Kept (MOwn L S) w w' → C.IntsV w' (.slice oaa a.l.length capa) a.l) :
    Calls Tryd.prog 16 #[.pointer (some ⟨L.mc, 0, none⟩), .agg #[.int .i64 a.k, .int .i64 a.a, .int .i64 a.n, .slice oaa a.l.length capa], .int .i64 fuel] w (OnePost w0 w L c S told a fuel) := by
  have HARG := Lib.hid harg
  clear harg
  obtain ⟨W, hW⟩ : ∃ W, W = (w.alloc (.cells #[.int .i64 a.k, .int .i64 a.a, .int .i64 a.n, .slice oaa a.l.length capa] 36)).alloc (.cells #[.int .i64 0, .int .i64 0] 41) := ⟨_, rfl⟩
  obtain ⟨hbW, hx0, hx1⟩ := al2 w (.cells #[.int .i64 a.k, .int .i64 a.a, .int .i64 a.n, .slice oaa a.l.length capa] 36) (.cells #[.int .i64 0, .int .i64 0] 41)
  rw [← hW] at hbW hx0 hx1
  obtain ⟨B, hB⟩ : ∃ B, B = w.heap.size := ⟨_, rfl⟩
  have hBw : w.heap.size ≤ B := Nat.le_of_eq hB.symm
  rw [← hB] at hx0 hx1
  have hw00 := H.below.size
  obtain ⟨hb2, hy2, hz2⟩ := al2 W (.cells #[.bool true, .int .i64 (wrap64 (a.a + 1)), .int .i64 0] 38) (.cells #[.int .i64 0, .int .i64 0] 41)
  have hx1K := Lib.hid hx1
  have HX1 := Lib.hid (keepB7 hx1 hb2)
  have HX0 := Lib.hid (keepB7 hx0 hb2)
  have HW2 := Lib.hid (hbW.trans (hb2.mono hbW.size))
  have hWs : w.heap.size ≤ W.heap.size := hbW.size
  obtain ⟨x0, x1, x2, x3, xf, xl⟩ := cells4m hx0
  have HH := Lib.hid H
  have HS := Lib.hid (And.intro hm (And.intro hal han))
  go_enter Tryd.func16, Tryd.ntmps16
  go_upto_region 1 with fail
  rw [← hW]
  simp only [← hB]
  clear hW hx0 hx1 hbW hb2
  replace hB := Lib.hid hB
  go_upto_region 3 with fail
  generalize (W.alloc (.cells #[.bool true, .int .i64 (wrap64 (a.a + 1)), .int .i64 0] 38)).alloc (.cells #[.int .i64 0, .int .i64 0] 41) = W2 at hy2 hz2 HX0 HX1 HW2 ⊢
  have hBl2 : B + 1 < W.heap.size := (Array.getElem?_eq_some_iff.1 hx1K.out).1
  generalize W.heap.size = k at hy2 hz2 hWs hBl2 ⊢
  clear x0 x1 x2 x3 xf xl
  obtain ⟨x0, x1, x2, x3, xf, xl⟩ := cells4m HX0.out
  obtain ⟨y0, y1, y2, yf, yl⟩ := cells3 hy2
  obtain ⟨z0, z1, zf, zl⟩ := cells2 hz2
  have HY2 := Lib.hid hy2
  have HZ2 := Lib.hid hz2
  have H2 := Lib.hid (H.under HW2.out)
  clear hy2 hz2
  have HXB := Lib.hid hBl2
  have HBD := Lib.hid (And.intro ht (And.intro hf (And.intro hmade hevs)))
  by_cases k0 : a.k.tmod 4 = 0
  · have t0 : (a.k.tmod 4 == 0) = true := by simpa using k0
    have K0 := Lib.hid k0
    obtain ⟨yy, oo, S', hst⟩ : ∃ yy oo S', startR c.p S a.a a.l = ((yy, oo), S') := ⟨_, _, _, rfl⟩
    have hcl := start_any H2.out (by omega) a.a oaa capa a.l (fun w' hk => HARG.out w' (kept_trans (Kept.of_below HW2.out) hk fun b hb => .inl hb)) yy oo S' hst
    rw [show outV oo = .agg #[.int .i64 oo.k, .int .i64 oo.n] from rfl] at hcl
    have HCL := Lib.hid hcl
    have HST := Lib.hid hst
    have hok := Lib.hid (start_okk c.p hm a.a haa a.l hal)
    clear hcl hst k0 hmade hf ht hevs
    go_upto_region 12 with (go_at_call 8; refine HCL.out.mono ?_; rintro e WW ⟨rfl, hT⟩; have hz7 := hT.local H2.out (t := 41) (by unfold Loc; decide) HZ2.out; have hx7 := hT.local H2.out (t := 41) (by unfold Loc; decide) HX1.out; have hM := MTurns.under HW2.out hT; clear z0 z1 zf zl; obtain ⟨z0, z1, zf, zl⟩ := cells2 hz7; have HZ7 := Lib.hid hz7; have HX7 := Lib.hid hx7; have HM7 := Lib.hid hM; clear hT hz7 hx7 hM)
    clear x0 x1 x2 x3 xf xl y0 y1 y2 yf yl z0 z1 zf zl
    obtain ⟨g0, g1⟩ := MTurns.out HM7.out hw00 (show w.heap.size ≤ k + 1 by omega) HZ7.out (.int .i64 oo.k) (.int .i64 oo.n)
    have hne : B + 1 ≠ k + 1 := fun e => by
      have h1 := HXB.out
      omega
    have hx8 : ((WW.setCell ⟨k + 1, 0, none⟩ (.int .i64 oo.k)).setCell ⟨k + 1, 1, none⟩ (.int .i64 oo.n)).heap[B + 1]? = some (.cells #[.int .i64 0, .int .i64 0] 41) := (Below.heap_setCell _ _ _ _ hne).trans ((Below.heap_setCell _ _ _ _ hne).trans HX7.out)
    generalize (WW.setCell ⟨k + 1, 0, none⟩ (.int .i64 oo.k)).setCell ⟨k + 1, 1, none⟩ (.int .i64 oo.n) = W8 at g0 g1 hx8 ⊢
    obtain ⟨z0, z1, zf, zl⟩ := cells2 g0
    obtain ⟨r0, r1, rf, rl⟩ := cells2 hx8
    obtain ⟨hfz', hfin'⟩ := MTurns.out g1 hw00 (show w.heap.size ≤ B + 1 by omega) hx8 (.int .i64 oo.k) (.int .i64 oo.n)
    have hfz := Lib.hid hfz'
    have hfin := Lib.hid hfin'
    clear hfz' hfin' g0 g1 hx8 hne
    go_wp2
    have hf := hfz.out
    clear hfz
    generalize (World.setCell (World.setCell W8 _ _) _ _) = WF at hf hfin ⊢
    obtain ⟨q0, q1, qf, ql⟩ := cells2 hf
    refine bodyPost_ret (v := .agg #[.int .i64 oo.k, .int .i64 oo.n]) (by simp [results, Tryd.results16, go_sem, q0, q1]) rfl ⟨oo, S', c.evs, told, ?_, rfl, hfin.out, ?_, ?_, ?_, ?_, ?_⟩
    · exact .inl ⟨K0.out, by rw [HST.out], by rw [HST.out], rfl, rfl⟩
    · have := hok.out.1; rw [HST.out] at this; exact this
    · have := hok.out.2; rw [HST.out] at this; simp only at this; omega
    · have := HBD.out.1; omega
    · exact Nat.le_succ _
    · exact hc.ev
  · have t0 : (a.k.tmod 4 == 0) = false := by simpa using k0
    by_cases k1 : a.k.tmod 4 = 1
    · have t1 : (a.k.tmod 4 == 1) = true := by simpa using k1
      have K1 := Lib.hid k1
      have hcl := poll_any hc H2.out hm ht fuel hf (by omega) (acF a) inR_0
      rw [htask] at hcl
      simp only [acF] at hcl
      have HCL := Lib.hid hcl
      clear hcl k0 k1 hmade hf ht hevs
      go_upto_region 12 with (go_at_call 9; refine HCL.out.mono ?_; rintro e WW ⟨z, hz, hI, he, hT⟩; rw [show outV (pollO ⟨true, wr (a.a + 1), 0⟩ z) = .agg #[.int .i64 (pollO ⟨true, wr (a.a + 1), 0⟩ z).k, .int .i64 (pollO ⟨true, wr (a.a + 1), 0⟩ z).n] from rfl] at he; subst he; have hz7 := hT.local H2.out (t := 41) (by unfold Loc; decide) HZ2.out; have hx7 := hT.local H2.out (t := 41) (by unfold Loc; decide) HX1.out; have hM := MTurns.under HW2.out hT; clear z0 z1 zf zl; obtain ⟨z0, z1, zf, zl⟩ := cells2 hz7; have HZ7 := Lib.hid hz7; have HX7 := Lib.hid hx7; have HM7 := Lib.hid hM; have HZI := Lib.hid (And.intro hz hI); clear hT hz7 hx7 hM hz hI)
      clear x0 x1 x2 x3 xf xl y0 y1 y2 yf yl z0 z1 zf zl
      obtain ⟨oo, hoo⟩ : ∃ oo, pollO ⟨true, wr (a.a + 1), 0⟩ z = oo := ⟨_, rfl⟩
      rw [hoo]
      have HOO := Lib.hid hoo
      clear hoo
      obtain ⟨g0, g1⟩ := MTurns.out HM7.out hw00 (show w.heap.size ≤ k + 1 by omega) HZ7.out (.int .i64 oo.k) (.int .i64 oo.n)
      have hne : B + 1 ≠ k + 1 := fun e => by
        have h1 := HXB.out
        omega
      have hx8 : ((WW.setCell ⟨k + 1, 0, none⟩ (.int .i64 oo.k)).setCell ⟨k + 1, 1, none⟩ (.int .i64 oo.n)).heap[B + 1]? = some (.cells #[.int .i64 0, .int .i64 0] 41) := (Below.heap_setCell _ _ _ _ hne).trans ((Below.heap_setCell _ _ _ _ hne).trans HX7.out)
      generalize (WW.setCell ⟨k + 1, 0, none⟩ (.int .i64 oo.k)).setCell ⟨k + 1, 1, none⟩ (.int .i64 oo.n) = W8 at g0 g1 hx8 ⊢
      obtain ⟨z0, z1, zf, zl⟩ := cells2 g0
      obtain ⟨r0, r1, rf, rl⟩ := cells2 hx8
      obtain ⟨hfz', hfin'⟩ := MTurns.out g1 hw00 (show w.heap.size ≤ B + 1 by omega) hx8 (.int .i64 oo.k) (.int .i64 oo.n)
      have hfz := Lib.hid hfz'
      have hfin := Lib.hid hfin'
      clear hfz' hfin' g0 g1 hx8 hne
      go_wp2
      have hf := hfz.out
      clear hfz
      generalize (World.setCell (World.setCell W8 _ _) _ _) = WF at hf hfin ⊢
      obtain ⟨q0, q1, qf, ql⟩ := cells2 hf
      refine bodyPost_ret (v := .agg #[.int .i64 oo.k, .int .i64 oo.n]) (by simp [results, Tryd.results16, go_sem, q0, q1]) rfl ⟨oo, z.2.S, c.evs, z.2.told, ?_, rfl, hfin.out, ?_, ?_, ?_, ?_, ?_⟩
      · exact .inr (.inl ⟨K1.out, z, HZI.out.1, HOO.out.symm, rfl, rfl, rfl⟩)
      · exact HZI.out.2.mem
      · have := HZI.out.2.made; omega
      · have := HZI.out.2.told; omega
      · exact Nat.le_succ _
      · exact hc.ev
    · have t1 : (a.k.tmod 4 == 1) = false := by simpa using k1
      by_cases k2 : a.k.tmod 4 = 2
      · have t2 : (a.k.tmod 4 == 2) = true := by simpa using k2
        have K2 := Lib.hid k2
        have hcl := cancel_any hc H2.out hm ht fuel hf (by omega) (acF a) inR_0
        rw [htask] at hcl
        simp only [acF] at hcl
        have HCL := Lib.hid hcl
        clear hcl k0 k1 k2 hmade hf ht hevs
        go_upto_region 12 with (go_at_call 11; refine HCL.out.mono ?_; rintro e WW ⟨z, hz, hI, he, hT⟩; rw [show outV ((cancelO ⟨true, wr (a.a + 1), 0⟩ z).1) = .agg #[.int .i64 ((cancelO ⟨true, wr (a.a + 1), 0⟩ z).1).k, .int .i64 ((cancelO ⟨true, wr (a.a + 1), 0⟩ z).1).n] from rfl] at he; subst he; have hz7 := hT.local H2.out (t := 41) (by unfold Loc; decide) HZ2.out; have hx7 := hT.local H2.out (t := 41) (by unfold Loc; decide) HX1.out; have hM := MTurns.under HW2.out hT; clear z0 z1 zf zl; obtain ⟨z0, z1, zf, zl⟩ := cells2 hz7; have HZ7 := Lib.hid hz7; have HX7 := Lib.hid hx7; have HM7 := Lib.hid hM; have HZI := Lib.hid (And.intro hz hI); clear hT hz7 hx7 hM hz hI)
        clear x0 x1 x2 x3 xf xl y0 y1 y2 yf yl z0 z1 zf zl
        obtain ⟨oo, S', hoo⟩ : ∃ oo S', cancelO ⟨true, wr (a.a + 1), 0⟩ z = (oo, S') := ⟨_, _, rfl⟩
        rw [hoo] at HM7 ⊢
        have HOO := Lib.hid hoo
        have hok : Hid (MemOk S' ∧ S'.blocks.length = z.2.S.blocks.length) := Lib.hid (by
          have h1 := HZI.out.2.mem
          have h2 := free_ok h1 true (wr (a.a + 1)) 0
          have h3 := hoo
          unfold cancelO at h3
          split at h3
          · cases h3; exact ⟨h1, rfl⟩
          · split at h3
            · cases h3; exact h2
            · cases h3; exact h2)
        clear hoo
        simp only at HM7 ⊢
        obtain ⟨g0, g1⟩ := MTurns.out HM7.out hw00 (show w.heap.size ≤ k + 1 by omega) HZ7.out (.int .i64 oo.k) (.int .i64 oo.n)
        have hne : B + 1 ≠ k + 1 := fun e => by
          have h1 := HXB.out
          omega
        have hx8 : ((WW.setCell ⟨k + 1, 0, none⟩ (.int .i64 oo.k)).setCell ⟨k + 1, 1, none⟩ (.int .i64 oo.n)).heap[B + 1]? = some (.cells #[.int .i64 0, .int .i64 0] 41) := (Below.heap_setCell _ _ _ _ hne).trans ((Below.heap_setCell _ _ _ _ hne).trans HX7.out)
        generalize (WW.setCell ⟨k + 1, 0, none⟩ (.int .i64 oo.k)).setCell ⟨k + 1, 1, none⟩ (.int .i64 oo.n) = W8 at g0 g1 hx8 ⊢
        obtain ⟨z0, z1, zf, zl⟩ := cells2 g0
        obtain ⟨r0, r1, rf, rl⟩ := cells2 hx8
        obtain ⟨hfz', hfin'⟩ := MTurns.out g1 hw00 (show w.heap.size ≤ B + 1 by omega) hx8 (.int .i64 oo.k) (.int .i64 oo.n)
        have hfz := Lib.hid hfz'
        have hfin := Lib.hid hfin'
        clear hfz' hfin' g0 g1 hx8 hne
        go_wp2
        have hf := hfz.out
        clear hfz
        generalize (World.setCell (World.setCell W8 _ _) _ _) = WF at hf hfin ⊢
        obtain ⟨q0, q1, qf, ql⟩ := cells2 hf
        refine bodyPost_ret (v := .agg #[.int .i64 oo.k, .int .i64 oo.n]) (by simp [results, Tryd.results16, go_sem, q0, q1]) rfl ⟨oo, S', c.evs, z.2.told, ?_, rfl, hfin.out, ?_, ?_, ?_, ?_, ?_⟩
        · exact .inr (.inr (.inl ⟨K2.out, z, HZI.out.1, by have := HOO.out; rw [acF, this], by have := HOO.out; rw [acF, this], rfl, rfl⟩))
        · exact hok.out.1
        · have := HZI.out.2.made; have := hok.out.2; omega
        · have := HZI.out.2.told; omega
        · exact Nat.le_succ _
        · exact hc.ev
      · have t2 : (a.k.tmod 4 == 2) = false := by simpa using k2
        by_cases k3 : a.k.tmod 4 = 3
        · have t3 : (a.k.tmod 4 == 3) = true := by simpa using k3
          have K3 := Lib.hid k3
          have hcl := complete_any H2.out hevs a.a a.n (WalkArith.wf_i64 haa)
          have HCL := Lib.hid hcl
          have hbr := Lib.hid (bring_ok hc.ev a.a a.n han)
          clear hcl k0 k1 k2 k3 hmade hf ht hevs
          go_upto_region 12 with (go_at_call 14; refine HCL.out.mono ?_; rintro e WW ⟨rfl, hT⟩; have hz7 := hT.local H2.out (t := 41) (by unfold Loc; decide) HZ2.out; have hx7 := hT.local H2.out (t := 41) (by unfold Loc; decide) HX1.out; have hM := MTurns.under HW2.out hT; clear z0 z1 zf zl; obtain ⟨z0, z1, zf, zl⟩ := cells2 hz7; have HX7 := Lib.hid hx7; have HM7 := Lib.hid hM; clear hT hz7 hM)
          obtain ⟨r0, r1, rf, rl⟩ := cells2 HX7.out
          obtain ⟨hfz', hfin'⟩ := MTurns.out HM7.out hw00 (show w.heap.size ≤ B + 1 by omega) HX7.out (.int .i64 0) (.int .i64 0)
          have hfz := Lib.hid hfz'
          have hfin := Lib.hid hfin'
          clear hfz' hfin' hx7
          go_wp2
          have hf := hfz.out
          clear hfz
          generalize (World.setCell (World.setCell WW _ _) _ _) = WF at hf hfin ⊢
          obtain ⟨q0, q1, qf, ql⟩ := cells2 hf
          exact bodyPost_ret (v := .agg #[.int .i64 0, .int .i64 0]) (by simp [results, Tryd.results16, go_sem, q0, q1]) rfl ⟨⟨0, 0⟩, S, bring c.evs a.a a.n, told, .inr (.inr (.inr (.inl ⟨K3.out, rfl, rfl, rfl, rfl⟩))), rfl, hfin.out, hm, by omega, by have := HBD.out.1; omega, hbr.out.1, hbr.out.2⟩
        · have t3 : (a.k.tmod 4 == 3) = false := by simpa using k3
          have KK := Lib.hid (And.intro k0 (And.intro k1 (And.intro k2 k3)))
          obtain ⟨r0, r1, rf, rl⟩ := cells2 HX1.out
          obtain ⟨hfz', hfin'⟩ := MTurns.out (MTurns.same HH.out HW2.out) hw00 (show w.heap.size ≤ B + 1 by omega) HX1.out (.int .i64 0) (.int .i64 0)
          have hfz := Lib.hid hfz'
          have hfin := Lib.hid hfin'
          clear hfz' hfin' k0 k1 k2 k3 hmade hf ht hevs
          go_wp2
          have hf := hfz.out
          clear hfz
          generalize (World.setCell (World.setCell W2 _ _) _ _) = WF at hf hfin ⊢
          obtain ⟨q0, q1, qf, ql⟩ := cells2 hf
          exact bodyPost_ret (v := .agg #[.int .i64 0, .int .i64 0]) (by simp [results, Tryd.results16, go_sem, q0, q1]) rfl ⟨⟨0, 0⟩, S, c.evs, told, .inr (.inr (.inr (.inr ⟨KK.out.1, KK.out.2.1, KK.out.2.2.1, KK.out.2.2.2, rfl, rfl, rfl, rfl⟩))), rfl, hfin.out, hm, by omega, by have := HBD.out.1; omega, Nat.le_succ _, hc.ev⟩
end Go.Proofs.YtgpkhdccchpljaaDoor

namespace Go.Proofs.YtgpkhdccchpljaaDoor
open Go.RowKit
open M (Wd MS RepAt Owned Kept Turned)
open C (In Cr Pg PgOk)

/-- one round tells at most one thing -/
theorem ite_told {P : Prop} [Decidable P] {a b : Out × Se} {n : Nat} (ha : a.2.told.length ≤ n) (hb : b.2.told.length ≤ n) : (if P then a else b).2.told.length ≤ n := by
  by_cases h : P
  · rw [if_pos h]; exact ha
  · rw [if_neg h]; exact hb
theorem goOn_told (p : Pg) (s : Se) (x : Wd) : (goOnR p s x).2.told.length ≤ s.told.length + 1 := by
  unfold goOnR
  repeat' apply ite_told
  all_goals exact Nat.le_succ _
theorem undo_told (p : Pg) (s : Se) (x : Wd) : (undoR p s x).2.told.length ≤ s.told.length + 1 := by
  unfold undoR
  repeat' apply ite_told
  all_goals exact Nat.le_succ _
theorem exec_told (c : Cx) (s : Se) (r : Ru) (rs : List Ru) (x : In) : (execR c s r rs x).2.told.length ≤ s.told.length + 1 := by
  unfold execR
  repeat' apply ite_told
  all_goals first
    | exact Nat.le_succ _
    | exact goOn_told _ _ _
    | exact undo_told _ _ _
    | (simp [Se.note]; done)
    | (cases brought c.evs (r.get x.b).n <;> exact Nat.le_succ _)
theorem settle_told (c : Cx) (o : Out) (s : Se) : (settleR c o s).2.told.length ≤ s.told.length + 1 := by
  unfold settleR
  cases s.rs with
  | nil => exact Nat.le_succ _
  | cons r rs =>
    simp only
    repeat' apply ite_told
    all_goals first
      | exact Nat.le_succ _
      | (by_cases h : o.k = 0 <;> simp [h, Se.note])
theorem thr1_told {c : Cx} {q q' : Out × Se} (h : thr1 c q = some q') : q'.2.told.length ≤ q.2.told.length + 1 := by
  unfold thr1 at h
  split at h
  · cases h
    unfold stepR
    split
    · simp
    · split
      · simp
      · exact exec_told _ _ _ _ _
  · split at h
    · cases h
    · split at h
      · cases h
      · cases h
        exact settle_told _ _ _
theorem thr_told {c : Cx} {K : Nat} (hc : CxOk c) {q z : Out × Se} (h : Thr c q z) : Inv c K q → z.2.told.length + mu z ≤ q.2.told.length + mu q := by
  induction h with
  | done _ => intro _; exact Nat.le_refl _
  | next h1 _ ih =>
    intro hI
    obtain ⟨h3, h4⟩ := thr_inv hc _ _ hI h1
    have := ih h3
    have := thr1_told h1
    omega
theorem fine_told {c : Cx} (hc : CxOk c) {S : MS} {told : List Ev} {fuel : Int} {q z : Out × Se} (hF : Fine c ⟨S, told, fuel, []⟩ [] q) (hf : fuel ≤ 1000000) (ht : told.length ≤ 80000000) (hm : S.blocks.length + fuel.toNat ≤ 800000) (hz : Thr c q z) : z.2.told.length ≤ told.length + 4 * fuel.toNat + 8 := by
  have h := thr_told hc hz (inv_fine hF hf ht hm)
  have h1 := hF.fuel
  have h2 := hF.told
  have h4 := hF.len
  simp only at h1 h2 h4
  have hmu : mu q ≤ 4 * fuel.toNat + 6 := by
    unfold mu
    rw [h1]
    simp only [List.length_nil] at h4
    split
    · omega
    · split <;> omega
  omega
theorem one_told {c : Cx} (hc : CxOk c) {S S' : MS} {told told' : List Ev} {a : Ac} {fuel : Int} {o : Out} {evs' : List (Int × Int)} (hm : MemOk S) (hf : fuel ≤ 1000000) (ht : told.length ≤ 80000000) (hmade : S.blocks.length + fuel.toNat ≤ 800000) (h : OneRel c S told a fuel o S' evs' told') : told'.length ≤ told.length + 4 * fuel.toNat + 8 := by
  rcases h with ⟨k, rfl, rfl, rfl, rfl⟩ | ⟨k, z, hz, rfl, rfl, rfl, rfl⟩ | ⟨k, z, hz, rfl, rfl, rfl, rfl⟩ | ⟨k, rfl, rfl, rfl, rfl⟩ | ⟨k0, k1, k2, k3, rfl, rfl, rfl, rfl⟩
  · omega
  · exact fine_told hc (fine_goOn hc (s1 := ⟨S, told, fuel, []⟩) (rs := []) (x := acF a) inR_0 hm (Nat.zero_le _) (fun _ h => by cases h)) hf ht hmade hz
  · exact fine_told hc (fine_undo hc (s1 := ⟨S, told, fuel, []⟩) (rs := []) (x := acF a) inR_0 hm (Nat.zero_le _) (fun _ h => by cases h)) hf ht hmade hz
  · omega
  · omega

/-- a machine that was made for task 1, within the blocks O -/
structure Mch (w : World) (O : Nat → Prop) (mc : Nat) (p : Pg) (evs : List (Int × Int)) (S : MS) (told : List Ev) : Prop where
  at_ : ∃ w0 L, L.mc = mc ∧ MacAt w0 w L ⟨p, evs, 1⟩ S told ∧ (∀ b, MOwn L S b → O b) ∧ ∀ q x, w0.cell? q = some x → O q.block
  lt : ∀ b, O b → b < w.heap.size
theorem Mch.keep {w w' : World} {O : Nat → Prop} {mc : Nat} {p : Pg} {evs : List (Int × Int)} {S : MS} {told : List Ev} (h : Mch w O mc p evs S told) (hs : w.heap.size ≤ w'.heap.size) (hk : ∀ b, O b → w'.heap[b]? = w.heap[b]?) : Mch w' O mc p evs S told := by
  obtain ⟨w0, L, e, H, h1, h2⟩ := h.at_
  exact ⟨⟨w0, L, e, H.keep ⟨Nat.le_trans H.below.size hs, fun q x hq => (World.cell?_of_block (w := w) (hk _ (h2 q x hq))).trans (H.below.cell' q x hq)⟩ fun b hb => hk b (h1 b hb), h1, h2⟩, fun b hb => Nat.lt_of_lt_of_le (h.lt b hb) hs⟩
theorem Mch.kept {w w' : World} {O O2 : Nat → Prop} {mc : Nat} {p : Pg} {evs : List (Int × Int)} {S : MS} {told : List Ev} (h : Mch w O mc p evs S told) (hk : Kept O2 w w') (hd : ∀ b, O b → ¬ O2 b) : Mch w' O mc p evs S told :=
  h.keep hk.size fun b hb => hk.block b (h.lt b hb) (hd b hb)
theorem Mch.under {w w' : World} {O : Nat → Prop} {mc : Nat} {p : Pg} {evs : List (Int × Int)} {S : MS} {told : List Ev} (h : Mch w O mc p evs S told) (hk : Below w.heap.size w w') : Mch w' O mc p evs S told :=
  h.keep hk.size fun b hb => hk.block b (h.lt b hb)
/-- what came of a machine that acted -/
structure Acted (w w' : World) (O O' : Nat → Prop) (mc : Nat) (p : Pg) (evs' : List (Int × Int)) (S' : MS) (told' : List Ev) : Prop where
  mch : Mch w' O' mc p evs' S' told'
  own : ∀ b, O' b → O b ∨ w.heap.size ≤ b
  kept : Kept O w w'
theorem Mch.turned {w0 w w' : World} {O : Nat → Prop} {L : Ly} {p : Pg} {evs evs' : List (Int × Int)} {S S' : MS} {told' : List Ev} (hlt : ∀ b, O b → b < w.heap.size) (h1 : ∀ b, MOwn L S b → O b) (h2 : ∀ q x, w0.cell? q = some x → O q.block) (hT : MTurns w0 w w' L ⟨p, evs, 1⟩ S ⟨p, evs', 1⟩ S' told') : ∃ O', Acted w w' O O' L.mc p evs' S' told' := by
  obtain ⟨L', e1, H', h3, hk⟩ := hT
  refine ⟨fun b => O b ∨ (w.heap.size ≤ b ∧ b < w'.heap.size), ⟨⟨w0, L', e1, H', fun b hb => ?_, fun q x hq => .inl (h2 q x hq)⟩, fun b hb => ?_⟩, fun b hb => ?_, ⟨hk.os, hk.tape, hk.output, hk.size, fun b hb hn => hk.block b hb fun h => hn (h1 b h)⟩⟩
  · rcases h3 b hb with h | h
    · exact .inl (h1 b h)
    · exact .inr ⟨h, H'.lt b hb⟩
  · rcases hb with h | h
    · exact Nat.lt_of_lt_of_le (hlt b h) hk.size
    · exact h.2
  · rcases hb with h | h
    · exact .inl h
    · exact .inr h.1
/-- a machine acts -/
theorem Mch.act {W0 w : World} {O : Nat → Prop} {mc : Nat} {p : Pg} {evs : List (Int × Int)} {S : MS} {told : List Ev} (h : Mch w O mc p evs S told) (hc : CxOk ⟨p, evs, 1⟩) (hm : MemOk S) (ht : told.length ≤ 80000000) (fuel : Int) (hf : fuel ≤ 1000000) (hmade : S.blocks.length + fuel.toNat ≤ 700000) (hevs : evs.length < 1000000)
    (hb : Below W0.heap.size W0 w) (hO : ∀ b, O b → W0.heap.size ≤ b) (a : Ac) (haa : inR a.a) (han : inR a.n) (hal : ∀ n ∈ a.l, inR n) (lv : Value) (hlv : C.IntsV W0 lv a.l) :
    Calls Tryd.prog 16 #[.pointer (some ⟨mc, 0, none⟩), .agg #[.int .i64 a.k, .int .i64 a.a, .int .i64 a.n, lv], .int .i64 fuel] w fun e w' => ∃ o S' evs' told' O', OneRel ⟨p, evs, 1⟩ S told a fuel o S' evs' told' ∧ e = .returned (outV o) ∧ Acted w w' O O' mc p evs' S' told' ∧ MemOk S' ∧ S'.blocks.length ≤ S.blocks.length + 1 + fuel.toNat ∧ told'.length ≤ told.length + 4 * fuel.toNat + 8 ∧ evs'.length ≤ evs.length + 1 ∧ CxOk ⟨p, evs', 1⟩ := by
  obtain ⟨w0, L, rfl, H, h1, h2⟩ := h.at_
  have hlv' := hlv
  obtain ⟨oaa, capa, _, _, rfl, -⟩ := hlv
  refine (one_any hc H hm ht fuel hf hmade hevs rfl a haa han hal oaa capa fun w' hk => hlv'.below (M.Kept.below hb hk hb.size fun b hb => hO b (h1 b hb))).mono ?_
  rintro e w' ⟨o, S', evs', told', hR, he, hT, hm', hl', ht', he', hev⟩
  obtain ⟨O', hA⟩ := Mch.turned h.lt h1 h2 hT
  exact ⟨o, S', evs', told', O', hR, he, hA, hm', hl', one_told hc hm hf ht (by omega) hR, he', ⟨hc.pg, hc.b, hev⟩⟩
/-- what a machine told is taken -/
theorem Mch.tell {w : World} {O : Nat → Prop} {mc : Nat} {p : Pg} {evs : List (Int × Int)} {S : MS} {told : List Ev} (h : Mch w O mc p evs S told) :
    Calls Tryd.prog 13 #[.pointer (some ⟨mc, 0, none⟩)] w fun e w' => ∃ O' v B, e = .returned v ∧ Acted w w' O O' mc p evs S [] ∧ w'.ownsRow B 80 4 v told.length (told.flatMap evC) ∧ ∀ b, v.ownBlock = some b → O b := by
  obtain ⟨w0, L, rfl, H, h1, h2⟩ := h.at_
  refine (told_any H).mono ?_
  rintro e w' ⟨rfl, hT, hr⟩
  obtain ⟨O', hA⟩ := Mch.turned h.lt h1 h2 hT
  exact ⟨O', _, _, rfl, hA, hr, fun b hb => h1 b (.inr (.inr (.inr hb)))⟩
theorem Mch.live {w : World} {O : Nat → Prop} {mc : Nat} {p : Pg} {evs : List (Int × Int)} {S : MS} {told : List Ev} (h : Mch w O mc p evs S told) :
    Calls Tryd.prog 15 #[.pointer (some ⟨mc, 0, none⟩)] w fun e w' => e = .returned (.int .i64 S.live) ∧ w' = w := by
  obtain ⟨w0, L, rfl, H, h1, h2⟩ := h.at_
  exact live_any H
/-- a new machine -/
theorem new_mch {w w' : World} {p : Pg} {words : Int} {e : Ending} (hok : PgOk p) (h : NewPost w p words 1 e w') : ∃ mc O, e = .returned (.tuple #[.pointer (some ⟨mc, 0, none⟩), .int .i64 0]) ∧ Below w.heap.size w w' ∧ Mch w' O mc p [] ⟨min (max words 0) 1048576, []⟩ [] ∧ ∀ b, O b → w.heap.size ≤ b := by
  obtain ⟨hb, ⟨hn, _⟩ | ⟨_, w0, mc, mb, he, hM, h1, h2, h3⟩⟩ := h
  · exact absurd hok hn
  · refine ⟨mc, fun b => w.heap.size ≤ b ∧ b < w'.heap.size, he, hb, ⟨⟨w0, newL mc mb, rfl, hM, fun b ho => ?_, h3⟩, fun b h => h.2⟩, fun b h => h.1⟩
    refine ⟨?_, hM.lt b ho⟩
    rcases ho with e | e | e | e
    · exact e ▸ h1
    · rcases e with e | e | ⟨k, l, hk, _⟩
      · exact e ▸ h2
      · cases e
      · simp [MS.at] at hk
    · cases e
    · cases e
end Go.Proofs.YtgpkhdccchpljaaDoor
