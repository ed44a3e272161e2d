/-
  Several texts of the proof in one: KTold, KNote, KStepped. No conditions of their own: each lemma states its own.
-/
import Derived.Test.YtgpkhdccchpljaaDoorKJBegin
import Derived.Test.YtgpkhdccchpljaaDoorCAll
import Derived.Deep.AppendLies
import Derived.Deep.RegionLaw
import Derived.Test.YtgpkhdccchpljaaDoorKJClone
namespace Go.Proofs.YtgpkhdccchpljaaDoor
open Go.RowKit
open M (Wd MS RepAt Owned Kept Turned)

/-- the machine's block is none of the others -/
theorem SesAt.mc_ne {w0 w : World} {L : Ly} {c : Cx} {s : Se} (h : SesAt w0 w L c s) : ¬ Owned L.mb L.lm L.loc s.S L.mc ∧ L.em ≠ some L.mc ∧ L.tv.ownBlock ≠ some L.mc ∧ L.mc ∉ L.rb := by
  obtain ⟨fv, cv, h0, _⟩ := h.mach
  refine ⟨not_owned h.mem (by decide) h0, fun e => ?_, fun e => ?_, fun e => ?_⟩
  · obtain ⟨D, ⟨es, clock, h5, _⟩, _⟩ := h.evs.2 _ e
    rw [h0] at h5; cases h5
  · obtain ⟨_, h1⟩ := own_blk h.told e
    rw [h0] at h1; simp at h1
  · obtain ⟨_, h1⟩ := RunsAt.blk _ _ h.runs _ e
    rw [h0] at h1; simp at h1

/-- the block of what was told is none of the others -/
theorem SesAt.told_ne {w0 w : World} {L : Ly} {c : Cx} {s : Se} (h : SesAt w0 w L c s) {b : Nat} (hb : L.tv.ownBlock = some b) : b ≠ L.mc ∧ b ≠ L.sk ∧ ¬ Owned L.mb L.lm L.loc s.S b ∧ L.em ≠ some b ∧ b ∉ L.rb := by
  obtain ⟨_, h0⟩ := own_blk h.told hb
  refine ⟨fun e => h.mc_ne.2.2.1 (e ▸ hb), fun e => h.ses_ne.2.2.2.1 (e ▸ hb), not_owned h.mem (by decide) h0, fun e => ?_, fun e => ?_⟩
  · obtain ⟨D, ⟨es, clock, h5, _⟩, _⟩ := h.evs.2 _ e
    rw [h0] at h5; cases h5
  · obtain ⟨_, h1⟩ := RunsAt.blk _ _ h.runs _ e
    rw [h0] at h1; simp at h1

/-- one more event is told -/
theorem SesAt.tell {w0 w w' : World} {L : Ly} {c : Cx} {s : Se} (h : SesAt w0 w L c s) (e : Ev) (v' : Value) (hb : Under w0 w')
    (hm : ∀ fv cv, w.heap[L.mc]? = some (.cells #[fv, cv, .pointer (some ⟨L.mb, 0, none⟩), .map L.em, L.tv] 62) → w'.heap[L.mc]? = some (.cells #[fv, cv, .pointer (some ⟨L.mb, 0, none⟩), .map L.em, v'] 62))
    (hv : w'.ownsRow w0.heap.size 80 4 v' (s.told ++ [e]).length ((s.told ++ [e]).flatMap evC))
    (hvo : ∀ b, v'.ownBlock = some b → L.tv.ownBlock = some b ∨ w.heap.size ≤ b)
    (hk : ∀ b, b ≠ L.mc → L.tv.ownBlock ≠ some b → b < w.heap.size → w'.heap[b]? = w.heap[b]?) : SesAt w0 w' { L with tv := v' } c { s with told := s.told ++ [e] } := by
  obtain ⟨m1, m2, m3, m4⟩ := h.mc_ne
  obtain ⟨n1, n2, n3, n4, n5⟩ := h.ses_ne
  obtain ⟨fv, cv, h1, h2⟩ := h.mach
  have hlt := h.lt
  have hK : ∀ b, Own L s.S b → b ≠ L.mc → L.tv.ownBlock ≠ some b → w'.heap[b]? = w.heap[b]? := fun b ho h3 h4 => hk b h3 h4 (hlt b ho)
  refine ⟨⟨fv, cv, hm _ _ h1, h2⟩, (hK _ (.inr (.inl rfl)) (Ne.symm n1) n4).trans h.ses, h.mem.keep fun b ho => hK b (.inr (.inr (.inl ho))) (fun e => m1 (e ▸ ho)) fun e => (h.told_ne e).2.2.1 ho,
    hv, RunsAt.keep _ _ h.runs fun b ho => hK b (.inr (.inr (.inr (.inr (.inr ho))))) (fun e => m4 (e ▸ ho)) fun e => (h.told_ne e).2.2.2.2 ho, hb, ?_, h.apart, h.evs.1, fun b ho => ?_⟩
  · rintro b (rfl | rfl | ho | ho | ho | ho)
    · exact h.own _ (.inl rfl)
    · exact h.own _ (.inr (.inl rfl))
    · exact h.own _ (.inr (.inr (.inl ho)))
    · exact h.own _ (.inr (.inr (.inr (.inl ho))))
    · rcases hvo b ho with h5 | h5
      · exact h.own _ (.inr (.inr (.inr (.inr (.inl h5)))))
      · exact free_of_ge (Nat.le_trans h.below.size h5)
    · exact h.own _ (.inr (.inr (.inr (.inr (.inr ho)))))
  · obtain ⟨D, ⟨es, clock, h5, h6⟩, h7⟩ := h.evs.2 b ho
    exact ⟨D, ⟨es, clock, (hK b (.inr (.inr (.inr (.inl ho)))) (fun e => m2 (e ▸ ho)) fun e => (h.told_ne e).2.2.2.1 ho).trans h5, h6⟩, h7⟩

/-- so does a call that tells one event -/
theorem Turns.tell {w0 w w' : World} {L : Ly} {c : Cx} {s : Se} (e : Ev) (v' : Value) (hs : SesAt w0 w' { L with tv := v' } c { s with told := s.told ++ [e] })
    (hvo : ∀ b, v'.ownBlock = some b → L.tv.ownBlock = some b ∨ w.heap.size ≤ b) (os : w'.os = w.os) (tape : w'.tape = w.tape) (output : w'.output = w.output) (size : w.heap.size ≤ w'.heap.size)
    (hk : ∀ b, b ≠ L.mc → L.tv.ownBlock ≠ some b → b < w.heap.size → w'.heap[b]? = w.heap[b]?) : Turns w0 w w' L c s { s with told := s.told ++ [e] } := by
  refine ⟨{ L with tv := v' }, rfl, rfl, rfl, rfl, hs, ?_, ⟨os, tape, output, size, fun b hl hn => hk b (fun e => hn (e ▸ .inl rfl)) (fun e => hn (.inr (.inr (.inr (.inr (.inl e)))))) hl⟩⟩
  rintro b (rfl | rfl | ho | ho | ho | ho)
  · exact .inl (.inl rfl)
  · exact .inl (.inr (.inl rfl))
  · exact .inl (.inr (.inr (.inl ho)))
  · exact .inl (.inr (.inr (.inr (.inl ho))))
  · rcases hvo b ho with h5 | h5
    · exact .inl (.inr (.inr (.inr (.inr (.inl h5)))))
    · exact .inr h5
  · exact .inl (.inr (.inr (.inr (.inr (.inr ho)))))
end Go.Proofs.YtgpkhdccchpljaaDoor

namespace Go.Proofs.YtgpkhdccchpljaaDoor
open Go.RowKit
open M (Wd MS RepAt Owned Kept Turned)

theorem info80 : (Tryd.prog.info? 80).map (fun i => (i.zero, i.size, i.bytes)) = some (some (.agg #[.int .i64 0, .int .i64 0, .int .i64 0, .int .i64 0]), 4, 32) := by kernel_rfl

/-- one more event is told: as append and a store leave it -/
theorem tell_grown {w0 w w2 w3 : World} {L : Ly} {c : Cx} {s : Se} (h : SesAt w0 w L c s) (hb : Below w.heap.size w w2) (e : Ev) (g cap : Nat) (hown : w3.ownsRow w0.heap.size 80 4 (.slice (some ⟨g, 0, none⟩) (s.told.length + 1) cap) (s.told.length + 1) (s.told.flatMap evC ++ evC e))
    (hg : w2.grownBy w3 L.tv.ownBlock) (hgo : L.tv.ownBlock = some g ∨ g = w2.heap.size) :
    (∃ u, w3.cell? ⟨L.mc, 4, none⟩ = some u) ∧ w3.frozen? ⟨L.mc, 4, none⟩ = false ∧ w3.cell? ⟨L.sk, 0, none⟩ = some (.pointer (some ⟨L.mc, 0, none⟩)) ∧ Turns w0 w (w3.setCell ⟨L.mc, 4, none⟩ (.slice (some ⟨g, 0, none⟩) (s.told.length + 1) cap)) L c s (s.note e) := by
  have h2 := h.under hb
  obtain ⟨fv, cv, hm, -⟩ := h2.mach
  have hml := h2.lt _ (.inl rfl)
  have hm3 := (hg.block L.mc hml (fun e => h2.mc_ne.2.2.1 e.symm)).trans hm
  have hk2 : ∀ b, b ≠ L.mc → L.tv.ownBlock ≠ some b → b < w2.heap.size → (w3.setCell ⟨L.mc, 4, none⟩ (.slice (some ⟨g, 0, none⟩) (s.told.length + 1) cap)).heap[b]? = w2.heap[b]? := fun b h1 h3 hl =>
    (Below.heap_setCell _ _ _ _ h1).trans (hg.block b hl (fun e => h3 e.symm))
  have hsz : w2.heap.size ≤ (w3.setCell ⟨L.mc, 4, none⟩ (.slice (some ⟨g, 0, none⟩) (s.told.length + 1) cap)).heap.size := by simp [World.setCell]; exact hg.size
  have hss := h2.ses
  rw [sesC] at hss
  have hs3 := (hg.block L.sk (h2.lt _ (.inr (.inl rfl))) (fun e => h2.ses_ne.2.2.2.1 e.symm)).trans hss
  refine ⟨⟨L.tv, by simp [World.cell?, hm3]⟩, by simp [World.frozen?, hm3], by simp [World.cell?, hs3], ?_⟩
  refine Turns.under hb (Turns.tell e (.slice (some ⟨g, 0, none⟩) (s.told.length + 1) cap) (h2.tell e _ ?_ ?_ ?_ ?_ hk2) ?_ ?_ ?_ ?_ hsz hk2)
  · exact h2.below.next hsz fun b hl hf => hk2 b (fun e => hf (e ▸ h2.own _ (.inl rfl))) (fun e => hf (h2.own b (.inr (.inr (.inr (.inr (.inl e))))))) hl
  · intro fv' cv' h5
    have h6 := (hg.block L.mc hml (fun e => h2.mc_ne.2.2.1 e.symm)).trans h5
    have := heap_setCell_same w3 L.mc 4 _ 62 (.slice (some ⟨g, 0, none⟩) (s.told.length + 1) cap) h6
    simpa using this
  · have e1 : (s.told ++ [e]).length = s.told.length + 1 := by simp
    rw [e1, List.flatMap_append, List.flatMap_singleton]
    exact C.row_setCell hown hm3 (by decide) _
  · intro b hb'
    obtain rfl : g = b := by simpa [Value.ownBlock] using hb'
    rcases hgo with h1 | h1
    · exact .inl h1
    · exact .inr (by omega)
  · intro b hb'
    obtain rfl : g = b := by simpa [Value.ownBlock] using hb'
    rcases hgo with h1 | h1
    · exact .inl h1
    · exact .inr (by omega)
  · exact hg.os
  · exact hg.tape
  · exact hg.output

set_option maxRecDepth 100000 in
set_option maxHeartbeats 4000000 in
theorem note_any {w0 w : World} {L : Ly} {c : Cx} {s : Se} (H : SesAt w0 w L c s) (hlen : s.told.length < 100000000) (k t a n : Int) :
    Calls Tryd.prog 81 #[.pointer (some ⟨L.sk, 0, none⟩), .agg #[.int .i64 k, .int .i64 t, .int .i64 a, .int .i64 n]] w fun e w' => e = .returned (.tuple #[]) ∧ Turns w0 w w' L c s (s.note ⟨k, c.task, a, n⟩) := by
  obtain ⟨i80, hi80, hz80, hs80, hb80⟩ := info_parts info80
  obtain ⟨W, hW⟩ : ∃ W, W = w.alloc (.cells #[.int .i64 k, .int .i64 t, .int .i64 a, .int .i64 n] 80) := ⟨_, rfl⟩
  have hbW : Below w.heap.size w W := by rw [hW]; exact C.alloc_below _ _
  have hx : W.heap[w.heap.size]? = some (.cells #[.int .i64 k, .int .i64 t, .int .i64 a, .int .i64 n] 80) := by rw [hW, heap_alloc_new]
  have HS := H.under hbW
  have hses := HS.ses
  rw [sesC] at hses
  obtain ⟨z0, z1, z2, z3, zf, zl⟩ := cells4m hses
  obtain ⟨x0, x1, x2, x3, xf, xl⟩ := cells4m hx
  have hsl := H.lt L.sk (.inr (.inl rfl))
  have hne1 : w.heap.size ≠ L.sk := Nat.ne_of_gt hsl
  have hne2 : L.sk ≠ w.heap.size := Nat.ne_of_lt hsl
  have HW := Lib.hid hbW
  have HX := Lib.hid hx
  have HH := Lib.hid H
  have hw00 := H.below.size
  obtain ⟨B, hB⟩ : ∃ B, B = w.heap.size := ⟨_, rfl⟩
  obtain ⟨tk, htk⟩ : ∃ tk, tk = c.task := ⟨_, rfl⟩
  go_enter Tryd.func81, Tryd.ntmps81
  go_upto_region 1 with fail
  rw [← hW]
  rw [← htk] at z1
  clear hW hbW hx HS hses H
  rw [← hB] at x0 x1 x2 x3 xl hne1 hne2 HX
  simp only [← hB] at xf ⊢
  have hbw : w.heap.size ≤ B := Nat.le_of_eq hB.symm
  replace hB := Lib.hid hB
  replace htk := Lib.hid htk
  go_upto_region 2 with fail
  have hb2 : Below w.heap.size w (W.setCell ⟨B, 1, none⟩ (.int .i64 tk)) := HW.out.setCell hbw _
  have hx2 : (W.setCell ⟨B, 1, none⟩ (.int .i64 tk)).heap[B]? = some (.cells #[.int .i64 k, .int .i64 tk, .int .i64 a, .int .i64 n] 80) := by
    rw [heap_setCell_same W B 1 _ 80 _ HX.out]; rfl
  clear z0 z1 z2 z3 zf zl x0 x1 x2 x3 xf xl hne1 hne2
  generalize W.setCell ⟨B, 1, none⟩ (.int .i64 tk) = W2 at hb2 hx2 ⊢
  have H2 := HH.out.under hb2
  have hses := H2.ses
  rw [sesC] at hses
  obtain ⟨fv, cv, hm, -⟩ := H2.mach
  obtain ⟨z0, z1, z2, z3, zf, zl⟩ := cells4m hses
  obtain ⟨x0, x1, x2, x3, xf, xl⟩ := cells4m hx2
  obtain ⟨y0, y1, y2, y3, y4, yf, yl⟩ := cells5 hm
  obtain ⟨tv, htv⟩ : ∃ tv, tv = L.tv := ⟨_, rfl⟩
  obtain ⟨Ln, hLn⟩ : ∃ Ln, Ln = s.told.length := ⟨_, rfl⟩
  have hrow := H2.told
  rw [← htv, ← hLn] at hrow
  rw [← htv] at y4
  obtain ⟨oat, capt, htvs⟩ : ∃ oat capt, tv = .slice oat Ln capt := by
    rcases hrow.2 with ⟨rfl, h0⟩ | ⟨g, cap, cur, rfl, -⟩
    · exact ⟨_, _, by subst h0; rfl⟩
    · exact ⟨_, _, rfl⟩
  have hfin : ∀ g cap (w' : World), w'.ownsRow w0.heap.size 80 4 (.slice (some ⟨g, 0, none⟩) (Ln + 1) cap) (Ln + 1) (s.told.flatMap evC ++ [.int .i64 k, .int .i64 tk, .int .i64 a, .int .i64 n]) → (W2.alloc (.cells #[.int .i64 k, .int .i64 tk, .int .i64 a, .int .i64 n] 80)).drew.grownBy w' tv.ownBlock → (tv.ownBlock = some g ∨ g = W2.heap.size + 1) →
      (∃ u, w'.cell? ⟨L.mc, 4, none⟩ = some u) ∧ w'.frozen? ⟨L.mc, 4, none⟩ = false ∧ w'.cell? ⟨L.sk, 0, none⟩ = some (.pointer (some ⟨L.mc, 0, none⟩)) ∧ Turns w0 w (w'.setCell ⟨L.mc, 4, none⟩ (.slice (some ⟨g, 0, none⟩) (Ln + 1) cap)) L c s (s.note ⟨k, c.task, a, n⟩) := by
    intro g cap w' ho hg hgo
    rw [htk.out] at ho
    rw [htv] at hg hgo
    rw [hLn] at ho ⊢
    exact tell_grown HH.out (hb2.trans (((C.alloc_below W2 (.cells #[.int .i64 k, .int .i64 tk, .int .i64 a, .int .i64 n] 80)).drew).mono hb2.size)) ⟨k, c.task, a, n⟩ g cap ho hg (by simpa [World.drew] using hgo)
  have HF := Lib.hid hfin
  have hn5 : ∀ j u, [Value.int .i64 k, .int .i64 tk, .int .i64 a, .int .i64 n][j]? = some u → (W2.alloc (.cells #[.int .i64 k, .int .i64 tk, .int .i64 a, .int .i64 n] 80)).drew.cell? ((⟨W2.heap.size, 0, none⟩ : Addr).add j) = some u := C.new_cells W2 [.int .i64 k, .int .i64 tk, .int .i64 a, .int .i64 n] 80 _ rfl
  have hrow5 : (W2.alloc (.cells #[.int .i64 k, .int .i64 tk, .int .i64 a, .int .i64 n] 80)).drew.ownsRow w0.heap.size 80 4 tv Ln (s.told.flatMap evC) := by
    have := own_keep (w' := (W2.alloc (.cells #[.int .i64 k, .int .i64 tk, .int .i64 a, .int .i64 n] 80)).drew) hrow (fun b hb => Below.heap_alloc _ _ _ (by
      obtain ⟨_, h1⟩ := own_blk hrow hb
      exact (Array.getElem?_eq_some_iff.1 h1).1))
    exact this
  have hbase : w0.heap.size ≤ W2.heap.size := H2.below.size
  have hL8 : Ln < 100000000 := by omega
  replace hrow5 := Lib.hid hrow5
  replace hn5 := Lib.hid hn5
  clear hrow hfin hm hses H2 hb2 hx2 hLn htv HX hw00
  subst htvs
  go_region_law (refine step_append_lies _ rfl (.tmp 19) (.tmp 21) 48 rfl w0.heap.size 80 i80 _ 4 32 Tryd.underlying48 hi80 hz80 hs80 hb80 rfl (by decide) (.slice oat Ln capt) Ln (s.told.flatMap evC) (by simp [Act.eval]) (by exact hrow5.out) ⟨W2.heap.size, 0, none⟩ 1 1 [.int .i64 k, .int .i64 tk, .int .i64 a, .int .i64 n] (by simp [Act.eval]) rfl (by exact hn5.out) (by intro u hu; simp at hu; rcases hu with rfl | rfl | rfl | rfl <;> rfl) (by decide) (by unfold maxLen; omega) (by omega) (by simp [World.drew]; omega) _ rfl ?_; intro g cap w' hown' hgrow hgo _; have hf' := HF.out _ _ _ hown' hgrow (by simpa [World.drew] using hgo); obtain ⟨⟨u, f1⟩, f2, f4, f3⟩ := hf'; replace f3 := Lib.hid f3; clear hown' hgrow hgo)
  all_goals
    go_wp2
    go_returns
    exact ⟨rfl, f3.out⟩
end Go.Proofs.YtgpkhdccchpljaaDoor

namespace Go.Proofs.YtgpkhdccchpljaaDoor
open Go.RowKit
open M (Wd MS RepAt Owned Kept Turned)
open C (In)

theorem Turns.after {w0 w w1 w2 : World} {L L1 : Ly} {c : Cx} {s s1 s2 : Se} (e1 : L1.mc = L.mc) (e2 : L1.sk = L.sk) (e3 : L1.mb = L.mb) (e4 : L1.em = L.em) (h2 : ∀ b, Own L1 s1.S b → Own L s.S b ∨ w.heap.size ≤ b) (h3 : Kept (Own L s.S) w w1) (h' : Turns w0 w1 w2 L1 c s1 s2) : Turns w0 w w2 L c s s2 := by
  obtain ⟨L2, f1, f2, f3, f4, g1, g2, g3⟩ := h'
  refine ⟨L2, f1.trans e1, f2.trans e2, f3.trans e3, f4.trans e4, g1, fun b hb => ?_, kept_trans h3 g3 h2⟩
  rcases g2 b hb with h5 | h5
  · exact h2 b h5
  · exact .inr (Nat.le_trans h3.size h5)
/-- a local of the caller behind a call: made after the world w -/
theorem Turns.loc {w0 w w1 w2 : World} {L : Ly} {c : Cx} {s s1 s' : Se} (h1 : Turns w0 w w1 L c s s1) (h : ∀ L1, L1.sk = L.sk → SesAt w0 w1 L1 c s1 → Turns w0 w1 w2 L1 c s1 s') {t : TypeId} (ht : Loc t) {b : Nat} {cs : Array Value} (hb : w1.heap[b]? = some (.cells cs t)) : w2.heap[b]? = some (.cells cs t) := by
  obtain ⟨L1, e1, e2, e3, e4, H1, _, _⟩ := h1
  exact (h L1 e2 H1).local H1 ht hb

/-- what a step of a coroutine leaves -/
def steppedR (c : Cx) (s : Se) (r : Ru) (rs : List Ru) (x : In) (o : Out) : Se :=
  { (if o.k = 0 then s.note ⟨5, c.task, 0, o.n⟩ else s) with rs := r.put x.a (nm (if o.k = 2 then 0 else 1)) :: rs }

set_option maxRecDepth 100000 in
set_option maxHeartbeats 4000000 in
theorem stepped_any {w0 w : World} {L : Ly} {c : Cx} {s : Se} {r : Ru} {rs : List Ru} (H : SesAt w0 w L c s) (hrs : s.rs = r :: rs) (hlen : s.told.length < 100000000) (x : In) (lv : Value) (hlv : C.IntsV w0 lv x.l) (hA : 0 ≤ x.a ∧ x.a < 16) (o : Out) :
    Calls Tryd.prog 64 #[.pointer (some ⟨L.sk, 0, none⟩), .agg #[.int .i64 x.op, .int .i64 x.a, .int .i64 x.b, .int .i64 x.c, lv], .agg #[.int .i64 o.k, .int .i64 o.n]] w fun e w' => e = .returned (outV on) ∧ Turns w0 w w' L c s (steppedR c s r rs x o) := by
  obtain ⟨oal, capl, bl, ol, rfl, -, -, -, -⟩ := hlv
  obtain ⟨i, hi⟩ : ∃ i : Nat, x.a = i := ⟨x.a.toNat, by omega⟩
  have hi16 : i < 16 := by omega
  have hi17 : (i : Int) < 16 := by omega
  have HI := Lib.hid hi
  rw [hi]
  obtain ⟨xop, xb, xc, nl, hxx⟩ : ∃ xop xb xc nl, x.op = xop ∧ x.b = xb ∧ x.c = xc ∧ x.l.length = nl := ⟨_, _, _, _, rfl, rfl, rfl, rfl⟩
  obtain ⟨hx1', hx2', hx3', hx4'⟩ := hxx
  rw [hx1', hx2', hx3', hx4']
  clear hx1' hx2' hx3' hx4' hi hA
  obtain ⟨W, hW⟩ : ∃ W, W = ((w.alloc (.cells #[.int .i64 xop, .int .i64 i, .int .i64 xb, .int .i64 xc, .slice oal nl capl] 84)).alloc (.cells #[.int .i64 o.k, .int .i64 o.n] 41)).alloc (.cells #[.int .i64 0, .int .i64 0] 41) := ⟨_, rfl⟩
  obtain ⟨hbW, hx0, hx1, hx2⟩ := al3 w (.cells #[.int .i64 xop, .int .i64 i, .int .i64 xb, .int .i64 xc, .slice oal nl capl] 84) (.cells #[.int .i64 o.k, .int .i64 o.n] 41) (.cells #[.int .i64 0, .int .i64 0] 41)
  rw [← hW] at hbW hx0 hx1 hx2
  have HS := H.under hbW
  obtain ⟨B, hB⟩ : ∃ B, B = w.heap.size := ⟨_, rfl⟩
  have hBw : w.heap.size ≤ B := Nat.le_of_eq hB.symm
  rw [← hB] at hx0 hx1 hx2
  have hBl : B < W.heap.size := (Array.getElem?_eq_some_iff.1 hx0).1
  have hw00 := H.below.size
  go_enter Tryd.func64, Tryd.ntmps64
  go_upto_region 1 with fail
  rw [← hW]
  simp only [← hB]
  clear hW
  replace hB := Lib.hid hB
  have HW := Lib.hid hbW
  have HX0 := Lib.hid hx0
  have HX1 := Lib.hid hx1
  have HX2 := Lib.hid hx2
  have HRS := Lib.hid hrs
  have HHS := Lib.hid HS
  obtain ⟨x0, x1, x2, x3, x4, xf, xl⟩ := cells5 hx0
  obtain ⟨o0, o1, of, ol'⟩ := cells2 hx1
  have hT0 : Hid (Turns w0 w W L c s s) := Lib.hid (Turns.same H hbW)
  have HH := Lib.hid H
  clear hx0 hx1 hx2 HS hbW H hrs
  by_cases h2 : o.k = 2
  · have t0 : (o.k == 2) = true := by simpa using h2
    have hst : Hid (steppedR c s r rs x o = { (s) with rs := r.put i (nm 0) :: rs }) := Lib.hid (by rw [steppedR, HI.out, if_neg (by omega), if_pos h2])
    have hT1 := hT0
    have HXX := Lib.hid (And.intro HX0.out HX2.out)
    clear h2
    go_upto_region 7 with fail
    clear x0 x1 x2 x3 x4 xf xl o0 o1 of ol'
    obtain ⟨L1, e1, e2, e3, e4, H1, o1', k1⟩ := hT1.out
    obtain ⟨b, bs, hrb⟩ := H1.rb_cons (show (s).rs = r :: rs from HRS.out)
    obtain ⟨fv, hrun, -, hrl⟩ := H1.run (show (s).rs = r :: rs from HRS.out) hrb
    obtain ⟨z0, z1, z2, z3, zf, zl⟩ := H1.ses4 hrb
    rw [e2] at z0 z1 z2 z3 zl
    simp only [e2] at zf
    obtain ⟨c0, c1, c2, cf, cl⟩ := reg_cells hrun hrl i hi16
    have hX0 := HXX.out.1
    have hX2 := HXX.out.2
    obtain ⟨x0, x1, x2, x3, x4, xf, xl⟩ := cells5 hX0
    have hne : B + 2 ≠ b := fun e => H1.not_own (t := 41) (by unfold Loc; decide) (e ▸ hX2) (.inr (.inr (.inr (.inr (.inr (by rw [hrb]; simp))))))
    have hTP := Lib.hid (Turns.drew (Turns.after e1 e2 e3 e4 o1' k1 (Turns.regput H1 (show (s).rs = r :: rs from HRS.out) hrb i hi16 (nm 0))))
    have hrr := Lib.hid ((put3_other (y := nm 0) (i := i) hne).trans hX2)
    clear H1 o1' k1 hrun hrl hrb hX0 hX2 hne e1 e2 e3 e4
    go_region
    have hTW := hTP.out
    have hr2 := hrr.out
    rw [show put3 W b i (nm 0) = ((W.setCell ⟨b, 6 + i * 3, none⟩ (.bool false)).setCell ⟨b, 6 + i * 3 + 1, none⟩ (.int .i64 0)).setCell ⟨b, 6 + i * 3 + 2, none⟩ (.int .i64 0) from rfl] at hTW hr2
    clear hTP hrr z0 z1 z2 z3 zf zl c0 c1 c2 cf cl x0 x1 x2 x3 x4 xf xl
    replace hr2 : (((W.setCell ⟨b, 6 + i * 3, none⟩ (.bool false)).setCell ⟨b, 6 + i * 3 + 1, none⟩ (.int .i64 0)).setCell ⟨b, 6 + i * 3 + 2, none⟩ (.int .i64 0)).drew.heap[B + 2]? = some (.cells #[.int .i64 0, .int .i64 0] 41) := hr2
    generalize (((W.setCell ⟨b, 6 + i * 3, none⟩ (.bool false)).setCell ⟨b, 6 + i * 3 + 1, none⟩ (.int .i64 0)).setCell ⟨b, 6 + i * 3 + 2, none⟩ (.int .i64 0)).drew = WW at hTW hr2 ⊢
    obtain ⟨hfz, hfin⟩ := Turns.out hTW hw00 (by omega) hr2 (.int .i64 (-1)) (.int .i64 0)
    replace hfz := Lib.hid hfz
    replace hfin := Lib.hid hfin
    obtain ⟨r0, r1, rf, rl⟩ := cells2 hr2
    clear hTW hr2
    go_wp2
    have hf := hfz.out
    clear hfz
    generalize (World.setCell (World.setCell WW _ _) _ _) = WF at hf hfin ⊢
    obtain ⟨q0, q1, qf, ql⟩ := cells2 hf
    exact bodyPost_ret (v := outV on) (by simp [results, Tryd.results64, go_sem, q0, q1, outV, on]) rfl ⟨rfl, by rw [hst.out]; exact hfin.out⟩
  · have t0 : (o.k == 2) = false := by simpa using h2
    by_cases h0 : o.k = 0
    · have t1 : (o.k == 0) = true := by simpa using h0
      have hst : Hid (steppedR c s r rs x o = { (s.note ⟨5, c.task, 0, o.n⟩) with rs := r.put i (nm 1) :: rs }) := Lib.hid (by rw [steppedR, HI.out, if_pos h0, if_neg h2])
      have hnt := Lib.hid (note_any HHS.out hlen 5 0 0 o.n)
      clear h2 h0
      go_upto_region 7 with (go_at_call 81; refine hnt.out.mono ?_; rintro e W1 ⟨rfl, hT1'⟩; have HT1 := Lib.hid hT1'; clear hT1')
      have hT1 := Lib.hid (Turns.under HW.out HT1.out)
      have HXX := Lib.hid (And.intro (HT1.out.local HHS.out (t := 84) (by unfold Loc; decide) HX0.out) (HT1.out.local HHS.out (t := 41) (by unfold Loc; decide) HX2.out))
      clear x0 x1 x2 x3 x4 xf xl o0 o1 of ol'
      obtain ⟨L1, e1, e2, e3, e4, H1, o1', k1⟩ := hT1.out
      obtain ⟨b, bs, hrb⟩ := H1.rb_cons (show (s.note ⟨5, c.task, 0, o.n⟩).rs = r :: rs from HRS.out)
      obtain ⟨fv, hrun, -, hrl⟩ := H1.run (show (s.note ⟨5, c.task, 0, o.n⟩).rs = r :: rs from HRS.out) hrb
      obtain ⟨z0, z1, z2, z3, zf, zl⟩ := H1.ses4 hrb
      rw [e2] at z0 z1 z2 z3 zl
      simp only [e2] at zf
      obtain ⟨c0, c1, c2, cf, cl⟩ := reg_cells hrun hrl i hi16
      have hX0 := HXX.out.1
      have hX2 := HXX.out.2
      obtain ⟨x0, x1, x2, x3, x4, xf, xl⟩ := cells5 hX0
      have hne : B + 2 ≠ b := fun e => H1.not_own (t := 41) (by unfold Loc; decide) (e ▸ hX2) (.inr (.inr (.inr (.inr (.inr (by rw [hrb]; simp))))))
      have hTP := Lib.hid (Turns.drew (Turns.after e1 e2 e3 e4 o1' k1 (Turns.regput H1 (show (s.note ⟨5, c.task, 0, o.n⟩).rs = r :: rs from HRS.out) hrb i hi16 (nm 1))))
      have hrr := Lib.hid ((put3_other (y := nm 1) (i := i) hne).trans hX2)
      clear H1 o1' k1 hrun hrl hrb hX0 hX2 hne e1 e2 e3 e4
      go_region
      have hTW := hTP.out
      have hr2 := hrr.out
      rw [show put3 W1 b i (nm 1) = ((W1.setCell ⟨b, 6 + i * 3, none⟩ (.bool false)).setCell ⟨b, 6 + i * 3 + 1, none⟩ (.int .i64 0)).setCell ⟨b, 6 + i * 3 + 2, none⟩ (.int .i64 1) from rfl] at hTW hr2
      clear hTP hrr z0 z1 z2 z3 zf zl c0 c1 c2 cf cl x0 x1 x2 x3 x4 xf xl
      replace hr2 : (((W1.setCell ⟨b, 6 + i * 3, none⟩ (.bool false)).setCell ⟨b, 6 + i * 3 + 1, none⟩ (.int .i64 0)).setCell ⟨b, 6 + i * 3 + 2, none⟩ (.int .i64 1)).drew.heap[B + 2]? = some (.cells #[.int .i64 0, .int .i64 0] 41) := hr2
      generalize (((W1.setCell ⟨b, 6 + i * 3, none⟩ (.bool false)).setCell ⟨b, 6 + i * 3 + 1, none⟩ (.int .i64 0)).setCell ⟨b, 6 + i * 3 + 2, none⟩ (.int .i64 1)).drew = WW at hTW hr2 ⊢
      obtain ⟨hfz, hfin⟩ := Turns.out hTW hw00 (by omega) hr2 (.int .i64 (-1)) (.int .i64 0)
      replace hfz := Lib.hid hfz
      replace hfin := Lib.hid hfin
      obtain ⟨r0, r1, rf, rl⟩ := cells2 hr2
      clear hTW hr2
      go_wp2
      have hf := hfz.out
      clear hfz
      generalize (World.setCell (World.setCell WW _ _) _ _) = WF at hf hfin ⊢
      obtain ⟨q0, q1, qf, ql⟩ := cells2 hf
      exact bodyPost_ret (v := outV on) (by simp [results, Tryd.results64, go_sem, q0, q1, outV, on]) rfl ⟨rfl, by rw [hst.out]; exact hfin.out⟩
    · have t1 : (o.k == 0) = false := by simpa using h0
      have hst : Hid (steppedR c s r rs x o = { (s) with rs := r.put i (nm 1) :: rs }) := Lib.hid (by rw [steppedR, HI.out, if_neg h0, if_neg h2])
      have hT1 := hT0
      have HXX := Lib.hid (And.intro HX0.out HX2.out)
      clear h2 h0
      go_upto_region 7 with fail
      clear x0 x1 x2 x3 x4 xf xl o0 o1 of ol'
      obtain ⟨L1, e1, e2, e3, e4, H1, o1', k1⟩ := hT1.out
      obtain ⟨b, bs, hrb⟩ := H1.rb_cons (show (s).rs = r :: rs from HRS.out)
      obtain ⟨fv, hrun, -, hrl⟩ := H1.run (show (s).rs = r :: rs from HRS.out) hrb
      obtain ⟨z0, z1, z2, z3, zf, zl⟩ := H1.ses4 hrb
      rw [e2] at z0 z1 z2 z3 zl
      simp only [e2] at zf
      obtain ⟨c0, c1, c2, cf, cl⟩ := reg_cells hrun hrl i hi16
      have hX0 := HXX.out.1
      have hX2 := HXX.out.2
      obtain ⟨x0, x1, x2, x3, x4, xf, xl⟩ := cells5 hX0
      have hne : B + 2 ≠ b := fun e => H1.not_own (t := 41) (by unfold Loc; decide) (e ▸ hX2) (.inr (.inr (.inr (.inr (.inr (by rw [hrb]; simp))))))
      have hTP := Lib.hid (Turns.drew (Turns.after e1 e2 e3 e4 o1' k1 (Turns.regput H1 (show (s).rs = r :: rs from HRS.out) hrb i hi16 (nm 1))))
      have hrr := Lib.hid ((put3_other (y := nm 1) (i := i) hne).trans hX2)
      clear H1 o1' k1 hrun hrl hrb hX0 hX2 hne e1 e2 e3 e4
      go_region
      have hTW := hTP.out
      have hr2 := hrr.out
      rw [show put3 W b i (nm 1) = ((W.setCell ⟨b, 6 + i * 3, none⟩ (.bool false)).setCell ⟨b, 6 + i * 3 + 1, none⟩ (.int .i64 0)).setCell ⟨b, 6 + i * 3 + 2, none⟩ (.int .i64 1) from rfl] at hTW hr2
      clear hTP hrr z0 z1 z2 z3 zf zl c0 c1 c2 cf cl x0 x1 x2 x3 x4 xf xl
      replace hr2 : (((W.setCell ⟨b, 6 + i * 3, none⟩ (.bool false)).setCell ⟨b, 6 + i * 3 + 1, none⟩ (.int .i64 0)).setCell ⟨b, 6 + i * 3 + 2, none⟩ (.int .i64 1)).drew.heap[B + 2]? = some (.cells #[.int .i64 0, .int .i64 0] 41) := hr2
      generalize (((W.setCell ⟨b, 6 + i * 3, none⟩ (.bool false)).setCell ⟨b, 6 + i * 3 + 1, none⟩ (.int .i64 0)).setCell ⟨b, 6 + i * 3 + 2, none⟩ (.int .i64 1)).drew = WW at hTW hr2 ⊢
      obtain ⟨hfz, hfin⟩ := Turns.out hTW hw00 (by omega) hr2 (.int .i64 (-1)) (.int .i64 0)
      replace hfz := Lib.hid hfz
      replace hfin := Lib.hid hfin
      obtain ⟨r0, r1, rf, rl⟩ := cells2 hr2
      clear hTW hr2
      go_wp2
      have hf := hfz.out
      clear hfz
      generalize (World.setCell (World.setCell WW _ _) _ _) = WF at hf hfin ⊢
      obtain ⟨q0, q1, qf, ql⟩ := cells2 hf
      exact bodyPost_ret (v := outV on) (by simp [results, Tryd.results64, go_sem, q0, q1, outV, on]) rfl ⟨rfl, by rw [hst.out]; exact hfin.out⟩
end Go.Proofs.YtgpkhdccchpljaaDoor
