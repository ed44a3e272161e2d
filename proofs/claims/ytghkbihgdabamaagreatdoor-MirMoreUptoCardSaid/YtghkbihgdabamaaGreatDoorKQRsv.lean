/-
  Several texts of the proof in one: QResolve, QRsv. No conditions of their own: each lemma states its own.
-/
import Derived.Test.YtghkbihgdabamaaGreatDoorKQChain
import Derived.Deep.LoopGhost
namespace Go.Proofs.YtghkbihgdabamaaGreatDoor
open Go.RowKit

theorem meantO_i64 {s : So5} {k : Int} {nm : ByteArray} {hh : Hd} {l : List Ty5} (h : I64 k) : I64 (meantO s (.mk k nm hh l)).1 := by
  unfold meantO
  simp only
  split
  · unfold I64; omega
  · exact h
theorem innerO_i64 {s : So5} {k : Int} {nm : ByteArray} {hh : Hd} {l : List Ty5} (h : I64 k) : I64 (innerO s (.mk k nm hh l)).1 := by
  unfold innerO
  simp only
  split
  · unfold I64; omega
  · split
    · split
      · exact meantO_i64 h
      · unfold I64; omega
    · unfold I64; omega
/-- what resolve answers -/
def ResP (n B : Nat) (w' : World) (R : Int × Ty5) (e : Ending) : Prop := if R.1 = 0 then ∃ y, e = .returned (.tuple #[tyV y, .int .i64 0]) ∧ erTy y = R.2 ∧ TyH n (eb w' B none) y else e = .returned (.tuple #[.agg #[.int .i64 0, .string ⟨#[]⟩, .slice none 0 0], .int .i64 R.1])
set_option maxRecDepth 100000 in
set_option maxHeartbeats 40000000 in
theorem resolve_sr (n n' : Nat) (s : So5) (k : Int) (nm : ByteArray) (h : Hd) (l : List Ty5) (c : Nat) (w : World) (hs : SoH n' w s) (hc : SrAt w s c) (hx : TyH n w (.mk k nm h l)) (hn : tyN (.mk k nm h l) ≤ 1000000) :
    Calls Tryz.prog 113 #[itV s (srF c), tyV (.mk k nm h l)] w fun e w' => Below w.heap.size w w' ∧ ResP n w.heap.size w' (resO s n (.mk k nm h l)) e := by
  obtain ⟨R, hR⟩ : ∃ R, R = resO s n (.mk k nm h l) := ⟨_, rfl⟩
  rw [← hR]
  have hin : ∀ (k1 : Int) (nm1 : ByteArray) (h1 : Hd) (l1 : List Ty5) W, Below w.heap.size w W → Calls Tryz.prog 139 #[itV s (srF c), tyV (.mk k1 nm1 h1 l1)] W fun e w' => e = .returned (.tuple #[.int .i64 (innerO s (.mk k1 nm1 h1 l1)).1, .int .i64 (innerO s (.mk k1 nm1 h1 l1)).2]) ∧ Below W.heap.size W w' := fun k1 nm1 h1 l1 W hW => inner_sr n' s k1 nm1 h1 l1 c W (SoH.below hs hW) (hc.below hW)
  obtain ⟨n1, hn1⟩ : ∃ k, s.structs.length = k := ⟨_, rfl⟩
  obtain ⟨n2, hn2⟩ : ∃ k, s.enums.length = k := ⟨_, rfl⟩
  obtain ⟨n3, hn3⟩ : ∃ k, s.fns.length = k := ⟨_, rfl⟩
  obtain ⟨o1, c1, hh1⟩ : ∃ o c, s.hs = ⟨o, c⟩ := ⟨_, _, rfl⟩
  obtain ⟨o2, c2, hh2⟩ : ∃ o c, s.he = ⟨o, c⟩ := ⟨_, _, rfl⟩
  obtain ⟨o3, c3, hh3⟩ : ∃ o c, s.hf = ⟨o, c⟩ := ⟨_, _, rfl⟩
  obtain ⟨W0, hW⟩ : ∃ W, W = ((w.alloc (.cells #[.slice o1 n1 c1, .slice o2 n2 c2, .slice o3 n3 c3, .func (.func 135) #[] #[.pointer (some ⟨c, 0, none⟩)]] 176)).alloc (.cells #[.int .i64 k, .string nm, .slice h.oa l.length h.cap] 46)).alloc (.cells #[.int .i64 0, .string ⟨#[]⟩, .slice none 0 0] 46) := ⟨_, rfl⟩
  obtain ⟨hb0, hx0, hx1, hx2⟩ := pal3 w (.cells #[.slice o1 n1 c1, .slice o2 n2 c2, .slice o3 n3 c3, .func (.func 135) #[] #[.pointer (some ⟨c, 0, none⟩)]] 176) (.cells #[.int .i64 k, .string nm, .slice h.oa l.length h.cap] 46) (.cells #[.int .i64 0, .string ⟨#[]⟩, .slice none 0 0] 46)
  rw [← hW] at hb0 hx0 hx1 hx2
  unfold itV srF at hin ⊢
  simp only [hh1, hh2, hh3, hn1, hn2, hn3] at hin ⊢
  have HIN := Lib.hid hin
  have HR := Lib.hid hR
  obtain ⟨N, hN⟩ : ∃ N, N = w.heap.size := ⟨_, rfl⟩
  rw [← hN] at hx0 hx1 hx2
  have HX := Lib.hid (And.intro hx0 (And.intro hx1 hx2))
  have HN := Lib.hid hN
  have HB0 := Lib.hid hb0
  have hTY : ∀ V, Below w.heap.size w V → TyH n V (.mk k nm h l) := fun V hV => TyH.below n hx hV
  have HTY := Lib.hid (And.intro hTY hn)
  have HW0 := Lib.hid (show W0.heap.size = N + 3 by rw [hW, hN]; simp)
  clear hin hR hs hc hx0 hx1 hx2 hb0 hn1 hn2 hn3 hh1 hh2 hh3 hTY hn hx
  unfold tyV tyC
  go_enter Tryz.func113, Tryz.ntmps113
  go_upto_region 1 with fail
  rw [← hW]
  clear hW
  try simp only [← hN]
  clear hN
  go_wp2_with fail
  go_loopg [6] n (fun f u wr => ∃ (ks : List (Int × ByteArray)) (b : Nat) (x : Ty5) (ex : List Value), u = .pointer (some ⟨b, 0, none⟩) ∧ f + ks.length = n ∧ Ch wr (N + 3) (N + 1) b ks ∧ wr.heap[b]? = some (.cells (tyC x ++ ex).toArray 46) ∧ (∀ V, Below w.heap.size w V → TyH f V x) ∧ tyN x ≤ 1000000 ∧ (b = N + 1 ∨ N + 3 ≤ b) ∧ wr.heap[N]? = some (.cells #[.slice o1 n1 c1, .slice o2 n2 c2, .slice o3 n3 c3, .func (.func 135) #[] #[.pointer (some ⟨c, 0, none⟩)]] 176) ∧ wr.heap[N + 1 + 1]? = some (.cells #[.int .i64 0, .string ⟨#[]⟩, .slice none 0 0] 46) ∧ Below w.heap.size w wr ∧ N + 3 ≤ wr.heap.size ∧ R = ((resO s f x).1, wrapT ks (resO s f x).2))
  case atStart => exact ⟨[], N + 1, .mk k nm h l, [], rfl, rfl, .nil _, by rw [List.append_nil]; exact HX.out.2.1, HTY.out.1, HTY.out.2, .inl rfl, HX.out.1, HX.out.2.2, HB0.out, Nat.le_of_eq HW0.out.symm, HR.out⟩
  case round =>
    obtain ⟨ks, b, x, ex, rfl, hf, hch, hbl, hty, htn, hbN, r0, r2, rb, rs, hrr⟩ := hrel
    obtain ⟨f, rfl⟩ : ∃ f, gk = f + 1 := by
      cases gk with
      | zero => exact (hty w (Below.refl _ _)).elim
      | succ f => exact ⟨f, rfl⟩
    obtain ⟨k1, nm1, h1, l1⟩ := x
    have HREL := Lib.hid (And.intro hf (And.intro hch (And.intro hbl (And.intro hty (And.intro htn (And.intro hbN (And.intro r0 (And.intro r2 (And.intro rb (And.intro rs hrr))))))))))
    obtain ⟨q0, q1, q2, qf, ql⟩ := cells_ty hbl
    clear hf hch hbl hty htn hbN r2 rb rs hrr
    cases ha : aroundB k1 with
    | true =>
      have HA := Lib.hid ha
      clear ha r0
      have har : Calls Tryz.prog 138 #[.int .i64 k1] wr fun e w' => e = .returned (.bool true) ∧ w' = wr := by rw [← HA.out]; exact around_any k1 wr
      have HAR := Lib.hid har
      clear har
      by_cases hl1 : l1.length = 1
      · obtain ⟨z, hz⟩ : ∃ z, l1 = [z] := by
          match l1, hl1 with
          | [z], _ => exact ⟨z, rfl⟩
        subst hz
        have hrow := (HREL.out.2.2.2.1 wr HREL.out.2.2.2.2.2.2.2.2.1).2
        have hcl := clone_any h1 [z] _ wr hrow (by simp)
        have HCL := Lib.hid hcl
        clear hcl hrow hl1
        simp only [List.length_cons, List.length_nil, Nat.zero_add] at q2 HCL
        go_upto_region 6 with
          (first
            | (go_at_call 138; refine HAR.out.mono ?_; rintro e w9 ⟨rfl, h9⟩; replace h9 := h9.symm; subst h9)
            | (go_at_call 50; refine HCL.out.mono ?_; rintro e W1 ⟨oa, cc, rfl, hb1, hc1, hc2, hg⟩; obtain ⟨g, ex2, rfl, hg1, hg2⟩ := hg (by omega); have HC := Lib.hid (And.intro hb1 (And.intro hc1 (And.intro hc2 (And.intro hg1 hg2)))); obtain ⟨u0, u1, u2, uf, ul⟩ := cells_ty ((hb1.block b ql).trans HREL.out.2.2.1); clear hb1 hc1 hc2 hg hg1 hg2))
        clear q0 q1 q2 qf u0 u1 u2 uf ul
        obtain ⟨W2, hW2⟩ : ∃ W, W = W1.setCell ⟨b, 2, none⟩ (.slice (some ⟨g, 0, none⟩) 1 cc) := ⟨_, rfl⟩
        rw [← hW2]
        have hblt : b < W1.heap.size := Nat.lt_of_lt_of_le ql HC.out.1.size
        have hn0 : ∀ y, y ≠ b → W2.heap[y]? = W1.heap[y]? := fun y hy => by rw [hW2]; exact Below.heap_setCell _ _ _ _ hy
        have hbb : W2.heap[b]? = some (.cells (tyC (.mk k1 nm1 ⟨some ⟨g, 0, none⟩, cc⟩ [ty0]) ++ ex).toArray 46) := by
          have := heap_setCell_same W1 b 2 _ _ (.slice (some ⟨g, 0, none⟩) 1 cc) ((HC.out.1.block b ql).trans HREL.out.2.2.1)
          rw [hW2]
          simpa [tyC] using this
        have hs2 : W2.heap.size = W1.heap.size := by rw [hW2]; simp [World.setCell]
        have hbge : w.heap.size ≤ b := by have := HN.out; rcases HREL.out.2.2.2.2.2.1 with h | h <;> omega
        have hb2 : Below w.heap.size w W2 := by
          rw [hW2]
          exact (HREL.out.2.2.2.2.2.2.2.2.1.trans (HC.out.1.mono HREL.out.2.2.2.2.2.2.2.2.1.size)).setCell (p := ⟨b, 2, none⟩) hbge _
        have hgz : W2.heap[g]? = some (.cells (tyC z ++ ex2).toArray 46) := by
          have h5 := HC.out.2.2.2.2
          rw [hn0 g (by have := HC.out.2.2.2.1; omega), h5]
          simp
        have HF := Lib.hid (And.intro hn0 (And.intro hbb (And.intro hs2 (And.intro hb2 hgz))))
        clear hn0 hs2 hb2 hgz hW2 hbge
        obtain ⟨u0, u1, u2, uf, ul⟩ := cells_ty hbb
        simp only [List.length_cons, List.length_nil, Nat.zero_add] at u2
        clear hbb hblt
        go_wp2
        go_roundg f
        case measure => omega
        case rel =>
          have hr := HREL.out
          have hf := HF.out
          have hc := HC.out
          have hgb : b < g ∧ N + 3 ≤ g := ⟨by omega, by have := hr.2.2.2.2.2.2.2.2.2.1; omega⟩
          have hbnn : b ≠ N ∧ b ≠ N + 1 + 1 := by rcases hr.2.2.2.2.2.1 with h | h <;> omega
          refine ⟨ks ++ [(k1, nm1)], g, z, ex2, rfl, by rw [List.length_append]; have := hr.1; simp; omega, ?_, hf.2.2.2.2, fun V hV => (hr.2.2.2.1 V hV).2.2.2.2 z (by simp), by have := hr.2.2.2.2.1; rw [tyN, tysN, tysN] at this; omega, .inr hgb.2, ?_, ?_, hf.2.2.2.1, ?_, ?_⟩
          · refine Ch.snoc (hr.2.1.keep fun y h1 h2 => (hf.1 y (by omega)).trans (hc.1.block y (by omega))) hf.2.1 (hr.2.2.2.1 w (Below.refl _ _)).1 ⟨hc.2.1, hc.2.2.1⟩ hgb
          · exact (hf.1 N hbnn.1.symm).trans ((hc.1.block N (blk_lt hr.2.2.2.2.2.2.1)).trans hr.2.2.2.2.2.2.1)
          · exact (hf.1 (N + 1 + 1) hbnn.2.symm).trans ((hc.1.block (N + 1 + 1) (blk_lt hr.2.2.2.2.2.2.2.1)).trans hr.2.2.2.2.2.2.2.1)
          · have := hr.2.2.2.2.2.2.2.2.2.1; have := hc.1.size; rw [hf.2.2.1]; omega
          · rw [hr.2.2.2.2.2.2.2.2.2.2, resO_one HA.out, wrapT_snoc]
      · have t1 : ((l1.length : Int) != 1) = true := by simp; omega
        have hR80 : R.1 = 80 := by rw [HREL.out.2.2.2.2.2.2.2.2.2.2]; exact resO_bad HA.out hl1
        have H80 := Lib.hid hR80
        clear hR80 hl1
        go_wp2_with
          (first
            | (go_at_call 138; refine HAR.out.mono ?_; rintro e w9 ⟨rfl, h9⟩; replace h9 := h9.symm; subst h9)
            | (refine wpList_store_box rfl 46 (.tmp 4) (.tmp 20) rfl (N + 1 + 1) 0 rfl (.agg #[.int .i64 0, .string ⟨#[]⟩, .slice none 0 0]) rfl [.int .i64 0, .string ⟨#[]⟩, .slice none 0 0] rfl [.int .i64 0, .string ⟨#[]⟩, .slice none 0 0] 46 HREL.out.2.2.2.2.2.2.2.1 (Nat.le_refl _) (show (Tryz.prog.info? 46).map (·.size) = some 3 by kernel_rfl) ?cy1 (N + 1 + 1) (Nat.le_refl _) wr (Below.refl _ _) ?_))
        try case cy1 => first | exact ⟨rfl, rfl, rfl⟩ | (intro v hv; simp at hv; rcases hv with rfl | rfl | rfl <;> rfl)
        intro WF hb hbx hoth
        have HF := Lib.hid (show Below w.heap.size w WF from HREL.out.2.2.2.2.2.2.2.2.1.trans (hb.mono (by have := HN.out; omega)))
        obtain ⟨f0, f1, f2, ff, fl⟩ := cells3p hbx
        clear hb hoth hbx q0 q1 q2 qf ql
        go_wp2
        refine bodyPost_ret (v := .tuple #[.agg #[.int .i64 0, .string ⟨#[]⟩, .slice none 0 0], .int .i64 80]) (by simp [results, Tryz.results113, go_sem, f0, f1, f2]) rfl ⟨HF.out, ?_⟩
        unfold ResP
        rw [if_neg (by rw [H80.out]; decide), H80.out]
    | false =>
      have HA := Lib.hid ha
      clear ha
      have har : Calls Tryz.prog 138 #[.int .i64 k1] wr fun e w' => e = .returned (.bool false) ∧ w' = wr := by rw [← HA.out]; exact around_any k1 wr
      have HAR := Lib.hid har
      clear har
      obtain ⟨p, hp⟩ : ∃ p, p = (innerO s (.mk k1 nm1 h1 l1)).1 := ⟨_, rfl⟩
      obtain ⟨q, hq⟩ : ∃ q, q = (innerO s (.mk k1 nm1 h1 l1)).2 := ⟨_, rfl⟩
      have hiw := HIN.out k1 nm1 h1 l1
      rw [← hp, ← hq] at hiw
      simp only [tyV, tyC] at hiw
      have HIW := Lib.hid hiw
      have hRR : R = (q, wrapT ks (.mk p nm1 h0 (erTys l1))) := by rw [HREL.out.2.2.2.2.2.2.2.2.2.2, resO_in HA.out, hp, hq]
      have HRR := Lib.hid hRR
      have HPI := Lib.hid (show I64 p by rw [hp]; exact innerO_i64 (HREL.out.2.2.2.1 w (Below.refl _ _)).1)
      clear hiw hRR hp hq
      obtain ⟨z0, z1, z2, z3, zf, zl⟩ := cells4p r0
      clear r0
      go_upto_region 7 with (go_at_call 138; refine HAR.out.mono ?_; rintro e w9 ⟨rfl, h9⟩; replace h9 := h9.symm; subst h9)
      go_wp2_with fail
      refine wp_region_held_drew (S := (fun w' => w'.cell? ⟨N, 0, none⟩ = some (.slice o1 n1 c1) ∧ w'.cell? ⟨N, 1, none⟩ = some (.slice o2 n2 c2) ∧ w'.cell? ⟨N, 2, none⟩ = some (.slice o3 n3 c3) ∧ w'.cell? ⟨N, 3, none⟩ = some (.func (.func 135) #[] #[.pointer (some ⟨c, 0, none⟩)]) ∧ w'.cell? ⟨b, 0, none⟩ = some (.int .i64 k1) ∧ w'.cell? ⟨b, 1, none⟩ = some (.string nm1) ∧ w'.cell? ⟨b, 2, none⟩ = some (.slice h1.oa l1.length h1.cap))) (by kernel_rfl) ?_ (fun hHeld => ?_)
      · exact ⟨z0, z1, z2, z3, q0, q1, q2⟩
      clear z0 z1 z2 z3 zf zl q0 q1 q2 qf ql
      refine wpAnyH_take (i := 0) (oi := { dst := some 35, op := Op.load 176 (Operand.tmp 2), type := 176, pos := "resolve.go:25", after := #[], guard := none }) (v := ?vq0_1) rfl (by kernel_rfl) (by kernel_rfl) (by kernel_rfl) (fun _ _ _ h => h) (Or.inl ⟨by rfl, ?hq0_1⟩) (by assumption) ?_
      case hq0_1 => intro w hSw; (try dsimp only at hSw); go_simp; try (with_reducible rfl)
      (try simp only [Act.put, qA, qB, qC])
      refine wpAnyH_take (i := 1) (oi := { dst := some 36, op := Op.move (Operand.tmp 6), type := 198, pos := "resolve.go:25", after := #[], guard := none }) (v := ?vq1_2) rfl (by kernel_rfl) (by kernel_rfl) (by kernel_rfl) (fun _ _ _ h => h) (Or.inl ⟨by rfl, ?hq1_2⟩) (by assumption) ?_
      case hq1_2 => intro w hSw; (try dsimp only at hSw); go_simp; try (with_reducible rfl)
      (try simp only [Act.put, qA, qB, qC])
      refine wpAnyH_take (i := 2) (oi := { dst := some 37, op := Op.nilCheck (Operand.tmp 36), type := 0, pos := "resolve.go:25", after := #[{ on := 1, ground := Ground.data }], guard := none }) (v := ?vq2_3) rfl (by kernel_rfl) (by kernel_rfl) (by kernel_rfl) (fun _ _ _ h => h) (Or.inl ⟨by rfl, ?hq2_3⟩) (by assumption) ?_
      case hq2_3 => intro w hSw; (try dsimp only at hSw); go_simp; try (with_reducible rfl)
      (try simp only [Act.put, qA, qB, qC])
      refine wpAnyH_take (i := 3) (oi := { dst := some 38, op := Op.load 46 (Operand.tmp 37), type := 46, pos := "resolve.go:25", after := #[{ on := 2, ground := Ground.data }], guard := none }) (v := ?vq3_4) rfl (by kernel_rfl) (by kernel_rfl) (by kernel_rfl) (fun _ _ _ h => h) (Or.inl ⟨by rfl, ?hq3_4⟩) (by assumption) ?_
      case hq3_4 => intro w hSw; (try dsimp only at hSw); go_simp; try (with_reducible rfl)
      (try simp only [Act.put, qA, qB, qC])
      refine wpAnyH_ready (rs := [4]) (by kernel_rfl) (by simp) ?_
      refine AllReadyH.cons (o := { dst := some 39, op := Op.call { callee := Callee.value (Operand.func 139), args := #[Operand.tmp 35, Operand.tmp 38], argTypes := #[176, 46] }, type := 200, pos := "resolve.go:25", after := #[{ on := 0, ground := Ground.data }, { on := 3, ground := Ground.data }], guard := none }) rfl (fun K hK => ?_) AllReadyH.nil
      go_simp
      refine (HIW.out wr.drew (HREL.out.2.2.2.2.2.2.2.2.1.trans ⟨rfl, rfl, rfl, Nat.le_refl _, fun _ _ => rfl⟩)).mono ?_
      rintro e W3 ⟨rfl, hb3⟩
      have HB3 := Lib.hid (show Below wr.heap.size wr W3 from (show Below wr.heap.size wr wr.drew from ⟨rfl, rfl, rfl, Nat.le_refl _, fun _ _ => rfl⟩).trans hb3)
      clear hb3
      have hz := (HB3.out.block N (blk_lt HREL.out.2.2.2.2.2.2.1)).trans HREL.out.2.2.2.2.2.2.1
      have hb' := (HB3.out.block b (blk_lt HREL.out.2.2.1)).trans HREL.out.2.2.1
      refine hK.out _ _ ?_ (fun hHeld => ?_)
      · obtain ⟨z0, z1, z2, z3, zf, zl⟩ := cells4p hz
        obtain ⟨q0, q1, q2, qf, ql⟩ := cells_ty hb'
        exact ⟨z0, z1, z2, z3, q0, q1, q2⟩
      clear hK K
      (try simp only [Act.put, qA, qB, qC])
      refine wpAnyH_take (i := 5) (oi := { dst := some 34, op := Op.move (Operand.tmp 39), type := 200, pos := "resolve.go:25", after := #[{ on := 4, ground := Ground.data }], guard := none }) (v := ?vq5_5) rfl (by kernel_rfl) (by kernel_rfl) (by kernel_rfl) (fun _ _ _ h => h) (Or.inl ⟨by rfl, ?hq5_5⟩) (by assumption) ?_
      case hq5_5 => intro w hSw; (try dsimp only at hSw); go_simp; try (with_reducible rfl)
      (try simp only [Act.put, qA, qB, qC])
      refine wpAnyH_take (i := 6) (oi := { dst := some 40, op := Op.extract (Operand.tmp 34) 0, type := 43, pos := "resolve.go:25", after := #[{ on := 5, ground := Ground.data }], guard := none }) (v := ?vq6_6) rfl (by kernel_rfl) (by kernel_rfl) (by kernel_rfl) (fun _ _ _ h => h) (Or.inl ⟨by rfl, ?hq6_6⟩) (by assumption) ?_
      case hq6_6 => intro w hSw; (try dsimp only at hSw); go_simp; try (with_reducible rfl)
      (try simp only [Act.put, qA, qB, qC])
      refine wpAnyH_take (i := 7) (oi := { dst := some 41, op := Op.extract (Operand.tmp 34) 1, type := 47, pos := "resolve.go:25", after := #[{ on := 5, ground := Ground.data }, { on := 8, ground := Ground.gcOnly Departure.lateStores }], guard := none }) (v := ?vq7_7) rfl (by kernel_rfl) (by kernel_rfl) (by kernel_rfl) (fun _ _ _ h => h) (Or.inl ⟨by rfl, ?hq7_7⟩) (by assumption) ?_
      case hq7_7 => intro w hSw; (try dsimp only at hSw); go_simp; try (with_reducible rfl)
      (try simp only [Act.put, qA, qB, qC])
      refine wpAnyH_take (i := 8) (oi := { dst := some 7, op := Op.assign (Operand.tmp 40), type := 43, pos := "resolve.go:25", after := #[{ on := 6, ground := Ground.data }, { on := 4, ground := Ground.chain }, { on := 0, ground := Ground.phase }, { on := 1, ground := Ground.phase }, { on := 2, ground := Ground.phase }, { on := 3, ground := Ground.phase }, { on := 4, ground := Ground.phase }, { on := 5, ground := Ground.phase }, { on := 6, ground := Ground.phase }, { on := 7, ground := Ground.textOnly Departure.lateStores }], guard := none }) (v := ?vq8_8) rfl (by kernel_rfl) (by kernel_rfl) (by kernel_rfl) (fun _ _ _ h => h) (Or.inl ⟨by rfl, ?hq8_8⟩) (by assumption) ?_
      case hq8_8 => intro w hSw; (try dsimp only at hSw); go_simp; try (with_reducible rfl)
      (try simp only [Act.put, qA, qB, qC])
      refine wpAnyH_take (i := 9) (oi := { dst := some 8, op := Op.assign (Operand.tmp 41), type := 47, pos := "resolve.go:25", after := #[{ on := 7, ground := Ground.data }, { on := 8, ground := Ground.chain }, { on := 0, ground := Ground.phase }, { on := 1, ground := Ground.phase }, { on := 2, ground := Ground.phase }, { on := 3, ground := Ground.phase }, { on := 4, ground := Ground.phase }, { on := 5, ground := Ground.phase }, { on := 6, ground := Ground.phase }, { on := 7, ground := Ground.phase }, { on := 8, ground := Ground.phase }], guard := none }) (v := ?vq9_9) rfl (by kernel_rfl) (by kernel_rfl) (by kernel_rfl) (fun _ _ _ h => h) (Or.inl ⟨by rfl, ?hq9_9⟩) (by assumption) ?_
      case hq9_9 => intro w hSw; (try dsimp only at hSw); go_simp; try (with_reducible rfl)
      (try simp only [Act.put, qA, qB, qC])
      refine wpAnyH_done (by kernel_rfl) ?_ _
      have HZB := Lib.hid (And.intro hz hb')
      clear hz hb'
      by_cases hq0 : q = 0
      · subst hq0
        obtain ⟨q0, q1, q2, qf, ql⟩ := cells_ty HZB.out.2
        have hcp := copied_any (f + 1) (.mk k1 nm1 h1 l1) W3 (HREL.out.2.2.2.1 W3 (HREL.out.2.2.2.2.2.2.2.2.1.trans (HB3.out.mono HREL.out.2.2.2.2.2.2.2.2.1.size))) HREL.out.2.2.2.2.1
        simp only [tyV, tyC] at hcp
        have HCP := Lib.hid hcp
        clear hcp
        go_upto_region 11 with
          (first
            | (go_at_call 25; refine HCP.out.mono ?_; rintro e W4 ⟨⟨k2, nm2, h2, l2⟩, rfl, hb4, he4, hy4⟩; simp only [tyC]; have HB4 := Lib.hid (And.intro hb4 (And.intro he4 hy4)); have HBB4 := Lib.hid ((hb4.block b ql).trans HZB.out.2); clear hb4 he4 hy4)
            | (refine wpList_store_box rfl 46 (.tmp 51) (.tmp 50) rfl b 0 rfl (.agg #[.int .i64 k2, .string nm2, .slice h2.oa l2.length h2.cap]) rfl [.int .i64 k2, .string nm2, .slice h2.oa l2.length h2.cap] rfl (tyC (.mk k1 nm1 h1 l1) ++ ex) 46 HBB4.out (by simp [tyC]) (show (Tryz.prog.info? 46).map (·.size) = some 3 by kernel_rfl) ?cy2 b (Nat.le_refl _) W4 (Below.refl _ _) ?_; rotate_left; intro W5 hb5 hbx hoth))
        try case cy2 => first | exact ⟨rfl, rfl, rfl⟩ | (intro v hv; simp at hv; rcases hv with rfl | rfl | rfl <;> rfl)
        have hb5x : W5.heap[b]? = some (.cells (tyC (.mk k2 nm2 h2 l2) ++ ex).toArray 46) := by
          rw [hbx]
          simp [tyC, splL]
        have HB5 := Lib.hid (And.intro hb5 (And.intro hb5x hoth))
        clear hb5 hbx hoth q0 q1 q2 qf
        obtain ⟨q0, q1, q2, qf, ql5⟩ := cells_ty hb5x
        clear hb5x
        go_upto_region 12 with fail
        clear q0 q1 q2 qf ql5
        obtain ⟨W6, hW6⟩ : ∃ W, W = W5.setCell ⟨b, 0, none⟩ (.int .i64 p) := ⟨_, rfl⟩
        rw [← hW6]
        have hn6 : ∀ y, y ≠ b → W6.heap[y]? = W5.heap[y]? := fun y hy => by rw [hW6]; exact Below.heap_setCell _ _ _ _ hy
        have hbb6 : W6.heap[b]? = some (.cells (tyC (.mk p nm2 h2 l2) ++ ex).toArray 46) := by
          have := heap_setCell_same W5 b 0 _ _ (.int .i64 p) HB5.out.2.1
          rw [hW6]
          simpa [tyC] using this
        have hs6 : W6.heap.size = W5.heap.size := by rw [hW6]; simp [World.setCell]
        have hr := HREL.out
        have hbge : w.heap.size ≤ b := by have := HN.out; rcases hr.2.2.2.2.2.1 with h | h <;> omega
        have hB4w : Below w.heap.size w W4 := (hr.2.2.2.2.2.2.2.2.1.trans (HB3.out.mono hr.2.2.2.2.2.2.2.2.1.size)).trans (HB4.out.1.mono (Nat.le_trans hr.2.2.2.2.2.2.2.2.1.size HB3.out.size))
        have hB6 : Below w.heap.size w W6 := by
          rw [hW6]
          exact (hB4w.trans (HB5.out.1.mono hbge)).setCell (p := ⟨b, 0, none⟩) hbge _
        have hs45 : W4.heap.size ≤ W5.heap.size := HB5.out.1.size
        have hbnn : b ≠ N ∧ b ≠ N + 1 + 1 := by rcases hr.2.2.2.2.2.1 with h | h <;> omega
        have hkeep : ∀ y, y ≠ b → y < wr.heap.size → W6.heap[y]? = wr.heap[y]? := fun y h1 h2 => (hn6 y h1).trans ((HB5.out.2.2 y h1).trans ((HB4.out.1.block y (Nat.lt_of_lt_of_le h2 HB3.out.size)).trans (HB3.out.block y h2)))
        have hblt : b < wr.heap.size := blk_lt hr.2.2.1
        have hu : Und (eb W4 W3.heap.size none) (eb W6 w.heap.size (some (N + 1 + 1))) := eb_und (by omega) fun y hy h1 h2 => by
          have h3 := HB3.out.size
          have h4 := hr.2.2.2.2.2.2.2.2.2.1
          have h5 := HN.out
          exact ⟨by omega, fun e => by have := Option.some.inj e; omega, (hn6 y (by omega)).trans (HB5.out.2.2 y (by omega))⟩
        have he := HB4.out.2.1
        rw [erTy, erTy] at he
        simp only [Ty5.mk.injEq, true_and] at he
        obtain ⟨rfl, rfl, hel⟩ := he
        have hty6 : TyH (f + 1) (eb W6 w.heap.size (some (N + 1 + 1))) (.mk p nm2 h2 l2) := by
          have h1 := TyH.und (f + 1) _ _ _ hu HB4.out.2.2
          exact ⟨HPI.out, h1.2⟩
        obtain ⟨Y, ex0, hY1, hY2, hY3⟩ := (hr.2.1.keep (w' := W6) fun y h1 h2 => hkeep y (by omega) (by omega)).ty (B := w.heap.size) (og := some (N + 1 + 1)) (by have := HN.out; omega) (fun y hy e => by have := Option.some.inj e; omega) hbb6 hty6
        have hYr : erTy Y = R.2 := by rw [hY3, HRR.out, erTy, hel]
        have hz6 : W6.heap[N + 1 + 1]? = some (.cells #[.int .i64 0, .string ⟨#[]⟩, .slice none 0 0] 46) := (hkeep _ hbnn.2.symm (blk_lt hr.2.2.2.2.2.2.2.1)).trans hr.2.2.2.2.2.2.2.1
        have HY := Lib.hid (And.intro hY1 (And.intro (show TyH n (eb W6 w.heap.size (some (N + 1 + 1))) Y by rw [show n = f + 1 + ks.length from hr.1.symm]; exact hY2) (And.intro hYr (And.intro hB6 hz6))))
        have HR0 := Lib.hid (show R.1 = 0 by rw [HRR.out])
        clear hr hn6 hbb6 hs6 hbge hB4w hB6 hs45 hbnn hkeep hblt hu hel hty6 hY2 hY3 hYr hz6 hW6 ql
        obtain ⟨ky, nmy, hhy, ly⟩ := Y
        obtain ⟨y0, y1, y2, yf, yl⟩ := cells_ty hY1
        clear hY1
        go_wp2_with (refine wpList_store_box rfl 46 (.tmp 4) (.tmp 56) rfl (N + 1 + 1) 0 rfl (.agg #[.int .i64 ky, .string nmy, .slice hhy.oa ly.length hhy.cap]) rfl [.int .i64 ky, .string nmy, .slice hhy.oa ly.length hhy.cap] rfl [.int .i64 0, .string ⟨#[]⟩, .slice none 0 0] 46 HY.out.2.2.2.2 (Nat.le_refl _) (show (Tryz.prog.info? 46).map (·.size) = some 3 by kernel_rfl) ?cy3 (N + 1 + 1) (Nat.le_refl _) W6 (Below.refl _ _) ?_)
        try case cy3 => first | exact ⟨rfl, rfl, rfl⟩ | (intro v hv; simp at hv; rcases hv with rfl | rfl | rfl <;> rfl)
        intro WF hb hbx hoth
        have HF := Lib.hid (And.intro hb hoth)
        obtain ⟨f0, f1, f2, ff, fl⟩ := cells3p hbx
        clear hb hoth hbx y0 y1 y2 yf yl
        go_wp2
        refine bodyPost_ret (v := .tuple #[.agg #[.int .i64 ky, .string nmy, .slice hhy.oa ly.length hhy.cap], .int .i64 0]) (by simp [results, Tryz.results113, go_sem, f0, f1, f2]) rfl ⟨HY.out.2.2.2.1.trans (HF.out.1.mono (by have := HN.out; omega)), ?_⟩
        unfold ResP
        rw [if_pos HR0.out]
        exact ⟨.mk ky nmy hhy ly, rfl, HY.out.2.2.1, TyH.und n _ _ _ (eb_und HF.out.1.size fun y hy h1 h2 => ⟨h1, by simp, HF.out.2 y (fun e => h2 (by rw [e]))⟩) HY.out.2.1⟩
      · have t1 : (q != 0) = true := by simpa using hq0
        have HQ0 := Lib.hid (show R.1 = q by rw [HRR.out])
        have HQN := Lib.hid hq0
        clear hq0
        go_wp2_with (refine wpList_store_box rfl 46 (.tmp 4) (.tmp 44) rfl (N + 1 + 1) 0 rfl (.agg #[.int .i64 0, .string ⟨#[]⟩, .slice none 0 0]) rfl [.int .i64 0, .string ⟨#[]⟩, .slice none 0 0] rfl [.int .i64 0, .string ⟨#[]⟩, .slice none 0 0] 46 ((HB3.out.block _ (blk_lt HREL.out.2.2.2.2.2.2.2.1)).trans HREL.out.2.2.2.2.2.2.2.1) (Nat.le_refl _) (show (Tryz.prog.info? 46).map (·.size) = some 3 by kernel_rfl) ?cy4 (N + 1 + 1) (Nat.le_refl _) W3 (Below.refl _ _) ?_)
        try case cy4 => first | exact ⟨rfl, rfl, rfl⟩ | (intro v hv; simp at hv; rcases hv with rfl | rfl | rfl <;> rfl)
        intro WF hb hbx hoth
        have HF := Lib.hid (show Below w.heap.size w WF from (HREL.out.2.2.2.2.2.2.2.2.1.trans (HB3.out.mono HREL.out.2.2.2.2.2.2.2.2.1.size)).trans (hb.mono (by have := HN.out; omega)))
        obtain ⟨f0, f1, f2, ff, fl⟩ := cells3p hbx
        clear hb hoth hbx
        go_wp2
        refine bodyPost_ret (v := .tuple #[.agg #[.int .i64 0, .string ⟨#[]⟩, .slice none 0 0], .int .i64 q]) (by simp [results, Tryz.results113, go_sem, f0, f1, f2]) rfl ⟨HF.out, ?_⟩
        unfold ResP
        rw [HQ0.out, if_neg HQN.out]

end Go.Proofs.YtghkbihgdabamaaGreatDoor

namespace Go.Proofs.YtghkbihgdabamaaGreatDoor
open Go.RowKit

theorem soV_hd (x : So5) : soV x = .agg #[.slice x.hs.oa x.structs.length x.hs.cap, .slice x.he.oa x.enums.length x.he.cap, .slice x.hf.oa x.fns.length x.hf.cap] := by cases x; rfl
theorem ResP.keep {n B B' : Nat} {w w' : World} {R : Int × Ty5} {e : Ending} (h : ResP n B w R e) (hu : Und (eb w B none) (eb w' B' none)) : ResP n B' w' R e := by
  unfold ResP at h ⊢
  split
  · rename_i h0
    rw [if_pos h0] at h
    obtain ⟨y, h1, h2, h3⟩ := h
    exact ⟨y, h1, h2, TyH.und n _ _ _ hu h3⟩
  · rename_i h0
    rw [if_neg h0] at h
    exact h
theorem ResP.val {n B : Nat} {w : World} {R : Int × Ty5} {e : Ending} (h : ResP n B w R e) : ∃ k nm oa m c, e = .returned (.tuple #[.agg #[.int .i64 k, .string nm, .slice oa m c], .int .i64 R.1]) := by
  unfold ResP at h
  split at h
  · rename_i h0
    obtain ⟨⟨k, nm, hh, l⟩, h1, -⟩ := h
    exact ⟨k, nm, hh.oa, l.length, hh.cap, by rw [h1, h0]; rfl⟩
  · exact ⟨_, _, _, _, _, h⟩
set_option maxRecDepth 100000 in
set_option maxHeartbeats 40000000 in
theorem resolve_any (n n' : Nat) (s : So5) (x : Ty5) (w : World) (hs : SoH n' w s) (hx : TyH n w x) (hn : tyN x ≤ 1000000) : Calls Tryz.prog 83 #[soV s, tyV x] w fun e w' => Below w.heap.size w w' ∧ ResP n w.heap.size w' (resO s n x) e := by
  obtain ⟨R, hR⟩ : ∃ R, R = resO s n x := ⟨_, rfl⟩
  rw [← hR]
  have HSE := Lib.hid (searched_any s)
  have HRS := Lib.hid (show ∀ W c, Below w.heap.size w W → SrAt W s c → Calls Tryz.prog 113 #[itV s (srF c), tyV x] W fun e w' => Below W.heap.size W w' ∧ ResP n W.heap.size w' R e from fun W c hW hc => by
    obtain ⟨k, nm, h, l⟩ := x
    rw [hR]
    exact resolve_sr n n' s k nm h l c W (SoH.below hs hW) hc (TyH.below n hx hW) hn)
  obtain ⟨n1, hn1⟩ : ∃ k, s.structs.length = k := ⟨_, rfl⟩
  obtain ⟨n2, hn2⟩ : ∃ k, s.enums.length = k := ⟨_, rfl⟩
  obtain ⟨n3, hn3⟩ : ∃ k, s.fns.length = k := ⟨_, rfl⟩
  obtain ⟨o1, c1, hh1⟩ : ∃ o c, s.hs = ⟨o, c⟩ := ⟨_, _, rfl⟩
  obtain ⟨o2, c2, hh2⟩ : ∃ o c, s.he = ⟨o, c⟩ := ⟨_, _, rfl⟩
  obtain ⟨o3, c3, hh3⟩ : ∃ o c, s.hf = ⟨o, c⟩ := ⟨_, _, rfl⟩
  obtain ⟨k, nm, h, l⟩ := x
  obtain ⟨m, hm⟩ : ∃ m, l.length = m := ⟨_, rfl⟩
  rw [soV_hd] at HSE ⊢
  unfold itV srF at HSE HRS
  simp only [tyV, tyC, hh1, hh2, hh3, hn1, hn2, hn3, hm] at HSE HRS ⊢
  obtain ⟨W0, hW⟩ : ∃ W, W = ((w.alloc (.cells #[.slice o1 n1 c1, .slice o2 n2 c2, .slice o3 n3 c3] 26)).alloc (.cells #[.int .i64 k, .string nm, .slice h.oa m h.cap] 46)).alloc (.cells #[.int .i64 0, .string ⟨#[]⟩, .slice none 0 0] 46) := ⟨_, rfl⟩
  obtain ⟨hb0, hx0, hx1, hx2⟩ := pal3 w (.cells #[.slice o1 n1 c1, .slice o2 n2 c2, .slice o3 n3 c3] 26) (.cells #[.int .i64 k, .string nm, .slice h.oa m h.cap] 46) (.cells #[.int .i64 0, .string ⟨#[]⟩, .slice none 0 0] 46)
  rw [← hW] at hb0 hx0 hx1 hx2
  obtain ⟨N, hN⟩ : ∃ N, N = w.heap.size := ⟨_, rfl⟩
  rw [← hN] at hx0 hx1 hx2
  have HX := Lib.hid (And.intro hx0 (And.intro hx1 hx2))
  have HN := Lib.hid hN
  have HB0 := Lib.hid hb0
  have HW0 := Lib.hid (show W0.heap.size = N + 3 by rw [hW, hN]; simp)
  clear hR hs hx hn hx0 hx1 hx2 hb0 hn1 hn2 hn3 hh1 hh2 hh3 hm
  go_enter Tryz.func83, Tryz.ntmps83
  go_upto_region 1 with fail
  rw [← hW]
  clear hW
  try simp only [← hN]
  clear hN
  obtain ⟨z0, z1, z2, zf, zl⟩ := cells3p HX.out.1
  obtain ⟨y0, y1, y2, yf, yl⟩ := cells3p HX.out.2.1
  go_wp2_with fail
  refine wp_region_held_drew (S := (fun w' => w'.cell? ⟨N, 0, none⟩ = some (.slice o1 n1 c1) ∧ w'.cell? ⟨N, 1, none⟩ = some (.slice o2 n2 c2) ∧ w'.cell? ⟨N, 2, none⟩ = some (.slice o3 n3 c3) ∧ w'.cell? ⟨N + 1, 0, none⟩ = some (.int .i64 k) ∧ w'.cell? ⟨N + 1, 1, none⟩ = some (.string nm) ∧ w'.cell? ⟨N + 1, 2, none⟩ = some (.slice h.oa m h.cap))) (by kernel_rfl) ?_ (fun hHeld => ?_)
  · exact ⟨z0, z1, z2, y0, y1, y2⟩
  clear z0 z1 z2 zf zl y0 y1 y2 yf yl
  refine wpAnyH_take (i := 0) (oi := { dst := some 6, op := Op.load 26 (Operand.tmp 2), type := 26, pos := "kinds.go:30", after := #[], guard := none }) (v := ?vq0_1) rfl (by kernel_rfl) (by kernel_rfl) (by kernel_rfl) (fun _ _ _ h => h) (Or.inl ⟨by rfl, ?hq0_1⟩) (by assumption) ?_
  case hq0_1 => intro w hSw; (try dsimp only at hSw); go_simp; try (with_reducible rfl)
  (try simp only [Act.put, qA, qB, qC])
  refine wpAnyH_take (i := 2) (oi := { dst := some 8, op := Op.load 46 (Operand.tmp 3), type := 46, pos := "kinds.go:30", after := #[], guard := none }) (v := ?vq2_2) rfl (by kernel_rfl) (by kernel_rfl) (by kernel_rfl) (fun _ _ _ h => h) (Or.inl ⟨by rfl, ?hq2_2⟩) (by assumption) ?_
  case hq2_2 => intro w hSw; (try dsimp only at hSw); go_simp; try (with_reducible rfl)
  (try simp only [Act.put, qA, qB, qC])
  refine wpAnyH_ready (rs := [1]) (by kernel_rfl) (by simp) ?_
  refine AllReadyH.cons (o := { dst := some 7, op := Op.call { callee := Callee.value (Operand.func 112), args := #[Operand.tmp 6], argTypes := #[26] }, type := 176, pos := "kinds.go:30", after := #[{ on := 0, ground := Ground.data }], guard := none }) rfl (fun K hK => ?_) AllReadyH.nil
  go_simp
  refine (HSE.out W0.drew).mono ?_
  rintro e W1 ⟨rfl, hb1, hc1⟩
  have HB1 := Lib.hid (show Below W0.heap.size W0 W1 from (show Below W0.heap.size W0 W0.drew from ⟨rfl, rfl, rfl, Nat.le_refl _, fun _ _ => rfl⟩).trans hb1)
  have HC1 := Lib.hid (show SrAt W1 s W0.heap.size from hc1)
  clear hb1 hc1
  refine hK.out _ _ ?_ (fun hHeld => ?_)
  · obtain ⟨z0, z1, z2, zf, zl⟩ := cells3p ((HB1.out.block N (blk_lt HX.out.1)).trans HX.out.1)
    obtain ⟨y0, y1, y2, yf, yl⟩ := cells3p ((HB1.out.block (N + 1) (blk_lt HX.out.2.1)).trans HX.out.2.1)
    exact ⟨z0, z1, z2, y0, y1, y2⟩
  clear hK K
  (try simp only [Act.put, qA, qB, qC])
  refine wpAnyH_ready (rs := [3]) (by kernel_rfl) (by simp) ?_
  refine AllReadyH.cons (o := { dst := some 9, op := Op.call { callee := Callee.value (Operand.func 113), args := #[Operand.tmp 7, Operand.tmp 8], argTypes := #[176, 46] }, type := 51, pos := "kinds.go:30", after := #[{ on := 1, ground := Ground.data }, { on := 2, ground := Ground.data }, { on := 1, ground := Ground.chain }], guard := none }) rfl (fun K hK => ?_) AllReadyH.nil
  go_simp
  refine (HRS.out W1 W0.heap.size (HB0.out.trans (HB1.out.mono HB0.out.size)) HC1.out).mono ?_
  rintro e W2 ⟨hb2, hp⟩
  obtain ⟨kk, nn, oa, mm, cc, he⟩ := hp.val
  subst he
  have HB2 := Lib.hid (HB1.out.trans (hb2.mono HB1.out.size))
  have HP := Lib.hid hp
  have HS2 := Lib.hid (show W0.heap.size ≤ W1.heap.size from HB1.out.size)
  clear hb2 hp
  refine hK.out _ _ ?_ (fun hHeld => ?_)
  · obtain ⟨z0, z1, z2, zf, zl⟩ := cells3p ((HB2.out.block N (blk_lt HX.out.1)).trans HX.out.1)
    obtain ⟨y0, y1, y2, yf, yl⟩ := cells3p ((HB2.out.block (N + 1) (blk_lt HX.out.2.1)).trans HX.out.2.1)
    exact ⟨z0, z1, z2, y0, y1, y2⟩
  clear hK K
  (try simp only [Act.put, qA, qB, qC])
  refine wpAnyH_take (i := 4) (oi := { dst := some 10, op := Op.extract (Operand.tmp 9) 0, type := 46, pos := "kinds.go:30", after := #[{ on := 3, ground := Ground.data }], guard := none }) (v := ?vq4_3) rfl (by kernel_rfl) (by kernel_rfl) (by kernel_rfl) (fun _ _ _ h => h) (Or.inl ⟨by rfl, ?hq4_3⟩) (by assumption) ?_
  case hq4_3 => intro w hSw; (try dsimp only at hSw); go_simp; try (with_reducible rfl)
  (try simp only [Act.put, qA, qB, qC])
  refine wpAnyH_take (i := 5) (oi := { dst := some 11, op := Op.extract (Operand.tmp 9) 1, type := 47, pos := "kinds.go:30", after := #[{ on := 3, ground := Ground.data }], guard := none }) (v := ?vq5_4) rfl (by kernel_rfl) (by kernel_rfl) (by kernel_rfl) (fun _ _ _ h => h) (Or.inl ⟨by rfl, ?hq5_4⟩) (by assumption) ?_
  case hq5_4 => intro w hSw; (try dsimp only at hSw); go_simp; try (with_reducible rfl)
  (try simp only [Act.put, qA, qB, qC])
  refine wpAnyH_ready (rs := [6]) (by kernel_rfl) (by simp) ?_
  refine AllReadyH.cons (o := { dst := none, op := Op.store 46 (Operand.tmp 4) (Operand.tmp 10), type := 0, pos := "kinds.go:30", after := #[{ on := 4, ground := Ground.data }, { on := 3, ground := Ground.chain }, { on := 0, ground := Ground.phase }, { on := 1, ground := Ground.phase }, { on := 2, ground := Ground.phase }, { on := 3, ground := Ground.phase }, { on := 4, ground := Ground.phase }, { on := 5, ground := Ground.phase }], guard := none }) rfl (fun K hK => ?_) AllReadyH.nil
  rw [if_pos (by rfl)]
  refine wp_store_box 46 (.tmp 4) (.tmp 10) rfl (N + 1 + 1) 0 rfl (.agg #[.int .i64 kk, .string nn, .slice oa mm cc]) rfl [.int .i64 kk, .string nn, .slice oa mm cc] rfl [.int .i64 0, .string ⟨#[]⟩, .slice none 0 0] 46 ((HB2.out.block (N + 1 + 1) (blk_lt HX.out.2.2)).trans HX.out.2.2) (Nat.le_refl _) (show (Tryz.prog.info? 46).map (·.size) = some 3 by kernel_rfl) ?cz1 (N + 1 + 1) (Nat.le_refl _) W2 (Below.refl _ _) ?_
  try case cz1 => first | exact ⟨rfl, rfl, rfl⟩ | (intro v hv; simp at hv; rcases hv with rfl | rfl | rfl <;> rfl)
  intro WF hb hbx hoth
  have HF := Lib.hid (And.intro hb (And.intro hbx hoth))
  clear hb hbx hoth
  refine hK.out _ _ ?_ (fun hHeld => ?_)
  · obtain ⟨z0, z1, z2, zf, zl⟩ := cells3p ((HF.out.2.2 N (by omega)).trans ((HB2.out.block N (blk_lt HX.out.1)).trans HX.out.1))
    obtain ⟨y0, y1, y2, yf, yl⟩ := cells3p ((HF.out.2.2 (N + 1) (by omega)).trans ((HB2.out.block (N + 1) (blk_lt HX.out.2.1)).trans HX.out.2.1))
    exact ⟨z0, z1, z2, y0, y1, y2⟩
  clear hK K
  (try simp only [Act.put, qA, qB, qC])
  refine wpAnyH_take (i := 7) (oi := { dst := some 5, op := Op.assign (Operand.tmp 11), type := 47, pos := "kinds.go:30", after := #[{ on := 5, ground := Ground.data }, { on := 6, ground := Ground.chain }, { on := 0, ground := Ground.phase }, { on := 1, ground := Ground.phase }, { on := 2, ground := Ground.phase }, { on := 3, ground := Ground.phase }, { on := 4, ground := Ground.phase }, { on := 5, ground := Ground.phase }, { on := 6, ground := Ground.phase }], guard := none }) (v := ?vq7_5) rfl (by kernel_rfl) (by kernel_rfl) (by kernel_rfl) (fun _ _ _ h => h) (Or.inl ⟨by rfl, ?hq7_5⟩) (by assumption) ?_
  case hq7_5 => intro w hSw; (try dsimp only at hSw); go_simp; try (with_reducible rfl)
  (try simp only [Act.put, qA, qB, qC])
  refine wpAnyH_done (by kernel_rfl) ?_ _
  obtain ⟨f0, f1, f2, ff, fl⟩ := cells3p HF.out.2.1
  go_wp2
  refine bodyPost_ret (v := .tuple #[.agg #[.int .i64 kk, .string nn, .slice oa mm cc], .int .i64 R.1]) (by simp [results, Tryz.results83, go_sem, f0, f1, f2]) rfl ⟨(HB0.out.trans (HB2.out.mono HB0.out.size)).trans (HF.out.1.mono (by have := HN.out; omega)), ?_⟩
  exact HP.out.keep (eb_und HF.out.1.size fun b hb h1 h2 => ⟨by have := HB0.out.size; have := HS2.out; omega, h2, HF.out.2.2 b (by have := HW0.out; have := HS2.out; omega)⟩)

end Go.Proofs.YtghkbihgdabamaaGreatDoor
