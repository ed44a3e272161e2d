/-
  A step from a struct to a field of it. Conditions: the view, its source and the type lie in the heap; types are not too large.
-/
import Derived.Test.YtghkbihgdabamaaGreatDoorKQIntoB
namespace Go.Proofs.YtghkbihgdabamaaGreatDoor
open Go.RowKit

theorem eb_whole (w : World) (B : Nat) (og : Option Nat) : Und (eb w B og) w := ⟨by rw [eb_size]; exact Nat.le_refl _, fun p v h => (eb_cell h).2.2⟩
theorem ret_one {a b c d : Value} (h : Ending.returned (.tuple #[a, b]) = Ending.returned (.tuple #[c, d])) : a = c := by
  simp only [Ending.returned.injEq, Value.tuple.injEq, Array.mk.injEq, List.cons.injEq] at h
  exact h.1
set_option maxRecDepth 100000 in
set_option maxHeartbeats 40000000 in
theorem into_fld (n m : Nat) (s : So5) (b : Bo) (v : Nat) (k : Int) (nm : ByteArray) (h : Hd) (l : List Ty5) (step : Int) (w : World) (hs : SoH n w s) (hsn : SoN s) (hv : ViewAt w v s b) (ha : addrB (.mk k nm h l) = false) (kf : Nat → Bool) (hkf : ∀ b, w.heap.size ≤ b → kf b = true) (hk : k = 2) (i : Nat) (x : Su5) (hi : suAt s nm = (i : Int)) (hx : s.structs[i]? = some x) (j : Nat) (f : Fd5) (hj : step = (j : Int)) (hf : x.fields[j]? = some f) :
    Calls Tryz.prog 49 #[.pointer (some ⟨v, 0, none⟩), tyV (.mk k nm h l), .int .i64 step] w fun e w' => Below w.heap.size w w' ∧ ∃ y ok, e = .returned (.tuple #[tyV y, .bool ok]) ∧ intoR s n (.mk k nm h l) step = (if ok then some (erTy y) else none) ∧ ∃ f, TyH f (ebp w' kf) y := by
  have hjl : j < x.fields.length := (List.getElem?_eq_some_iff.1 hf).1
  have hp : plB step x.fields.length = true := by unfold plB; simp; omega
  have hir : intoR s n (.mk k nm h l) step = (if (resO s n f.ty).1 = 0 then some (resO s n f.ty).2 else none) := by
    simp only [intoR]
    rw [if_neg (by rw [ha]; decide), if_neg (by simp [hk]), if_neg (by omega), hi, Int.toNat_natCast, hx]
    simp only [hp, if_true]
    unfold fieldT
    rw [hj, Int.toNat_natCast, hf]
  have HIR := Lib.hid hir
  have HKF := Lib.hid hkf
  clear hkf
  have e2 : (k != 2) = false := by simp [hk]
  subst hj
  clear hk
  have hsu : SuH n w x := hs.1.2.2.2 x (List.mem_of_getElem? hx)
  obtain ⟨bs, os, hos, hbs, hcs⟩ := hs.1.2.2.1 (by have := (List.getElem?_eq_some_iff.1 hx).1; omega)
  obtain ⟨xn, xd, xh, xf, xq⟩ := x
  have gs : ∀ W, Below w.heap.size w W → W.cell? ⟨bs, os + i * 4 + 2, none⟩ = some (.slice xh.oa xf.length xh.cap) := fun W hW => (hW.cell (p := ⟨bs, os + i * 4 + 2, none⟩) hbs).trans (hcs i _ hx 2 _ rfl)
  have hil : i < s.structs.length := (List.getElem?_eq_some_iff.1 hx).1
  have hmx : s.structs.length ≤ 9223372036854775807 := by have h1 := hs.1.1; have h2 := hs.1.2.1; unfold maxLen at h2; omega
  obtain ⟨bf, ofs, hof, hbf, hcf⟩ := hsu.2.2.1 (by dsimp only at hjl ⊢; omega)
  have hft : TyH n w f.ty := hsu.2.2.2 f (List.mem_of_getElem? hf)
  have hfn : tyN f.ty ≤ 1000000 := hsn.1 _ (List.mem_of_getElem? hx) f (List.mem_of_getElem? hf)
  have hrs : ∀ W, Below w.heap.size w W → Calls Tryz.prog 83 #[soV s, tyV f.ty] W fun e w' => Below W.heap.size W w' ∧ ResP n W.heap.size w' (resO s n f.ty) e := fun W hW => resolve_any n n s f.ty W (SoH.below hs hW) (TyH.below n hft hW) hfn
  have hmf : xf.length ≤ 9223372036854775807 := by have h1 : xf.length ≤ xh.cap := hsu.1; have h2 : xh.cap ≤ maxLen := hsu.2.1; unfold maxLen at h2; omega
  obtain ⟨R, hR⟩ : ∃ R, R = resO s n f.ty := ⟨_, rfl⟩
  rw [← hR] at hrs HIR
  obtain ⟨fn, ⟨fk, fm, fh, fl⟩⟩ := f
  have gf1 : ∀ W, Below w.heap.size w W → W.cell? ⟨bf, ofs + j * 4 + 1, none⟩ = some (.int .i64 fk) := fun W hW => (hW.cell (p := ⟨bf, ofs + j * 4 + 1, none⟩) hbf).trans (hcf j _ hf 1 _ rfl)
  have gf2 : ∀ W, Below w.heap.size w W → W.cell? ⟨bf, ofs + j * 4 + 2, none⟩ = some (.string fm) := fun W hW => (hW.cell (p := ⟨bf, ofs + j * 4 + 2, none⟩) hbf).trans (hcf j _ hf 2 _ rfl)
  have gf3 : ∀ W, Below w.heap.size w W → W.cell? ⟨bf, ofs + j * 4 + 3, none⟩ = some (.slice fh.oa fl.length fh.cap) := fun W hW => (hW.cell (p := ⟨bf, ofs + j * 4 + 3, none⟩) hbf).trans (hcf j _ hf 3 _ rfl)
  have hpl := fun W => isPlace_any (j : Int) (xf.length : Int) W
  have HPL := Lib.hid (show ∀ W, Calls Tryz.prog 48 #[.int .i64 j, .int .i64 xf.length] W fun e w' => e = .returned (.bool true) ∧ w' = W from fun W => by have h1 := hpl W; rw [hp] at h1; exact h1)
  obtain ⟨mf, hmfl⟩ : ∃ k, xf.length = k := ⟨_, rfl⟩
  have hai := fun W => isAddress_any (.mk k nm h l) W
  rw [ha] at hai
  have hst : ∀ W, Below w.heap.size w W → Calls Tryz.prog 82 #[soV s, .string nm] W fun e w' => e = .returned (.int .i64 (suAt s nm)) ∧ Below W.heap.size W w' := fun W hW => SuOf_any n s nm W (SoH.below hs hW)
  obtain ⟨W0, hW⟩ : ∃ W, W = (w.alloc (.cells #[.int .i64 k, .string nm, .slice h.oa l.length h.cap] 46)).alloc (.cells #[.int .i64 0, .string ⟨#[]⟩, .slice none 0 0] 46) := ⟨_, rfl⟩
  obtain ⟨hb0, hx0, hx1⟩ := pal2 w (.cells #[.int .i64 k, .string nm, .slice h.oa l.length h.cap] 46) (.cells #[.int .i64 0, .string ⟨#[]⟩, .slice none 0 0] 46)
  rw [← hW] at hb0 hx0 hx1
  unfold ViewAt at hv
  rw [soV_hd] at hst
  obtain ⟨n1, hn1⟩ : ∃ k, s.structs.length = k := ⟨_, rfl⟩
  obtain ⟨n2, hn2⟩ : ∃ k, s.enums.length = k := ⟨_, rfl⟩
  obtain ⟨n3, hn3⟩ : ∃ k, s.fns.length = k := ⟨_, rfl⟩
  obtain ⟨o1, c1, hh1⟩ : ∃ o c, s.hs = ⟨o, c⟩ := ⟨_, _, rfl⟩
  obtain ⟨o2, c2, hh2⟩ : ∃ o c, s.he = ⟨o, c⟩ := ⟨_, _, rfl⟩
  obtain ⟨o3, c3, hh3⟩ : ∃ o c, s.hf = ⟨o, c⟩ := ⟨_, _, rfl⟩
  obtain ⟨m0, hm0⟩ : ∃ k, l.length = k := ⟨_, rfl⟩
  simp only [tyV, tyC] at hai ⊢
  simp only [hh1, hh2, hh3, hn1, hn2, hn3] at hst hv
  rw [hm0] at hai hx0 hW ⊢
  have HAI := Lib.hid hai
  have HVW := Lib.hid (show ∀ W, Below w.heap.size w W → W.heap[v]? = _ from fun W hW => (hW.block v (blk_lt hv)).trans hv)
  obtain ⟨N, hN⟩ : ∃ N, N = w.heap.size := ⟨_, rfl⟩
  have hvN : v < N := by rw [hN]; exact blk_lt hv
  rw [← hN] at hx0 hx1
  have HX := Lib.hid (And.intro hx0 hx1)
  have HN := Lib.hid hN
  have HB0 := Lib.hid hb0
  have HVN := Lib.hid hvN
  rw [hi] at hst
  rw [hn1] at hil hmx
  rw [hh1] at hos
  dsimp only at hos hof hjl
  rw [soV_hd] at hrs
  simp only [tyV, tyC, hh1, hh2, hh3, hn1, hn2, hn3] at hrs
  rw [hof] at gs
  rw [hmfl] at gs HPL hjl hmf
  have HST := Lib.hid hst
  have HGS := Lib.hid gs
  have HGF := Lib.hid (And.intro gf1 (And.intro gf2 gf3))
  have HRS := Lib.hid hrs
  have ti : decide ((i : Int) < 0) = false := by simp
  have ti0 : (0 : Int) ≤ i := by omega
  have ti1 : (i : Int) < n1 := by omega
  have tj0 : (0 : Int) ≤ j := by omega
  have tj1 : (j : Int) < mf := by omega
  clear hai hst hs hsn hv ha hi hir hx0 hx1 hb0 hn1 hn2 hn3 hh1 hh2 hh3 hm0 hvN hpl hp hx hsu hcs gs hil hR hrs hft hfn hcf hf gf1 gf2 gf3 hof hmfl hjl hbf hbs
  subst hos
  go_enter Tryz.func49, Tryz.ntmps49
  go_upto_region 1 with fail
  rw [← hW]
  clear hW
  try simp only [← hN]
  clear hN
  obtain ⟨y0, y1, y2, yf, yl⟩ := cells3p HX.out.1
  go_upto_region 3 with (go_at_call 81; refine (HAI.out W0).mono ?_; rintro e W1 ⟨rfl, hb1⟩; have HB1 := Lib.hid hb1; have HX1 := Lib.hid (And.intro ((hb1.block N (blk_lt HX.out.1)).trans HX.out.1) ((hb1.block (N + 1) (blk_lt HX.out.2)).trans HX.out.2)); obtain ⟨u0, u1, u2, uf, ul⟩ := cells3p HX1.out.1; clear hb1)
  clear y0 y1 y2 yf yl
  have HBW1 := Lib.hid (HB0.out.trans (HB1.out.mono HB0.out.size))
  go_upto_region 5 with fail
  obtain ⟨v0, v1, v2, v3, v4, v5, v6, vl⟩ := cells7 (HVW.out W1 HBW1.out)
  go_wp2_with fail
  refine wp_region_held_drew (S := (fun w' => w'.cell? ⟨v, 0, none⟩ = some (.slice (some ⟨bs, os, none⟩) n1 c1) ∧ w'.cell? ⟨v, 1, none⟩ = some (.slice o2 n2 c2) ∧ w'.cell? ⟨v, 2, none⟩ = some (.slice o3 n3 c3) ∧ w'.cell? ⟨N, 1, none⟩ = some (.string nm))) (by kernel_rfl) ?_ (fun hHeld => ?_)
  · exact ⟨v0, v1, v2, u1⟩
  clear u0 u1 u2 uf ul v0 v1 v2 v3 v4 v5 v6 vl
  refine wpAnyH_take (i := 0) (oi := { dst := some 23, op := Op.move (Operand.tmp 0), type := 85, pos := "view.go:39", after := #[], guard := none }) (v := ?vq0_1) rfl (by kernel_rfl) (by kernel_rfl) (by kernel_rfl) (fun _ _ _ h => h) (Or.inl ⟨by rfl, ?hq0_1⟩) (by assumption) ?_
  case hq0_1 => intro w hSw; (try dsimp only at hSw); go_simp; try (with_reducible rfl)
  (try simp only [Act.put, qA, qB, qC])
  refine wpAnyH_take (i := 1) (oi := { dst := some 24, op := Op.nilCheck (Operand.tmp 23), type := 0, pos := "view.go:39", after := #[{ on := 0, ground := Ground.data }], guard := none }) (v := ?vq1_2) rfl (by kernel_rfl) (by kernel_rfl) (by kernel_rfl) (fun _ _ _ h => h) (Or.inl ⟨by rfl, ?hq1_2⟩) (by assumption) ?_
  case hq1_2 => intro w hSw; (try dsimp only at hSw); go_simp; try (with_reducible rfl)
  (try simp only [Act.put, qA, qB, qC])
  refine wpAnyH_take (i := 2) (oi := { dst := some 25, op := Op.fieldAddr 87 (Operand.tmp 24) 0, type := 0, pos := "view.go:39", after := #[{ on := 1, ground := Ground.data }], guard := none }) (v := ?vq2_3) rfl (by kernel_rfl) (by kernel_rfl) (by kernel_rfl) (fun _ _ _ h => h) (Or.inl ⟨by rfl, ?hq2_3⟩) (by assumption) ?_
  case hq2_3 => intro w hSw; (try dsimp only at hSw); go_simp; try (with_reducible rfl)
  (try simp only [Act.put, qA, qB, qC])
  refine wpAnyH_take (i := 3) (oi := { dst := some 26, op := Op.load 26 (Operand.tmp 25), type := 26, pos := "view.go:39", after := #[{ on := 2, ground := Ground.data }], guard := none }) (v := ?vq3_4) rfl (by kernel_rfl) (by kernel_rfl) (by kernel_rfl) (fun _ _ _ h => h) (Or.inl ⟨by rfl, ?hq3_4⟩) (by assumption) ?_
  case hq3_4 => intro w hSw; (try dsimp only at hSw); go_simp; try (with_reducible rfl)
  (try simp only [Act.put, qA, qB, qC])
  refine wpAnyH_take (i := 4) (oi := { dst := some 27, op := Op.fieldAddr 46 (Operand.tmp 4) 1, type := 0, pos := "view.go:39", after := #[], guard := none }) (v := ?vq4_5) rfl (by kernel_rfl) (by kernel_rfl) (by kernel_rfl) (fun _ _ _ h => h) (Or.inl ⟨by rfl, ?hq4_5⟩) (by assumption) ?_
  case hq4_5 => intro w hSw; (try dsimp only at hSw); go_simp; try (with_reducible rfl)
  (try simp only [Act.put, qA, qB, qC])
  refine wpAnyH_take (i := 5) (oi := { dst := some 28, op := Op.load 9 (Operand.tmp 27), type := 9, pos := "view.go:39", after := #[{ on := 4, ground := Ground.data }], guard := none }) (v := ?vq5_6) rfl (by kernel_rfl) (by kernel_rfl) (by kernel_rfl) (fun _ _ _ h => h) (Or.inl ⟨by rfl, ?hq5_6⟩) (by assumption) ?_
  case hq5_6 => intro w hSw; (try dsimp only at hSw); go_simp; try (with_reducible rfl)
  (try simp only [Act.put, qA, qB, qC])
  refine wpAnyH_ready (rs := [6]) (by kernel_rfl) (by simp) ?_
  refine AllReadyH.cons (o := { dst := some 29, op := Op.call { callee := Callee.value (Operand.func 82), args := #[Operand.tmp 26, Operand.tmp 28], argTypes := #[26, 9] }, type := 3, pos := "view.go:39", after := #[{ on := 3, ground := Ground.data }, { on := 5, ground := Ground.data }], guard := none }) rfl (fun K hK => ?_) AllReadyH.nil
  go_simp
  refine (HST.out W1.drew (HBW1.out.trans ⟨rfl, rfl, rfl, Nat.le_refl _, fun _ _ => rfl⟩)).mono ?_
  rintro e W2 ⟨rfl, hb2⟩
  have HB2 := Lib.hid (show Below W1.heap.size W1 W2 from (show Below W1.heap.size W1 W1.drew from ⟨rfl, rfl, rfl, Nat.le_refl _, fun _ _ => rfl⟩).trans hb2)
  clear hb2
  have HBW2 := Lib.hid (HBW1.out.trans (HB2.out.mono HBW1.out.size))
  have HX2 := Lib.hid (And.intro ((HB2.out.block N (blk_lt HX1.out.1)).trans HX1.out.1) ((HB2.out.block (N + 1) (blk_lt HX1.out.2)).trans HX1.out.2))
  refine hK.out _ _ ?_ (fun hHeld => ?_)
  · obtain ⟨v0, v1, v2, v3, v4, v5, v6, vl⟩ := cells7 (HVW.out W2 HBW2.out)
    exact ⟨v0, v1, v2, (cells3p HX2.out.1).2.1⟩
  clear hK K
  (try simp only [Act.put, qA, qB, qC])
  refine wpAnyH_take (i := 7) (oi := { dst := some 8, op := Op.assign (Operand.tmp 29), type := 3, pos := "view.go:39", after := #[{ on := 6, ground := Ground.data }, { on := 6, ground := Ground.chain }, { on := 0, ground := Ground.phase }, { on := 1, ground := Ground.phase }, { on := 2, ground := Ground.phase }, { on := 3, ground := Ground.phase }, { on := 4, ground := Ground.phase }, { on := 5, ground := Ground.phase }, { on := 6, ground := Ground.phase }], guard := none }) (v := ?vq7_7) rfl (by kernel_rfl) (by kernel_rfl) (by kernel_rfl) (fun _ _ _ h => h) (Or.inl ⟨by rfl, ?hq7_7⟩) (by assumption) ?_
  case hq7_7 => intro w hSw; (try dsimp only at hSw); go_simp; try (with_reducible rfl)
  (try simp only [Act.put, qA, qB, qC])
  refine wpAnyH_done (by kernel_rfl) ?_ _
  obtain ⟨v0, v1, v2, v3, v4, v5, v6, vl⟩ := cells7 (HVW.out W2 HBW2.out)
  have gs2 := HGS.out W2 HBW2.out
  go_upto_region 8 with (go_at_call 48; refine (HPL.out _).mono ?_; rintro e w9 ⟨rfl, h9⟩; replace h9 := h9.symm; subst h9)
  have q0 := HGF.out.1 W2 HBW2.out
  have q1 := HGF.out.2.1 W2 HBW2.out
  have q2 := HGF.out.2.2 W2 HBW2.out
  go_wp2_with fail
  refine wp_region_held_drew (S := (fun w' => w'.cell? ⟨v, 0, none⟩ = some (.slice (some ⟨bs, os, none⟩) n1 c1) ∧ w'.cell? ⟨v, 1, none⟩ = some (.slice o2 n2 c2) ∧ w'.cell? ⟨v, 2, none⟩ = some (.slice o3 n3 c3) ∧ w'.cell? ⟨bs, os + i * 4 + 2, none⟩ = some (.slice (some ⟨bf, ofs, none⟩) mf xh.cap) ∧ w'.cell? ⟨bf, ofs + j * 4 + 1, none⟩ = some (.int .i64 fk) ∧ w'.cell? ⟨bf, ofs + j * 4 + 2, none⟩ = some (.string fm) ∧ w'.cell? ⟨bf, ofs + j * 4 + 3, none⟩ = some (.slice fh.oa fl.length fh.cap))) (by kernel_rfl) ?_ (fun hHeld => ?_)
  · exact ⟨v0, v1, v2, gs2, q0, q1, q2⟩
  clear v0 v1 v2 v3 v4 v5 v6 vl gs2 q0 q1 q2
  refine wpAnyH_take (i := 0) (oi := { dst := some 49, op := Op.move (Operand.tmp 0), type := 85, pos := "view.go:43", after := #[], guard := none }) (v := ?vq0_8) rfl (by kernel_rfl) (by kernel_rfl) (by kernel_rfl) (fun _ _ _ h => h) (Or.inl ⟨by rfl, ?hq0_8⟩) (by assumption) ?_
  case hq0_8 => intro w hSw; (try dsimp only at hSw); go_simp; try (with_reducible rfl)
  (try simp only [Act.put, qA, qB, qC])
  refine wpAnyH_take (i := 1) (oi := { dst := some 50, op := Op.nilCheck (Operand.tmp 49), type := 0, pos := "view.go:43", after := #[{ on := 0, ground := Ground.data }], guard := none }) (v := ?vq1_9) rfl (by kernel_rfl) (by kernel_rfl) (by kernel_rfl) (fun _ _ _ h => h) (Or.inl ⟨by rfl, ?hq1_9⟩) (by assumption) ?_
  case hq1_9 => intro w hSw; (try dsimp only at hSw); go_simp; try (with_reducible rfl)
  (try simp only [Act.put, qA, qB, qC])
  refine wpAnyH_take (i := 2) (oi := { dst := some 51, op := Op.fieldAddr 87 (Operand.tmp 50) 0, type := 0, pos := "view.go:43", after := #[{ on := 1, ground := Ground.data }], guard := none }) (v := ?vq2_10) rfl (by kernel_rfl) (by kernel_rfl) (by kernel_rfl) (fun _ _ _ h => h) (Or.inl ⟨by rfl, ?hq2_10⟩) (by assumption) ?_
  case hq2_10 => intro w hSw; (try dsimp only at hSw); go_simp; try (with_reducible rfl)
  (try simp only [Act.put, qA, qB, qC])
  refine wpAnyH_take (i := 3) (oi := { dst := some 52, op := Op.load 26 (Operand.tmp 51), type := 26, pos := "view.go:43", after := #[{ on := 2, ground := Ground.data }], guard := none }) (v := ?vq3_11) rfl (by kernel_rfl) (by kernel_rfl) (by kernel_rfl) (fun _ _ _ h => h) (Or.inl ⟨by rfl, ?hq3_11⟩) (by assumption) ?_
  case hq3_11 => intro w hSw; (try dsimp only at hSw); go_simp; try (with_reducible rfl)
  (try simp only [Act.put, qA, qB, qC])
  refine wpAnyH_take (i := 4) (oi := { dst := some 53, op := Op.move (Operand.tmp 0), type := 85, pos := "view.go:43", after := #[], guard := none }) (v := ?vq4_12) rfl (by kernel_rfl) (by kernel_rfl) (by kernel_rfl) (fun _ _ _ h => h) (Or.inl ⟨by rfl, ?hq4_12⟩) (by assumption) ?_
  case hq4_12 => intro w hSw; (try dsimp only at hSw); go_simp; try (with_reducible rfl)
  (try simp only [Act.put, qA, qB, qC])
  refine wpAnyH_take (i := 5) (oi := { dst := some 54, op := Op.nilCheck (Operand.tmp 53), type := 0, pos := "view.go:43", after := #[{ on := 4, ground := Ground.data }], guard := none }) (v := ?vq5_13) rfl (by kernel_rfl) (by kernel_rfl) (by kernel_rfl) (fun _ _ _ h => h) (Or.inl ⟨by rfl, ?hq5_13⟩) (by assumption) ?_
  case hq5_13 => intro w hSw; (try dsimp only at hSw); go_simp; try (with_reducible rfl)
  (try simp only [Act.put, qA, qB, qC])
  refine wpAnyH_take (i := 6) (oi := { dst := some 55, op := Op.fieldAddr 87 (Operand.tmp 54) 0, type := 0, pos := "view.go:43", after := #[{ on := 5, ground := Ground.data }], guard := none }) (v := ?vq6_14) rfl (by kernel_rfl) (by kernel_rfl) (by kernel_rfl) (fun _ _ _ h => h) (Or.inl ⟨by rfl, ?hq6_14⟩) (by assumption) ?_
  case hq6_14 => intro w hSw; (try dsimp only at hSw); go_simp; try (with_reducible rfl)
  (try simp only [Act.put, qA, qB, qC])
  refine wpAnyH_take (i := 7) (oi := { dst := some 56, op := Op.fieldAddr 26 (Operand.tmp 55) 0, type := 0, pos := "view.go:43", after := #[{ on := 6, ground := Ground.data }], guard := none }) (v := ?vq7_15) rfl (by kernel_rfl) (by kernel_rfl) (by kernel_rfl) (fun _ _ _ h => h) (Or.inl ⟨by rfl, ?hq7_15⟩) (by assumption) ?_
  case hq7_15 => intro w hSw; (try dsimp only at hSw); go_simp; try (with_reducible rfl)
  (try simp only [Act.put, qA, qB, qC])
  refine wpAnyH_take (i := 8) (oi := { dst := some 57, op := Op.load 22 (Operand.tmp 56), type := 22, pos := "view.go:43", after := #[{ on := 7, ground := Ground.data }], guard := none }) (v := ?vq8_16) rfl (by kernel_rfl) (by kernel_rfl) (by kernel_rfl) (fun _ _ _ h => h) (Or.inl ⟨by rfl, ?hq8_16⟩) (by assumption) ?_
  case hq8_16 => intro w hSw; (try dsimp only at hSw); go_simp; try (with_reducible rfl)
  (try simp only [Act.put, qA, qB, qC])
  refine wpAnyH_take (i := 9) (oi := { dst := some 58, op := Op.move (Operand.tmp 8), type := 3, pos := "view.go:43", after := #[], guard := none }) (v := ?vq9_17) rfl (by kernel_rfl) (by kernel_rfl) (by kernel_rfl) (fun _ _ _ h => h) (Or.inl ⟨by rfl, ?hq9_17⟩) (by assumption) ?_
  case hq9_17 => intro w hSw; (try dsimp only at hSw); go_simp; try (with_reducible rfl)
  (try simp only [Act.put, qA, qB, qC])
  refine wpAnyH_take (i := 10) (oi := { dst := some 59, op := Op.indexAddr 22 (Operand.tmp 57) (Operand.tmp 58), type := 0, pos := "view.go:43", after := #[{ on := 8, ground := Ground.data }, { on := 9, ground := Ground.data }], guard := none }) (v := ?vq10_18) rfl (by kernel_rfl) (by kernel_rfl) (by kernel_rfl) (fun _ _ _ h => h) (Or.inl ⟨by rfl, ?hq10_18⟩) (by assumption) ?_
  case hq10_18 => intro w hSw; (try dsimp only at hSw); go_simp; try (with_reducible rfl)
  (try simp only [Act.put, qA, qB, qC])
  refine wpAnyH_take (i := 11) (oi := { dst := some 60, op := Op.fieldAddr 71 (Operand.tmp 59) 2, type := 0, pos := "view.go:43", after := #[{ on := 10, ground := Ground.data }], guard := none }) (v := ?vq11_19) rfl (by kernel_rfl) (by kernel_rfl) (by kernel_rfl) (fun _ _ _ h => h) (Or.inl ⟨by rfl, ?hq11_19⟩) (by assumption) ?_
  case hq11_19 => intro w hSw; (try dsimp only at hSw); go_simp; try (with_reducible rfl)
  (try simp only [Act.put, qA, qB, qC])
  refine wpAnyH_take (i := 12) (oi := { dst := some 61, op := Op.load 69 (Operand.tmp 60), type := 69, pos := "view.go:43", after := #[{ on := 11, ground := Ground.data }], guard := none }) (v := ?vq12_20) rfl (by kernel_rfl) (by kernel_rfl) (by kernel_rfl) (fun _ _ _ h => h) (Or.inl ⟨by rfl, ?hq12_20⟩) (by assumption) ?_
  case hq12_20 => intro w hSw; (try dsimp only at hSw); go_simp; try (with_reducible rfl)
  (try simp only [Act.put, qA, qB, qC])
  refine wpAnyH_take (i := 13) (oi := { dst := some 62, op := Op.move (Operand.tmp 2), type := 3, pos := "view.go:43", after := #[], guard := none }) (v := ?vq13_21) rfl (by kernel_rfl) (by kernel_rfl) (by kernel_rfl) (fun _ _ _ h => h) (Or.inl ⟨by rfl, ?hq13_21⟩) (by assumption) ?_
  case hq13_21 => intro w hSw; (try dsimp only at hSw); go_simp; try (with_reducible rfl)
  (try simp only [Act.put, qA, qB, qC])
  refine wpAnyH_take (i := 14) (oi := { dst := some 63, op := Op.indexAddr 69 (Operand.tmp 61) (Operand.tmp 62), type := 0, pos := "view.go:43", after := #[{ on := 12, ground := Ground.data }, { on := 13, ground := Ground.data }], guard := none }) (v := ?vq14_22) rfl (by kernel_rfl) (by kernel_rfl) (by kernel_rfl) (fun _ _ _ h => h) (Or.inl ⟨by rfl, ?hq14_22⟩) (by assumption) ?_
  case hq14_22 => intro w hSw; (try dsimp only at hSw); go_simp; try (with_reducible rfl)
  (try simp only [Act.put, qA, qB, qC])
  refine wpAnyH_take (i := 15) (oi := { dst := some 64, op := Op.fieldAddr 92 (Operand.tmp 63) 1, type := 0, pos := "view.go:43", after := #[{ on := 14, ground := Ground.data }], guard := none }) (v := ?vq15_23) rfl (by kernel_rfl) (by kernel_rfl) (by kernel_rfl) (fun _ _ _ h => h) (Or.inl ⟨by rfl, ?hq15_23⟩) (by assumption) ?_
  case hq15_23 => intro w hSw; (try dsimp only at hSw); go_simp; try (with_reducible rfl)
  (try simp only [Act.put, qA, qB, qC])
  refine wpAnyH_take (i := 16) (oi := { dst := some 65, op := Op.load 46 (Operand.tmp 64), type := 46, pos := "view.go:43", after := #[{ on := 15, ground := Ground.data }], guard := none }) (v := ?vq16_24) rfl (by kernel_rfl) (by kernel_rfl) (by kernel_rfl) (fun _ _ _ h => h) (Or.inl ⟨by rfl, ?hq16_24⟩) (by assumption) ?_
  case hq16_24 => intro w hSw; (try dsimp only at hSw); go_simp; try (with_reducible rfl)
  (try simp only [Act.put, qA, qB, qC])
  refine wpAnyH_ready (rs := [17, 21]) (by kernel_rfl) (by simp) ?_
  refine AllReadyH.cons (o := { dst := some 66, op := Op.call { callee := Callee.value (Operand.func 83), args := #[Operand.tmp 52, Operand.tmp 65], argTypes := #[26, 46] }, type := 51, pos := "view.go:43", after := #[{ on := 3, ground := Ground.data }, { on := 16, ground := Ground.data }], guard := none }) rfl (fun K hK => ?_) (AllReadyH.cons (o := { dst := some 9, op := Op.alloc 46, type := 0, pos := "view.go:43", after := #[], guard := none }) rfl (fun K hK => ?_) AllReadyH.nil)
  · go_simp
    refine (HRS.out W2.drew (HBW2.out.trans ⟨rfl, rfl, rfl, Nat.le_refl _, fun _ _ => rfl⟩)).mono ?_
    rintro e W4 ⟨hb4, hp4⟩
    obtain ⟨kk, nn, oa, mm, cc, he⟩ := hp4.val
    subst he
    have HB4 := Lib.hid (show Below W2.heap.size W2 W4 from (show Below W2.heap.size W2 W2.drew from ⟨rfl, rfl, rfl, Nat.le_refl _, fun _ _ => rfl⟩).trans hb4)
    have HP4 := Lib.hid (show ResP n W2.heap.size W4 R (.returned (.tuple #[.agg #[.int .i64 kk, .string nn, .slice oa mm cc], .int .i64 R.1])) from hp4)
    have HBW4 := Lib.hid (HBW2.out.trans (HB4.out.mono HBW2.out.size))
    clear hb4 hp4
    refine hK.out _ _ ?_ (fun hHeld => ?_)
    · obtain ⟨v0, v1, v2, v3, v4, v5, v6, vl⟩ := cells7 (HVW.out W4 HBW4.out)
      exact ⟨v0, v1, v2, HGS.out W4 HBW4.out, HGF.out.1 W4 HBW4.out, HGF.out.2.1 W4 HBW4.out, HGF.out.2.2 W4 HBW4.out⟩
    clear hK K
    (try simp only [Act.put, qA, qB, qC])
    refine wpAnyH_take (i := 18) (oi := { dst := some 48, op := Op.move (Operand.tmp 66), type := 51, pos := "view.go:43", after := #[{ on := 17, ground := Ground.data }], guard := none }) (v := ?vq18_25) rfl (by kernel_rfl) (by kernel_rfl) (by kernel_rfl) (fun _ _ _ h => h) (Or.inl ⟨by rfl, ?hq18_25⟩) (by assumption) ?_
    case hq18_25 => intro w hSw; (try dsimp only at hSw); go_simp; try (with_reducible rfl)
    (try simp only [Act.put, qA, qB, qC])
    refine wpAnyH_take (i := 19) (oi := { dst := some 67, op := Op.extract (Operand.tmp 48) 0, type := 46, pos := "view.go:43", after := #[{ on := 18, ground := Ground.data }], guard := none }) (v := ?vq19_26) rfl (by kernel_rfl) (by kernel_rfl) (by kernel_rfl) (fun _ _ _ h => h) (Or.inl ⟨by rfl, ?hq19_26⟩) (by assumption) ?_
    case hq19_26 => intro w hSw; (try dsimp only at hSw); go_simp; try (with_reducible rfl)
    (try simp only [Act.put, qA, qB, qC])
    refine wpAnyH_take (i := 20) (oi := { dst := some 68, op := Op.extract (Operand.tmp 48) 1, type := 47, pos := "view.go:43", after := #[{ on := 18, ground := Ground.data }, { on := 22, ground := Ground.gcOnly Departure.lateStores }], guard := none }) (v := ?vq20_27) rfl (by kernel_rfl) (by kernel_rfl) (by kernel_rfl) (fun _ _ _ h => h) (Or.inl ⟨by rfl, ?hq20_27⟩) (by assumption) ?_
    case hq20_27 => intro w hSw; (try dsimp only at hSw); go_simp; try (with_reducible rfl)
    (try simp only [Act.put, qA, qB, qC])
    refine wpAnyH_ready (rs := [21]) (by kernel_rfl) (by simp) ?_
    refine AllReadyH.cons (o := { dst := some 9, op := Op.alloc 46, type := 0, pos := "view.go:43", after := #[], guard := none }) rfl (fun K hK => ?_) AllReadyH.nil
    go_simp
    obtain ⟨M, hM⟩ : ∃ M, M = W4.heap.size := ⟨_, rfl⟩
    obtain ⟨W6, hW6⟩ : ∃ W, W = W4.alloc (.cells #[.int .i64 0, .string ⟨#[]⟩, .slice none 0 0] 46) := ⟨_, rfl⟩
    rw [← hW6]
    have HM := Lib.hid (show W6.heap[M]? = some (.cells #[.int .i64 0, .string ⟨#[]⟩, .slice none 0 0] 46) ∧ W2.heap.size ≤ M ∧ Below W2.heap.size W2 W6 ∧ (∀ W5 : World, W6.heap.size ≤ W5.heap.size → (∀ x, x ≠ M → W5.heap[x]? = W6.heap[x]?) → ResP n W2.heap.size W5 R (.returned (.tuple #[.agg #[.int .i64 kk, .string nn, .slice oa mm cc], .int .i64 R.1]))) from by
      subst hW6
      subst hM
      refine ⟨heap_alloc_new _ _, HB4.out.size, HB4.out.alloc HB4.out.size _, fun W5 h1 h2 => HP4.out.keep (eb_und (by simp at h1; omega) fun y hy h3 h4 => ⟨h3, h4, (h2 y (by omega)).trans ((alloc_below W4 _).block y hy)⟩)⟩)
    have HBW6 := Lib.hid (HBW2.out.trans (HM.out.2.2.1.mono HBW2.out.size))
    try simp only [← hM]
    clear hM hW6
    refine hK.out _ _ ?_ (fun hHeld => ?_)
    · obtain ⟨v0, v1, v2, v3, v4, v5, v6, vl⟩ := cells7 (HVW.out W6 HBW6.out)
      exact ⟨v0, v1, v2, HGS.out W6 HBW6.out, HGF.out.1 W6 HBW6.out, HGF.out.2.1 W6 HBW6.out, HGF.out.2.2 W6 HBW6.out⟩
    clear hK K
    (try simp only [Act.put, qA, qB, qC])
    refine wpAnyH_ready (rs := [22]) (by kernel_rfl) (by simp) ?_
    refine AllReadyH.cons (o := { dst := none, op := Op.store 46 (Operand.tmp 9) (Operand.tmp 67), type := 0, pos := "view.go:43", after := #[{ on := 21, ground := Ground.data }, { on := 19, ground := Ground.data }, { on := 17, ground := Ground.chain }, { on := 0, ground := Ground.phase }, { on := 1, ground := Ground.phase }, { on := 2, ground := Ground.phase }, { on := 3, ground := Ground.phase }, { on := 4, ground := Ground.phase }, { on := 5, ground := Ground.phase }, { on := 6, ground := Ground.phase }, { on := 7, ground := Ground.phase }, { on := 8, ground := Ground.phase }, { on := 9, ground := Ground.phase }, { on := 10, ground := Ground.phase }, { on := 11, ground := Ground.phase }, { on := 12, ground := Ground.phase }, { on := 13, ground := Ground.phase }, { on := 14, ground := Ground.phase }, { on := 15, ground := Ground.phase }, { on := 16, ground := Ground.phase }, { on := 17, ground := Ground.phase }, { on := 18, ground := Ground.phase }, { on := 19, ground := Ground.phase }, { on := 20, ground := Ground.textOnly Departure.lateStores }, { on := 21, ground := Ground.phase }], guard := none }) rfl (fun K hK => ?_) AllReadyH.nil
    rw [if_pos (by rfl)]
    refine wp_store_box 46 (.tmp 9) (.tmp 67) rfl M 0 rfl (.agg #[.int .i64 kk, .string nn, .slice oa mm cc]) rfl [.int .i64 kk, .string nn, .slice oa mm cc] rfl [.int .i64 0, .string ⟨#[]⟩, .slice none 0 0] 46 HM.out.1 (Nat.le_refl _) (show (Tryz.prog.info? 46).map (·.size) = some 3 by kernel_rfl) ?cs1a M (Nat.le_refl _) W6 (Below.refl _ _) ?_
    try case cs1a => first | exact ⟨rfl, rfl, rfl⟩ | (intro v hv; simp at hv; rcases hv with rfl | rfl | rfl <;> rfl)
    intro W5 hb5 hbx hoth
    have HB5 := Lib.hid (show Below W2.heap.size W2 W5 from HM.out.2.2.1.trans (hb5.mono HM.out.2.1))
    have HBW5 := Lib.hid (HBW2.out.trans (HB5.out.mono HBW2.out.size))
    have HP5 := Lib.hid (show ResP n W2.heap.size W5 R (.returned (.tuple #[.agg #[.int .i64 kk, .string nn, .slice oa mm cc], .int .i64 R.1])) from HM.out.2.2.2 W5 hb5.size hoth)
    have HM5 := Lib.hid (And.intro hbx HM.out.2.1)
    clear hb5 hbx hoth HM
    refine hK.out _ _ ?_ (fun hHeld => ?_)
    · obtain ⟨v0, v1, v2, v3, v4, v5, v6, vl⟩ := cells7 (HVW.out W5 HBW5.out)
      exact ⟨v0, v1, v2, HGS.out W5 HBW5.out, HGF.out.1 W5 HBW5.out, HGF.out.2.1 W5 HBW5.out, HGF.out.2.2 W5 HBW5.out⟩
    clear hK K
    (try simp only [Act.put, qA, qB, qC])
    refine wpAnyH_take (i := 23) (oi := { dst := some 10, op := Op.assign (Operand.tmp 68), type := 47, pos := "view.go:43", after := #[{ on := 20, ground := Ground.data }, { on := 22, ground := Ground.chain }, { on := 0, ground := Ground.phase }, { on := 1, ground := Ground.phase }, { on := 2, ground := Ground.phase }, { on := 3, ground := Ground.phase }, { on := 4, ground := Ground.phase }, { on := 5, ground := Ground.phase }, { on := 6, ground := Ground.phase }, { on := 7, ground := Ground.phase }, { on := 8, ground := Ground.phase }, { on := 9, ground := Ground.phase }, { on := 10, ground := Ground.phase }, { on := 11, ground := Ground.phase }, { on := 12, ground := Ground.phase }, { on := 13, ground := Ground.phase }, { on := 14, ground := Ground.phase }, { on := 15, ground := Ground.phase }, { on := 16, ground := Ground.phase }, { on := 17, ground := Ground.phase }, { on := 18, ground := Ground.phase }, { on := 19, ground := Ground.phase }, { on := 20, ground := Ground.phase }, { on := 21, ground := Ground.phase }, { on := 22, ground := Ground.phase }], guard := none }) (v := ?vq23_28) rfl (by kernel_rfl) (by kernel_rfl) (by kernel_rfl) (fun _ _ _ h => h) (Or.inl ⟨by rfl, ?hq23_28⟩) (by assumption) ?_
    case hq23_28 => intro w hSw; (try dsimp only at hSw); go_simp; try (with_reducible rfl)
    (try simp only [Act.put, qA, qB, qC])
    refine wpAnyH_done (by kernel_rfl) ?_ _
    obtain ⟨m0', m1, m2, mf', ml⟩ := cells3p HM5.out.1
    have hx5 := (HB5.out.block (N + 1) (blk_lt HX2.out.2)).trans HX2.out.2
    have hM : M ≠ N + 1 := fun e => by have h1 := HM5.out.2; have h2 := blk_lt HX2.out.2; omega
    go_wp2_with (refine wpList_store_box rfl 46 (.tmp 6) (.tmp 69) rfl (N + 1) 0 rfl (.agg #[.int .i64 kk, .string nn, .slice oa mm cc]) rfl [.int .i64 kk, .string nn, .slice oa mm cc] rfl [.int .i64 0, .string ⟨#[]⟩, .slice none 0 0] 46 hx5 (Nat.le_refl _) (show (Tryz.prog.info? 46).map (·.size) = some 3 by kernel_rfl) ?cs2a (N + 1) (Nat.le_refl _) W5 (Below.refl _ _) ?_)
    try case cs2a => first | exact ⟨rfl, rfl, rfl⟩ | (intro v hv; simp at hv; rcases hv with rfl | rfl | rfl <;> rfl)
    intro WF hb hbx hoth
    have HF := Lib.hid (HBW5.out.trans (hb.mono (by have := HN.out; omega)))
    have hpf : ResP n W2.heap.size WF R (.returned (.tuple #[.agg #[.int .i64 kk, .string nn, .slice oa mm cc], .int .i64 R.1])) := HP5.out.keep (eb_und hb.size fun y hy h1 h2 => ⟨h1, h2, hoth y (fun e => by have h3 := blk_lt HX2.out.2; omega)⟩)
    have HPF := Lib.hid hpf
    obtain ⟨f0, f1, f2, ff, fl'⟩ := cells3p hbx
    clear hb hoth hbx hx5 hM m0' m1 m2 mf' ml hpf
    by_cases hr : R.1 = 0
    · have er : (R.1 == 0) = true := by simpa using hr
      have HR0 := Lib.hid hr
      clear hr
      go_wp2
      refine bodyPost_ret (v := .tuple #[.agg #[.int .i64 kk, .string nn, .slice oa mm cc], .bool true]) (by simp [results, Tryz.results49, go_sem, f0, f1, f2, HR0.out]) rfl ⟨HF.out, ?_⟩
      have hp := HPF.out
      unfold ResP at hp
      rw [if_pos HR0.out] at hp
      obtain ⟨y, hy1, hy2, hy3⟩ := hp
      refine ⟨y, true, ?_, by rw [HIR.out, if_pos HR0.out, hy2]; rfl, n, TyH.und n _ _ _ (eb_kf (Nat.le_refl _) (fun y hy => HKF.out y (by have := HBW2.out.size; omega)) fun _ _ _ => rfl) hy3⟩
      rw [ret_one hy1]
      rfl
    · have er : (R.1 == 0) = false := by simpa using hr
      have HR0 := Lib.hid hr
      clear hr
      go_wp2
      refine bodyPost_ret (v := .tuple #[.agg #[.int .i64 kk, .string nn, .slice oa mm cc], .bool false]) (by simp [results, Tryz.results49, go_sem, f0, f1, f2, HR0.out]) rfl ⟨HF.out, ?_⟩
      have hp := HPF.out
      unfold ResP at hp
      rw [if_neg HR0.out] at hp
      refine ⟨ty0, false, ?_, by rw [HIR.out, if_neg HR0.out]; rfl, 1, by unfold I64; omega, Row.nil _ _ _ _⟩
      rw [ret_one hp]
      rfl
  · go_simp
    obtain ⟨M, hM⟩ : ∃ M, M = W2.heap.size := ⟨_, rfl⟩
    obtain ⟨W4, hW4⟩ : ∃ W, W = (W2.alloc (.cells #[.int .i64 0, .string ⟨#[]⟩, .slice none 0 0] 46)).drew := ⟨_, rfl⟩
    rw [← hW4]
    have HM4 := Lib.hid (show W4.heap[M]? = some (.cells #[.int .i64 0, .string ⟨#[]⟩, .slice none 0 0] 46) ∧ W2.heap.size ≤ M ∧ Below W2.heap.size W2 W4 ∧ M < W4.heap.size from by
      subst hW4
      subst hM
      exact ⟨heap_alloc_new W2 _, Nat.le_refl _, (alloc_below W2 (.cells #[.int .i64 0, .string ⟨#[]⟩, .slice none 0 0] 46)).trans ⟨rfl, rfl, rfl, Nat.le_refl _, fun _ _ => rfl⟩, blk_lt (heap_alloc_new W2 (.cells #[.int .i64 0, .string ⟨#[]⟩, .slice none 0 0] 46))⟩)
    have HBW4 := Lib.hid (HBW2.out.trans (HM4.out.2.2.1.mono HBW2.out.size))
    try simp only [← hM]
    clear hM hW4
    refine hK.out _ _ ?_ (fun hHeld => ?_)
    · obtain ⟨v0, v1, v2, v3, v4, v5, v6, vl⟩ := cells7 (HVW.out W4 HBW4.out)
      exact ⟨v0, v1, v2, HGS.out W4 HBW4.out, HGF.out.1 W4 HBW4.out, HGF.out.2.1 W4 HBW4.out, HGF.out.2.2 W4 HBW4.out⟩
    clear hK K
    (try simp only [Act.put, qA, qB, qC])
    refine wpAnyH_ready (rs := [17]) (by kernel_rfl) (by simp) ?_
    refine AllReadyH.cons (o := { dst := some 66, op := Op.call { callee := Callee.value (Operand.func 83), args := #[Operand.tmp 52, Operand.tmp 65], argTypes := #[26, 46] }, type := 51, pos := "view.go:43", after := #[{ on := 3, ground := Ground.data }, { on := 16, ground := Ground.data }], guard := none }) rfl (fun K hK => ?_) AllReadyH.nil
    go_simp
    refine (HRS.out W4 (HBW4.out)).mono ?_
    rintro e W6 ⟨hb4, hp4⟩
    obtain ⟨kk, nn, oa, mm, cc, he⟩ := hp4.val
    subst he
    have HM := Lib.hid (show W6.heap[M]? = some (.cells #[.int .i64 0, .string ⟨#[]⟩, .slice none 0 0] 46) ∧ W2.heap.size ≤ M ∧ Below W2.heap.size W2 W6 ∧ (∀ W5 : World, W6.heap.size ≤ W5.heap.size → (∀ x, x ≠ M → W5.heap[x]? = W6.heap[x]?) → ResP n W2.heap.size W5 R (.returned (.tuple #[.agg #[.int .i64 kk, .string nn, .slice oa mm cc], .int .i64 R.1]))) from
      ⟨(hb4.block M HM4.out.2.2.2).trans HM4.out.1, HM4.out.2.1, HM4.out.2.2.1.trans (hb4.mono HM4.out.2.2.1.size), fun W5 h1 h2 => hp4.keep (eb_und h1 fun y hy h3 h4 => ⟨Nat.le_trans HM4.out.2.2.1.size h3, h4, h2 y (fun e => by have := HM4.out.2.2.2; omega)⟩)⟩)
    have HBW6 := Lib.hid (HBW2.out.trans (HM.out.2.2.1.mono HBW2.out.size))
    clear hb4 hp4 HM4
    refine hK.out _ _ ?_ (fun hHeld => ?_)
    · obtain ⟨v0, v1, v2, v3, v4, v5, v6, vl⟩ := cells7 (HVW.out W6 HBW6.out)
      exact ⟨v0, v1, v2, HGS.out W6 HBW6.out, HGF.out.1 W6 HBW6.out, HGF.out.2.1 W6 HBW6.out, HGF.out.2.2 W6 HBW6.out⟩
    clear hK K
    (try simp only [Act.put, qA, qB, qC])
    refine wpAnyH_take (i := 18) (oi := { dst := some 48, op := Op.move (Operand.tmp 66), type := 51, pos := "view.go:43", after := #[{ on := 17, ground := Ground.data }], guard := none }) (v := ?vq18_29) rfl (by kernel_rfl) (by kernel_rfl) (by kernel_rfl) (fun _ _ _ h => h) (Or.inl ⟨by rfl, ?hq18_29⟩) (by assumption) ?_
    case hq18_29 => intro w hSw; (try dsimp only at hSw); go_simp; try (with_reducible rfl)
    (try simp only [Act.put, qA, qB, qC])
    refine wpAnyH_take (i := 19) (oi := { dst := some 67, op := Op.extract (Operand.tmp 48) 0, type := 46, pos := "view.go:43", after := #[{ on := 18, ground := Ground.data }], guard := none }) (v := ?vq19_30) rfl (by kernel_rfl) (by kernel_rfl) (by kernel_rfl) (fun _ _ _ h => h) (Or.inl ⟨by rfl, ?hq19_30⟩) (by assumption) ?_
    case hq19_30 => intro w hSw; (try dsimp only at hSw); go_simp; try (with_reducible rfl)
    (try simp only [Act.put, qA, qB, qC])
    refine wpAnyH_take (i := 20) (oi := { dst := some 68, op := Op.extract (Operand.tmp 48) 1, type := 47, pos := "view.go:43", after := #[{ on := 18, ground := Ground.data }, { on := 22, ground := Ground.gcOnly Departure.lateStores }], guard := none }) (v := ?vq20_31) rfl (by kernel_rfl) (by kernel_rfl) (by kernel_rfl) (fun _ _ _ h => h) (Or.inl ⟨by rfl, ?hq20_31⟩) (by assumption) ?_
    case hq20_31 => intro w hSw; (try dsimp only at hSw); go_simp; try (with_reducible rfl)
    (try simp only [Act.put, qA, qB, qC])
    refine wpAnyH_ready (rs := [22]) (by kernel_rfl) (by simp) ?_
    refine AllReadyH.cons (o := { dst := none, op := Op.store 46 (Operand.tmp 9) (Operand.tmp 67), type := 0, pos := "view.go:43", after := #[{ on := 21, ground := Ground.data }, { on := 19, ground := Ground.data }, { on := 17, ground := Ground.chain }, { on := 0, ground := Ground.phase }, { on := 1, ground := Ground.phase }, { on := 2, ground := Ground.phase }, { on := 3, ground := Ground.phase }, { on := 4, ground := Ground.phase }, { on := 5, ground := Ground.phase }, { on := 6, ground := Ground.phase }, { on := 7, ground := Ground.phase }, { on := 8, ground := Ground.phase }, { on := 9, ground := Ground.phase }, { on := 10, ground := Ground.phase }, { on := 11, ground := Ground.phase }, { on := 12, ground := Ground.phase }, { on := 13, ground := Ground.phase }, { on := 14, ground := Ground.phase }, { on := 15, ground := Ground.phase }, { on := 16, ground := Ground.phase }, { on := 17, ground := Ground.phase }, { on := 18, ground := Ground.phase }, { on := 19, ground := Ground.phase }, { on := 20, ground := Ground.textOnly Departure.lateStores }, { on := 21, ground := Ground.phase }], guard := none }) rfl (fun K hK => ?_) AllReadyH.nil
    rw [if_pos (by rfl)]
    refine wp_store_box 46 (.tmp 9) (.tmp 67) rfl M 0 rfl (.agg #[.int .i64 kk, .string nn, .slice oa mm cc]) rfl [.int .i64 kk, .string nn, .slice oa mm cc] rfl [.int .i64 0, .string ⟨#[]⟩, .slice none 0 0] 46 HM.out.1 (Nat.le_refl _) (show (Tryz.prog.info? 46).map (·.size) = some 3 by kernel_rfl) ?cs1b M (Nat.le_refl _) W6 (Below.refl _ _) ?_
    try case cs1b => first | exact ⟨rfl, rfl, rfl⟩ | (intro v hv; simp at hv; rcases hv with rfl | rfl | rfl <;> rfl)
    intro W5 hb5 hbx hoth
    have HB5 := Lib.hid (show Below W2.heap.size W2 W5 from HM.out.2.2.1.trans (hb5.mono HM.out.2.1))
    have HBW5 := Lib.hid (HBW2.out.trans (HB5.out.mono HBW2.out.size))
    have HP5 := Lib.hid (show ResP n W2.heap.size W5 R (.returned (.tuple #[.agg #[.int .i64 kk, .string nn, .slice oa mm cc], .int .i64 R.1])) from HM.out.2.2.2 W5 hb5.size hoth)
    have HM5 := Lib.hid (And.intro hbx HM.out.2.1)
    clear hb5 hbx hoth HM
    refine hK.out _ _ ?_ (fun hHeld => ?_)
    · obtain ⟨v0, v1, v2, v3, v4, v5, v6, vl⟩ := cells7 (HVW.out W5 HBW5.out)
      exact ⟨v0, v1, v2, HGS.out W5 HBW5.out, HGF.out.1 W5 HBW5.out, HGF.out.2.1 W5 HBW5.out, HGF.out.2.2 W5 HBW5.out⟩
    clear hK K
    (try simp only [Act.put, qA, qB, qC])
    refine wpAnyH_take (i := 23) (oi := { dst := some 10, op := Op.assign (Operand.tmp 68), type := 47, pos := "view.go:43", after := #[{ on := 20, ground := Ground.data }, { on := 22, ground := Ground.chain }, { on := 0, ground := Ground.phase }, { on := 1, ground := Ground.phase }, { on := 2, ground := Ground.phase }, { on := 3, ground := Ground.phase }, { on := 4, ground := Ground.phase }, { on := 5, ground := Ground.phase }, { on := 6, ground := Ground.phase }, { on := 7, ground := Ground.phase }, { on := 8, ground := Ground.phase }, { on := 9, ground := Ground.phase }, { on := 10, ground := Ground.phase }, { on := 11, ground := Ground.phase }, { on := 12, ground := Ground.phase }, { on := 13, ground := Ground.phase }, { on := 14, ground := Ground.phase }, { on := 15, ground := Ground.phase }, { on := 16, ground := Ground.phase }, { on := 17, ground := Ground.phase }, { on := 18, ground := Ground.phase }, { on := 19, ground := Ground.phase }, { on := 20, ground := Ground.phase }, { on := 21, ground := Ground.phase }, { on := 22, ground := Ground.phase }], guard := none }) (v := ?vq23_32) rfl (by kernel_rfl) (by kernel_rfl) (by kernel_rfl) (fun _ _ _ h => h) (Or.inl ⟨by rfl, ?hq23_32⟩) (by assumption) ?_
    case hq23_32 => intro w hSw; (try dsimp only at hSw); go_simp; try (with_reducible rfl)
    (try simp only [Act.put, qA, qB, qC])
    refine wpAnyH_done (by kernel_rfl) ?_ _
    obtain ⟨m0', m1, m2, mf', ml⟩ := cells3p HM5.out.1
    have hx5 := (HB5.out.block (N + 1) (blk_lt HX2.out.2)).trans HX2.out.2
    have hM : M ≠ N + 1 := fun e => by have h1 := HM5.out.2; have h2 := blk_lt HX2.out.2; omega
    go_wp2_with (refine wpList_store_box rfl 46 (.tmp 6) (.tmp 69) rfl (N + 1) 0 rfl (.agg #[.int .i64 kk, .string nn, .slice oa mm cc]) rfl [.int .i64 kk, .string nn, .slice oa mm cc] rfl [.int .i64 0, .string ⟨#[]⟩, .slice none 0 0] 46 hx5 (Nat.le_refl _) (show (Tryz.prog.info? 46).map (·.size) = some 3 by kernel_rfl) ?cs2b (N + 1) (Nat.le_refl _) W5 (Below.refl _ _) ?_)
    try case cs2b => first | exact ⟨rfl, rfl, rfl⟩ | (intro v hv; simp at hv; rcases hv with rfl | rfl | rfl <;> rfl)
    intro WF hb hbx hoth
    have HF := Lib.hid (HBW5.out.trans (hb.mono (by have := HN.out; omega)))
    have hpf : ResP n W2.heap.size WF R (.returned (.tuple #[.agg #[.int .i64 kk, .string nn, .slice oa mm cc], .int .i64 R.1])) := HP5.out.keep (eb_und hb.size fun y hy h1 h2 => ⟨h1, h2, hoth y (fun e => by have h3 := blk_lt HX2.out.2; omega)⟩)
    have HPF := Lib.hid hpf
    obtain ⟨f0, f1, f2, ff, fl'⟩ := cells3p hbx
    clear hb hoth hbx hx5 hM m0' m1 m2 mf' ml hpf
    by_cases hr : R.1 = 0
    · have er : (R.1 == 0) = true := by simpa using hr
      have HR0 := Lib.hid hr
      clear hr
      go_wp2
      refine bodyPost_ret (v := .tuple #[.agg #[.int .i64 kk, .string nn, .slice oa mm cc], .bool true]) (by simp [results, Tryz.results49, go_sem, f0, f1, f2, HR0.out]) rfl ⟨HF.out, ?_⟩
      have hp := HPF.out
      unfold ResP at hp
      rw [if_pos HR0.out] at hp
      obtain ⟨y, hy1, hy2, hy3⟩ := hp
      refine ⟨y, true, ?_, by rw [HIR.out, if_pos HR0.out, hy2]; rfl, n, TyH.und n _ _ _ (eb_kf (Nat.le_refl _) (fun y hy => HKF.out y (by have := HBW2.out.size; omega)) fun _ _ _ => rfl) hy3⟩
      rw [ret_one hy1]
      rfl
    · have er : (R.1 == 0) = false := by simpa using hr
      have HR0 := Lib.hid hr
      clear hr
      go_wp2
      refine bodyPost_ret (v := .tuple #[.agg #[.int .i64 kk, .string nn, .slice oa mm cc], .bool false]) (by simp [results, Tryz.results49, go_sem, f0, f1, f2, HR0.out]) rfl ⟨HF.out, ?_⟩
      have hp := HPF.out
      unfold ResP at hp
      rw [if_neg HR0.out] at hp
      refine ⟨ty0, false, ?_, by rw [HIR.out, if_neg HR0.out]; rfl, 1, by unfold I64; omega, Row.nil _ _ _ _⟩
      rw [ret_one hp]
      rfl

end Go.Proofs.YtghkbihgdabamaaGreatDoor
