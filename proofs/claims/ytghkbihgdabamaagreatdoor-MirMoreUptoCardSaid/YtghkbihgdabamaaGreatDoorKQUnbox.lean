/-
  Several texts of the proof in one: QHanded, QHeldV, QOfOne, QOfOneB, QUnbox. No conditions of their own: each lemma states its own.
-/
import Derived.Test.YtghkbihgdabamaaGreatDoorKQUses
import Derived.Test.YtghkbihgdabamaaGreatDoorKQIsOf
namespace Go.Proofs.YtghkbihgdabamaaGreatDoor
open Go.RowKit

/-- may a use's type stand at a field -/
def hanF (s : So5) (m : Nat) (l : List Fd5) (i : Nat) (t : Ty5) : Bool := match l[i]? with
  | some f => isOfB s m t f.ty
  | none => false
theorem isOfB_er (s : So5) (m : Nat) (x d : Ty5) : isOfB s m (erTy x) d = isOfB s m x d := by
  unfold isOfB
  rw [erTy_er]
theorem below_cellm {w w' : World} (h : Below w.heap.size w w') {p : Addr} {v : Value} (hv : w.cell? p = some v) : w'.cell? p = some v := (h.cell (World.block_lt_of_cell? w p hv)).trans hv
set_option maxRecDepth 100000 in
set_option maxHeartbeats 40000000 in
theorem handed1_any (m f : Nat) (s : So5) (b : Bo) (v a c : Nat) (i : Nat) (y : Ty5) (fh : Hd) (l : List Fd5) (w : World) (hs : SoH m w s) (hv : ViewAt w v s b) (ha : w.cell? ⟨a, 0, none⟩ = some (.pointer (some ⟨v, 0, none⟩))) (hc : w.cell? ⟨c, 0, none⟩ = some (.slice fh.oa l.length fh.cap))
    (hl : Row w fh 4 l fdC (FdH m w)) (hn : ∀ x ∈ l, tyN x.ty ≤ 1000000) (hi : i < l.length) (hy : TyH f w y) :
    Calls Tryz.prog 141 #[.int .i64 (i : Int), tyV y, .pointer (some ⟨a, 0, none⟩), .pointer (some ⟨c, 0, none⟩)] w fun e w' => e = .returned (.bool (hanF s m l i (erTy y))) ∧ Below w.heap.size w w' := by
  obtain ⟨x, hx⟩ : ∃ x, l[i]? = some x := ⟨_, List.getElem?_eq_getElem hi⟩
  have hxm : x ∈ l := List.mem_of_getElem? hx
  have hcl := fun W (hW : Below w.heap.size w W) => isOf_any m m f s b v y x.ty W (SoH.below hs hW) (hv.below hW) (TyH.below f hy hW) (FdH.below (hl.2.2.2 x hxm) hW) (hn x hxm)
  rw [hanF, hx]
  dsimp only
  rw [isOfB_er]
  obtain ⟨B, hB⟩ : ∃ B, isOfB s m y x.ty = B := ⟨_, rfl⟩
  simp only [hB] at hcl ⊢
  obtain ⟨bf, of_, hof, hbf, hce⟩ := hl.2.2.1 (by omega)
  obtain ⟨xn, ⟨dk, dm, dh, dl⟩⟩ := x
  obtain ⟨yk, ym, yh, yl⟩ := y
  obtain ⟨nf, hnf⟩ : ∃ k, l.length = k := ⟨_, rfl⟩
  obtain ⟨fo, cf⟩ := fh
  dsimp only at hof hc
  subst hof
  rw [hnf] at hc hi
  simp only [tyV, tyC] at hcl ⊢
  have hcx := fun (j : Nat) u (hu : (fdC ⟨xn, .mk dk dm dh dl⟩)[j]? = some u) => hce i _ hx j u hu
  have q1 : w.cell? ⟨bf, of_ + i * 4 + 1, none⟩ = some (.int .i64 dk) := hcx 1 _ rfl
  have q2 : w.cell? ⟨bf, of_ + i * 4 + 2, none⟩ = some (.string dm) := hcx 2 _ rfl
  have q3 : w.cell? ⟨bf, of_ + i * 4 + 3, none⟩ = some (.slice dh.oa dl.length dh.cap) := hcx 3 _ rfl
  have hlc : nf ≤ 9223372036854775807 := by
    have h1 := hl.1
    have h2 := hl.2.1
    unfold maxLen at h2
    dsimp only at h1 h2
    omega
  obtain ⟨W0, hW⟩ : ∃ W, W = w.alloc (.cells #[.int .i64 yk, .string ym, .slice yh.oa yl.length yh.cap] 46) := ⟨_, rfl⟩
  have hb0 : Below w.heap.size w W0 := by rw [hW]; exact alloc_below _ _
  have hx0 : W0.heap[w.heap.size]? = some (.cells #[.int .i64 yk, .string ym, .slice yh.oa yl.length yh.cap] 46) := by rw [hW]; exact heap_alloc_new _ _
  have y9 := below_cellm hb0 ha
  have z0 := below_cellm hb0 hc
  have g1 := below_cellm hb0 q1
  have g2 := below_cellm hb0 q2
  have g3 := below_cellm hb0 q3
  obtain ⟨N, hN⟩ : ∃ N, N = w.heap.size := ⟨_, rfl⟩
  rw [← hN] at hx0
  obtain ⟨y0, y1, y2, yf, yl9⟩ := cells3p hx0
  have HB0 := Lib.hid hb0
  have HCL := Lib.hid hcl
  clear hs hv ha hc hl hn hy hx hxm hcl hB hbf hce hnf hcx q1 q2 q3 hb0 hx0
  go_enter Tryz.func141, Tryz.ntmps141
  go_upto_region 1 with fail
  rw [← hW]
  clear hW
  try simp only [← hN]
  clear hN
  refine wp_region_held_drew (S := (fun w' => w'.cell? ⟨a, 0, none⟩ = some (.pointer (some ⟨v, 0, none⟩)) ∧ w'.cell? ⟨N, 0, none⟩ = some (.int .i64 yk) ∧ w'.cell? ⟨N, 1, none⟩ = some (.string ym) ∧ w'.cell? ⟨N, 2, none⟩ = some (.slice yh.oa yl.length yh.cap) ∧ w'.cell? ⟨c, 0, none⟩ = some (.slice (some ⟨bf, of_, none⟩) nf cf) ∧ w'.cell? ⟨bf, of_ + i * 4 + 1, none⟩ = some (.int .i64 dk) ∧ w'.cell? ⟨bf, of_ + i * 4 + 2, none⟩ = some (.string dm) ∧ w'.cell? ⟨bf, of_ + i * 4 + 3, none⟩ = some (.slice dh.oa dl.length dh.cap))) (by kernel_rfl) ?_ (fun hHeld => ?_)
  · exact ⟨y9, y0, y1, y2, z0, g1, g2, g3⟩
  refine wpAnyH_take (i := 0) (oi := { dst := some 7, op := Op.load 85 (Operand.tmp 2), type := 85, pos := "value.go:137", after := #[], guard := none }) (v := ?vq0_1) rfl (by kernel_rfl) (by kernel_rfl) (by kernel_rfl) (fun _ _ _ h => h) (Or.inl ⟨by rfl, ?hq0_1⟩) (by assumption) ?_
  case hq0_1 => intro w hSw; (try dsimp only at hSw); go_simp; try (with_reducible rfl)
  (try simp only [Act.put, qA, qB, qC])
  refine wpAnyH_take (i := 1) (oi := { dst := some 8, op := Op.load 46 (Operand.tmp 5), type := 46, pos := "value.go:137", after := #[], guard := none }) (v := ?vq1_2) rfl (by kernel_rfl) (by kernel_rfl) (by kernel_rfl) (fun _ _ _ h => h) (Or.inl ⟨by rfl, ?hq1_2⟩) (by assumption) ?_
  case hq1_2 => intro w hSw; (try dsimp only at hSw); go_simp; try (with_reducible rfl)
  (try simp only [Act.put, qA, qB, qC])
  refine wpAnyH_take (i := 2) (oi := { dst := some 9, op := Op.load 69 (Operand.tmp 3), type := 69, pos := "value.go:137", after := #[], guard := none }) (v := ?vq2_3) rfl (by kernel_rfl) (by kernel_rfl) (by kernel_rfl) (fun _ _ _ h => h) (Or.inl ⟨by rfl, ?hq2_3⟩) (by assumption) ?_
  case hq2_3 => intro w hSw; (try dsimp only at hSw); go_simp; try (with_reducible rfl)
  (try simp only [Act.put, qA, qB, qC])
  refine wpAnyH_take (i := 3) (oi := { dst := some 10, op := Op.move (Operand.tmp 0), type := 3, pos := "value.go:137", after := #[], guard := none }) (v := ?vq3_4) rfl (by kernel_rfl) (by kernel_rfl) (by kernel_rfl) (fun _ _ _ h => h) (Or.inl ⟨by rfl, ?hq3_4⟩) (by assumption) ?_
  case hq3_4 => intro w hSw; (try dsimp only at hSw); go_simp; try (with_reducible rfl)
  (try simp only [Act.put, qA, qB, qC])
  refine wpAnyH_take (i := 4) (oi := { dst := some 11, op := Op.indexAddr 69 (Operand.tmp 9) (Operand.tmp 10), type := 0, pos := "value.go:137", after := #[{ on := 2, ground := Ground.data }, { on := 3, ground := Ground.data }], guard := none }) (v := .pointer (some ⟨bf, of_ + i * 4, none⟩)) rfl (by kernel_rfl) (by kernel_rfl) (by kernel_rfl) (fun _ _ _ h => h) (Or.inl ⟨by rfl, ?hq4_5⟩) (by assumption) ?_
  case hq4_5 => intro w hSw; (try dsimp only at hSw); go_simp; try (intro h; exfalso; omega)
  (try simp only [Act.put, qA, qB, qC])
  refine wpAnyH_take (i := 5) (oi := { dst := some 12, op := Op.fieldAddr 92 (Operand.tmp 11) 1, type := 0, pos := "value.go:137", after := #[{ on := 4, ground := Ground.data }], guard := none }) (v := .pointer (some ⟨bf, of_ + i * 4 + 1, none⟩)) rfl (by kernel_rfl) (by kernel_rfl) (by kernel_rfl) (fun _ _ _ h => h) (Or.inl ⟨by rfl, ?hq5_6⟩) (by assumption) ?_
  case hq5_6 => intro w hSw; (try dsimp only at hSw); go_simp; try (intro h; exfalso; omega)
  (try simp only [Act.put, qA, qB, qC])
  refine wpAnyH_take (i := 6) (oi := { dst := some 13, op := Op.load 46 (Operand.tmp 12), type := 46, pos := "value.go:137", after := #[{ on := 5, ground := Ground.data }], guard := none }) (v := ?vq6_7) rfl (by kernel_rfl) (by kernel_rfl) (by kernel_rfl) (fun _ _ _ h => h) (Or.inl ⟨by rfl, ?hq6_7⟩) (by assumption) ?_
  case hq6_7 => intro w hSw; (try dsimp only at hSw); go_simp; try (with_reducible rfl)
  (try simp only [Act.put, qA, qB, qC])
  refine wpAnyH_ready (rs := [7]) (by kernel_rfl) (by simp) ?_
  refine AllReadyH.cons (o := { dst := some 14, op := Op.call { callee := Callee.value (Operand.func 92), args := #[Operand.tmp 7, Operand.tmp 8, Operand.tmp 13], argTypes := #[85, 46, 46] }, type := 4, pos := "value.go:137", after := #[{ on := 0, ground := Ground.data }, { on := 1, ground := Ground.data }, { on := 6, ground := Ground.data }], guard := none }) rfl (fun K hK => ?_) AllReadyH.nil
  go_simp
  refine (HCL.out _ HB0.out.drew).mono ?_
  rintro e w9 ⟨rfl, hb9⟩
  have hb90 : Below W0.heap.size W0 w9 := (Below.refl _ _).drew.trans hb9
  refine hK.out _ _ ⟨below_cellm hb90 y9, below_cellm hb90 y0, below_cellm hb90 y1, below_cellm hb90 y2, below_cellm hb90 z0, below_cellm hb90 g1, below_cellm hb90 g2, below_cellm hb90 g3⟩ (fun hHeld => ?_)
  clear hK K
  have HB9 := Lib.hid (HB0.out.trans (hb90.mono HB0.out.size))
  clear hb9 hb90
  (try simp only [Act.put, qA, qB, qC])
  refine wpAnyH_take (i := 8) (oi := { dst := some 6, op := Op.assign (Operand.tmp 14), type := 4, pos := "value.go:137", after := #[{ on := 7, ground := Ground.data }, { on := 7, ground := Ground.chain }, { on := 0, ground := Ground.phase }, { on := 1, ground := Ground.phase }, { on := 2, ground := Ground.phase }, { on := 3, ground := Ground.phase }, { on := 4, ground := Ground.phase }, { on := 5, ground := Ground.phase }, { on := 6, ground := Ground.phase }, { on := 7, ground := Ground.phase }], guard := none }) (v := ?vq8_8) rfl (by kernel_rfl) (by kernel_rfl) (by kernel_rfl) (fun _ _ _ h => h) (Or.inl ⟨by rfl, ?hq8_8⟩) (by assumption) ?_
  case hq8_8 => intro w hSw; (try dsimp only at hSw); go_simp; try (with_reducible rfl)
  (try simp only [Act.put, qA, qB, qC])
  refine wpAnyH_done (by kernel_rfl) ?_ _
  go_wp2
  go_ret
  exact ⟨by trivial, HB9.out⟩
theorem entersHan : ∀ args w, (callFunc 141 args).run Tryz.prog w = .ok (.enter 141 args) w := enters_of Tryz.func141 (by kernel_rfl) rfl
set_option maxRecDepth 100000 in
set_option maxHeartbeats 40000000 in
theorem handed_any (m : Nat) (s : So5) (b : Bo) (v : Nat) (hd fh : Hd) (us : List Us) (l : List Fd5) (w : World) (hs : SoH m w s) (hsn : SoN s) (hv : ViewAt w v s b) (hb : BoH m w b) (hu : Row w hd 5 us usC (UsH w)) (hl : Row w fh 4 l fdC (FdH m w)) (hn : ∀ x ∈ l, tyN x.ty ≤ 1000000) :
    Calls Tryz.prog 115 #[.pointer (some ⟨v, 0, none⟩), .slice hd.oa us.length hd.cap, .slice fh.oa l.length fh.cap] w fun e w' => e = .returned (.int .i64 (usesR s m b (hanF s m l) l.length us)) ∧ Below w.heap.size w w' := by
  obtain ⟨W0, hW⟩ : ∃ W, W = (w.alloc (.cells #[.pointer (some ⟨v, 0, none⟩)] 85)).alloc (.cells #[.slice fh.oa l.length fh.cap] 69) := ⟨_, rfl⟩
  obtain ⟨hb0, hx0, hx1⟩ := pal2 w (.cells #[.pointer (some ⟨v, 0, none⟩)] 85) (.cells #[.slice fh.oa l.length fh.cap] 69)
  rw [← hW] at hb0 hx0 hx1
  obtain ⟨N, hN⟩ : ∃ N, N = w.heap.size := ⟨_, rfl⟩
  rw [← hN] at hx0 hx1
  have y0 : W0.cell? ⟨N, 0, none⟩ = some (.pointer (some ⟨v, 0, none⟩)) := by simp only [World.cell?, hx0]; rfl
  have z0 : W0.cell? ⟨N + 1, 0, none⟩ = some (.slice fh.oa l.length fh.cap) := by simp only [World.cell?, hx1]; rfl
  have hcl := uses2_any 141 entersHan N (N + 1) (hanF s m l) m s b v hd us l.length W0 (SoH.below hs hb0) hsn (hv.below hb0) (BoH.below hb hb0) (Row.below hu hb0 fun _ _ h => UsH.below h hb0)
    (fun hLn i y f W hi hW hy => by
      have hbw := hb0.trans (hW.mono hb0.size)
      exact handed1_any m f s b v N (N + 1) i y fh l W (SoH.below hs hbw) (hv.below hbw) (below_cellm hW y0) (below_cellm hW z0) (Row.below hl hbw fun _ _ h => FdH.below h hbw) hn (by omega) hy)
  obtain ⟨R, hR⟩ : ∃ R, usesR s m b (hanF s m l) (l.length : Int) us = R := ⟨_, rfl⟩
  simp only [hR] at hcl ⊢
  obtain ⟨nl, hnl⟩ : ∃ k, l.length = k := ⟨_, rfl⟩
  obtain ⟨nu, hnu⟩ : ∃ k, us.length = k := ⟨_, rfl⟩
  rw [hnl] at hcl z0 hW ⊢
  rw [hnu] at hcl ⊢
  have HCL := Lib.hid hcl
  have HB0 := Lib.hid hb0
  clear hs hsn hv hb hu hl hn hb0 hx0 hx1 hcl hR hnl hnu
  go_enter Tryz.func115, Tryz.ntmps115
  go_upto_region 1 with fail
  rw [← hW]
  clear hW
  try simp only [← hN]
  clear hN
  go_wp2_with (go_at_call 89; refine HCL.out.mono ?_; rintro e w9 ⟨rfl, hb9⟩; have HB9 := Lib.hid (HB0.out.trans (hb9.mono HB0.out.size)); clear hb9)
  go_ret
  exact ⟨by trivial, HB9.out⟩

end Go.Proofs.YtghkbihgdabamaaGreatDoor

namespace Go.Proofs.YtghkbihgdabamaaGreatDoor
open Go.RowKit

def heldL (f : Fd5) : List Fd5 := if kdT f.ty = 0 then [] else [f]
theorem cells4w {w : World} {v : Nat} {a0 a1 a2 a3 : Value} {T : TypeId} (h : w.heap[v]? = some (.cells #[a0, a1, a2, a3] T)) : w.cell? ⟨v, 0, none⟩ = some a0 ∧ w.cell? ⟨v, 1, none⟩ = some a1 ∧ w.cell? ⟨v, 2, none⟩ = some a2 ∧ w.cell? ⟨v, 3, none⟩ = some a3 ∧ v < w.heap.size := by
  refine ⟨?_, ?_, ?_, ?_, (Array.getElem?_eq_some_iff.1 h).1⟩ <;> simp [World.cell?, h]
set_option maxRecDepth 100000 in
set_option maxHeartbeats 4000000 in
theorem mheld_any (m : Nat) (f : Fd5) (w : World) (hf : FdH m w f) :
    Calls Tryz.prog 116 #[fdV f] w fun e w' => (∃ hh : Hd, e = .returned (.slice hh.oa (heldL f).length hh.cap) ∧ Row w' hh 4 (heldL f) fdC (FdH m w')) ∧ Below w.heap.size w w' := by
  obtain ⟨nm, ⟨k, tn, th, tl⟩⟩ := f
  obtain ⟨nl, hnl⟩ : ∃ n, tl.length = n := ⟨_, rfl⟩
  obtain ⟨LL, hLL⟩ : ∃ l, heldL ⟨nm, .mk k tn th tl⟩ = l := ⟨_, rfl⟩
  rw [hLL]
  simp only [fdV, fdC, tyC]
  obtain ⟨W0, hW⟩ : ∃ W, W = w.alloc (.cells #[.string nm, .int .i64 k, .string tn, .slice th.oa nl th.cap] 76) := ⟨_, rfl⟩
  have hb0 : Below w.heap.size w W0 := by rw [hW]; exact alloc_below _ _
  have hx0 : W0.heap[w.heap.size]? = some (.cells #[.string nm, .int .i64 k, .string tn, .slice th.oa nl th.cap] 76) := by rw [hW]; exact heap_alloc_new _ _
  obtain ⟨N, hN⟩ : ∃ N, N = w.heap.size := ⟨_, rfl⟩
  rw [← hN] at hx0
  obtain ⟨y0, y1, y2, y3, yl⟩ := cells4w hx0
  have HB0 := Lib.hid hb0
  have HF := Lib.hid (And.intro hf hnl)
  have HLL := Lib.hid hLL
  clear hLL
  rw [hnl]
  clear hx0 hb0 hf hnl
  go_enter Tryz.func116, Tryz.ntmps116
  go_upto_region 1 with fail
  rw [← hW]
  clear hW
  try simp only [← hN]
  clear hN
  by_cases hk0 : k = 0
  · subst hk0
    go_wp2
    go_ret
    have hLL := HLL.out
    rw [heldL, if_pos (by rfl)] at hLL
    subst hLL
    exact ⟨⟨h0, rfl, Row.nil _ _ _ _⟩, HB0.out⟩
  · have h0' : (k == 0) = false := by simpa using hk0
    have H0 := Lib.hid hk0
    clear hk0
    go_upto_region 3 with fail
    go_wp2
    go_ret
    obtain ⟨W1, hW1⟩ : ∃ W, W = W0.alloc (.cells #[.string nm, .int .i64 k, .string tn, .slice th.oa nl th.cap] 92) := ⟨_, rfl⟩
    have hx1 : W1.heap[W0.heap.size]? = some (.cells #[.string nm, .int .i64 k, .string tn, .slice th.oa nl th.cap] 92) := by rw [hW1]; exact heap_alloc_new _ _
    have hb1 : Below W0.heap.size W0 W1 := by rw [hW1]; exact alloc_below _ _
    obtain ⟨c0, c1, c2, c3, cl⟩ := cells4w hx1
    have hb := HB0.out.trans (hb1.mono HB0.out.size)
    have hLL := HLL.out
    rw [heldL, if_neg (show ¬ kdT (.mk k tn th tl) = 0 from H0.out)] at hLL
    subst hLL
    refine ⟨⟨⟨some ⟨W0.heap.size, 0, none⟩, 1⟩, rfl, ?_⟩, by first | exact hb | (rw [← hW1]; exact hb)⟩
    try rw [← hW1]
    refine ⟨Nat.le_refl _, (show (1 : Nat) ≤ maxLen by unfold maxLen; decide), fun _ => ⟨W0.heap.size, 0, rfl, cl, fun i x hx j u hu => ?_⟩, fun x hx => ?_⟩
    · cases i with
      | zero =>
        obtain rfl : _ = x := by simpa using hx
        simp only [Nat.zero_mul, Nat.zero_add]
        match j, hu with
        | 0, hu => simp [fdC, tyC] at hu; subst hu; exact c0
        | 1, hu => simp [fdC, tyC] at hu; subst hu; exact c1
        | 2, hu => simp [fdC, tyC] at hu; subst hu; exact c2
        | 3, hu => simp [fdC, tyC, HF.out.2] at hu; subst hu; exact c3
        | j + 4, hu => simp [fdC, tyC] at hu
      | succ i => simp at hx
    · obtain rfl := List.mem_singleton.1 hx
      exact TyH.below m HF.out.1 hb

end Go.Proofs.YtghkbihgdabamaaGreatDoor

namespace Go.Proofs.YtghkbihgdabamaaGreatDoor
open Go.RowKit

set_option maxRecDepth 100000 in
set_option maxHeartbeats 4000000 in
theorem ofOne1_any (B : Nat) (w0 : World) (i : Int) (y : Ty5) (c : Nat) (a0 a1 a2 : Value) (w : World) (hb : Below B w0 w) (hB : B ≤ w.heap.size) (hc0 : B ≤ c) (hc : w.heap[c]? = some (.cells #[a0, a1, a2] 46)) :
    Calls Tryz.prog 140 #[.int .i64 i, tyV y, .pointer (some ⟨c, 0, none⟩)] w fun e w' => e = .returned (.bool true) ∧ Below B w0 w' ∧ w'.heap[c]? = some (.cells (tyC y).toArray 46) ∧ (∀ k, k ≠ c → k < w.heap.size → w'.heap[k]? = w.heap[k]?) ∧ w.heap.size ≤ w'.heap.size := by
  obtain ⟨k, nm, h, l⟩ := y
  simp only [tyV, tyC]
  obtain ⟨nl, hnl⟩ : ∃ n, l.length = n := ⟨_, rfl⟩
  rw [hnl]
  clear hnl
  obtain ⟨W0, hW⟩ : ∃ W, W = w.alloc (.cells #[.int .i64 k, .string nm, .slice h.oa nl h.cap] 46) := ⟨_, rfl⟩
  have hb0 : Below w.heap.size w W0 := by rw [hW]; exact alloc_below _ _
  have hx0 : W0.heap[w.heap.size]? = some (.cells #[.int .i64 k, .string nm, .slice h.oa nl h.cap] 46) := by rw [hW]; exact heap_alloc_new _ _
  have hcl := blk_lt hc
  have hc1 : W0.heap[c]? = some (.cells #[a0, a1, a2] 46) := (hb0.block c hcl).trans hc
  have hbW : Below B w0 W0 := hb.trans (hb0.mono hB)
  obtain ⟨N, hN⟩ : ∃ N, N = w.heap.size := ⟨_, rfl⟩
  rw [← hN] at hx0
  obtain ⟨y0, y1, y2, yf, yl⟩ := cells3p hx0
  have HB := Lib.hid (And.intro hb0 hbW)
  have HC := Lib.hid hc1
  clear hx0 hb0 hb hbW hc hc1 hcl hB
  go_enter Tryz.func140, Tryz.ntmps140
  go_upto_region 1 with fail
  rw [← hW]
  clear hW
  try simp only [← hN]
  clear hN
  go_upto_region 2 with (go_loud (refine wpList_store_box rfl 46 (.tmp 2) (.tmp 6) rfl c 0 rfl (.agg #[.int .i64 k, .string nm, .slice h.oa nl h.cap]) rfl [.int .i64 k, .string nm, .slice h.oa nl h.cap] rfl [a0, a1, a2] 46 HC.out (Nat.le_refl _) (show (Tryz.prog.info? 46).map (·.size) = some 3 by kernel_rfl) ?ca1 B hc0 w0 HB.out.2 ?_; rotate_left; intro W1 hb1 hbx hoth))
  try case ca1 => first | exact ⟨rfl, rfl, rfl⟩ | (intro v hv; simp at hv; rcases hv with rfl | rfl | rfl <;> rfl)
  have H1 := Lib.hid (And.intro hb1 (And.intro hbx hoth))
  clear hb1 hbx hoth y0 y1 y2 yf yl
  go_wp2
  go_ret
  obtain ⟨hb1, hbx, hoth⟩ := H1.out
  have hsz : w.heap.size ≤ W1.heap.size := by
    by_cases hq : w.heap.size - 1 = c
    · have h1 := blk_lt hbx
      omega
    · by_cases h0 : w.heap.size = 0
      · omega
      · have h1 : W1.heap[w.heap.size - 1]? = w.heap[w.heap.size - 1]? := (hoth _ hq).trans (HB.out.1.block _ (by omega))
        rw [Array.getElem?_eq_getElem (show w.heap.size - 1 < w.heap.size by omega)] at h1
        have h2 := (Array.getElem?_eq_some_iff.1 h1).1
        omega
  exact ⟨rfl, hb1, hbx, fun k hk hlt => (hoth k hk).trans (HB.out.1.block k hlt), hsz⟩

/-- what uses leaves in the closure's cell -/
def OneP (kf : Nat → Bool) (c : Nat) (w0 w w' : World) : Prop := Below w0.heap.size w0 w' ∧ w.heap.size ≤ w'.heap.size ∧ (∃ z0 z1 z2, w'.heap[c]? = some (.cells #[z0, z1, z2] 46)) ∧ ∀ k, k ≠ c → k < w.heap.size → w'.heap[k]? = w.heap[k]?
def OneT (kf : Nat → Bool) (c : Nat) (t : Ty5) (w' : World) : Prop := ∃ y f, w'.heap[c]? = some (.cells (tyC y).toArray 46) ∧ erTy y = t ∧ TyH f (ebp w' kf) y
set_option maxRecDepth 100000 in
set_option maxHeartbeats 40000000 in
theorem uses1_any (w0 : World) (kf : Nat → Bool) (c : Nat) (a0 a1 a2 : Value) (m : Nat) (s : So5) (b : Bo) (v : Nat) (hd : Hd) (l : List Us) (w : World) (hw : Below w0.heap.size w0 w) (hs : SoH m w0 s) (hsn : SoN s) (hv : ViewAt w0 v s b) (hb : BoH m w0 b) (hl : Row w0 hd 5 l usC (UsH w0)) (hc0 : w0.heap.size ≤ c) (hc : w.heap[c]? = some (.cells #[a0, a1, a2] 46)) (hk : ∀ y, w.heap.size ≤ y → kf y = true) (hkc : kf c = false) (hbk : ∀ lo ∈ b.locals, TyH m (ebp w0 kf) lo.ty) :
    Calls Tryz.prog 89 #[.pointer (some ⟨v, 0, none⟩), .slice hd.oa l.length hd.cap, .int .i64 1, .func (.func 140) #[] #[.pointer (some ⟨c, 0, none⟩)]] w fun e w' => e = .returned (.int .i64 (usesR s m b (fun _ _ => true) 1 l)) ∧ OneP kf c w0 w w' ∧ (usesR s m b (fun _ _ => true) 1 l = 0 → ∃ u t, l = [u] ∧ useR s m b u = some t ∧ OneT kf c t w') ∧ (usesR s m b (fun _ _ => true) 1 l ≠ 0 → w'.heap[c]? = some (.cells #[a0, a1, a2] 46)) := by
  have HUS := Lib.hid (show ∀ (u : Us) W, u ∈ l → Below w.heap.size w W → Calls Tryz.prog 120 #[.pointer (some ⟨v, 0, none⟩), usV u] W fun e w' => Below W.heap.size W w' ∧ UseP kf w' (useR s m b u) e from fun u W hu hW => by
    have hW0 : Below w0.heap.size w0 W := hw.trans (hW.mono hw.size)
    exact use_any kf m s b v u W (SoH.below hs hW0) hsn (hv.below hW0) (BoH.below hb hW0) (UsH.below (hl.2.2.2 u hu) hW0) (fun y hy => hk y (Nat.le_trans hW.size hy)) (fun lo hlo => TyH.und m _ _ _ (ebp_below hW0 kf) (hbk lo hlo)))
  obtain ⟨L, hL⟩ : ∃ L, L = l.length := ⟨_, rfl⟩
  have hLc : L ≤ 9223372036854775807 := by
    have h1 := hl.1
    have h2 := hl.2.1
    unfold maxLen at h2
    omega
  have hcl := blk_lt hc
  have HL := Lib.hid (And.intro hl hL)
  have HC := Lib.hid (And.intro hw (And.intro hc0 (And.intro hc (And.intro hkc hcl))))
  have HST := Lib.hid (show OneP kf c w0 w w from ⟨hw, Nat.le_refl _, ⟨_, _, _, hc⟩, fun _ _ _ => rfl⟩)
  obtain ⟨oa, cap⟩ := hd
  dsimp only at HL ⊢
  rw [← hL]
  clear hs hsn hv hb hl hL hw hc0 hc hk hkc hbk hcl
  obtain ⟨R0, hR0⟩ : ∃ R, usesR s m b (fun _ _ => true) 1 l = R := ⟨_, rfl⟩
  rw [hR0]
  have HR0 := Lib.hid hR0
  clear hR0
  go_enter Tryz.func89, Tryz.ntmps89
  by_cases hn : L = 1
  · subst hn
    obtain ⟨hl, hL⟩ := HL.out
    obtain ⟨u, hu⟩ : ∃ u, l = [u] := by
      match l, hL with
      | [u], _ => exact ⟨u, rfl⟩
    have hus := fun W hW => HUS.out u W (by rw [hu]; simp) hW
    obtain ⟨Ru, hRu⟩ : ∃ R, useR s m b u = R := ⟨_, rfl⟩
    simp only [hRu] at hus
    have hr0 := HR0.out
    rw [hu, usesR, if_pos (by simp), usesG, hRu] at hr0
    obtain ⟨bl, ol, hol, hbl, hcl⟩ := hl.2.2.1 (by omega)
    dsimp only at hol
    subst hol
    have HUL := Lib.hid (And.intro hu hRu)
    have hc9 := hcl 0 u (by rw [hu]; rfl)
    obtain ⟨num, un, mv, ⟨loc, ph, path⟩⟩ := u
    obtain ⟨np, hnp⟩ : ∃ k, path.length = k := ⟨_, rfl⟩
    simp only [usV, usC, spC, List.cons_append, List.nil_append, hnp] at hus
    have HU := Lib.hid hus
    have hwb := HC.out.1
    have hcx := fun (j : Nat) x (hx : (usC ⟨num, un, mv, ⟨loc, ph, path⟩⟩)[j]? = some x) => (hwb.cell (p := ⟨bl, ol + 0 * 5 + j, none⟩) hbl).trans (hc9 j x hx)
    have g0 : w.cell? ⟨bl, ol, none⟩ = some (.bool num) := by simpa using hcx 0 _ rfl
    have g1 : w.cell? ⟨bl, ol + 1, none⟩ = some (.int .i64 un) := by simpa using hcx 1 _ rfl
    have g2 : w.cell? ⟨bl, ol + 2, none⟩ = some (.bool mv) := by simpa using hcx 2 _ rfl
    have g3 : w.cell? ⟨bl, ol + 3, none⟩ = some (.int .i64 loc) := by simpa using hcx 3 _ rfl
    have g4 : w.cell? ⟨bl, ol + 4, none⟩ = some (.slice ph.oa np ph.cap) := by rw [← hnp]; simpa using hcx 4 _ rfl
    have HG := Lib.hid (And.intro g0 (And.intro g1 (And.intro g2 (And.intro g3 g4))))
    have HR1 := Lib.hid hr0
    clear hl hL hu hus hRu hr0 hbl hcl hc9 hnp hwb hcx g0 g1 g2 g3 g4
    go_wp2
    go_loopw [19] (fun uu wr => (uu = .int .i64 0 ∧ wr = w) ∨ (uu = .int .i64 1 ∧ OneP kf c w0 w wr ∧ ∃ t, Ru = some t ∧ OneT kf c t wr)) (fun uu _ => 1 - (intOf uu).toNat)
    case atStart => exact .inl ⟨rfl, rfl⟩
    case round =>
      rcases hrel with ⟨rfl, rfl⟩ | ⟨rfl, hone⟩
      · as_aux_lemma =>
          obtain ⟨W0, rfl⟩ : ∃ W0 : World, W0 = wr := ⟨_, rfl⟩
          obtain ⟨g0, g1, g2, g3, g4⟩ := HG.out
          go_upto_region 6 with (go_loud (refine wpList_store_box rfl 42 (.tmp 10) (.tmp 23) rfl W0.heap.size 0 rfl (.agg #[.bool num, .int .i64 un, .bool mv, .int .i64 loc, .slice ph.oa np ph.cap]) rfl [.bool num, .int .i64 un, .bool mv, .int .i64 loc, .slice ph.oa np ph.cap] rfl [.bool false, .int .i64 0, .bool false, .int .i64 0, .slice none 0 0] 42 (heap_alloc_new W0 (.cells #[.bool false, .int .i64 0, .bool false, .int .i64 0, .slice none 0 0] 42)) (Nat.le_refl _) (show (Tryz.prog.info? 42).map (·.size) = some 5 by kernel_rfl) ?ca1 W0.heap.size (Nat.le_refl _) (W0.alloc (.cells #[.bool false, .int .i64 0, .bool false, .int .i64 0, .slice none 0 0] 42)) (Below.refl _ _) ?_; rotate_left; intro W1 hb1 hbx hoth))
          try case ca1 => first | exact ⟨rfl, rfl, rfl, rfl, rfl⟩ | (intro v hv; simp at hv; rcases hv with rfl | rfl | rfl | rfl | rfl <;> rfl)
          have HB1 := Lib.hid (show Below W0.heap.size W0 W1 from (alloc_below W0 (.cells #[.bool false, .int .i64 0, .bool false, .int .i64 0, .slice none 0 0] 42)).trans hb1)
          obtain ⟨M, hM⟩ : ∃ M, M = W0.heap.size := ⟨_, rfl⟩
          rw [← hM] at hbx
          try simp only [← hM]
          clear g0 g1 g2 g3 g4 hb1 hoth hM
          obtain ⟨m0, m1, m2, m3, m4, ml⟩ := cells5w hbx
          clear hbx
          cases Ru with
          | none =>
            go_upto_region 7 with (first
              | (go_loud (go_at_call 120 ; refine (HU.out W1 HB1.out).mono ?_; rintro e W2 ⟨hb2, hu2⟩; dsimp only [UseP] at hu2; subst hu2; have HB2 := Lib.hid (HB1.out.trans (hb2.mono HB1.out.size)); clear hb2))
              | (go_loud (refine wpList_store_box rfl 46 (.tmp 11) (.tmp 28) rfl W2.heap.size 0 rfl (.agg #[.int .i64 0, .string ⟨#[]⟩, .slice none 0 0]) rfl [.int .i64 0, .string ⟨#[]⟩, .slice none 0 0] rfl [.int .i64 0, .string ⟨#[]⟩, .slice none 0 0] 46 (heap_alloc_new W2 (.cells #[.int .i64 0, .string ⟨#[]⟩, .slice none 0 0] 46)) (Nat.le_refl _) (show (Tryz.prog.info? 46).map (·.size) = some 3 by kernel_rfl) ?ca2 W2.heap.size (Nat.le_refl _) (W2.alloc (.cells #[.int .i64 0, .string ⟨#[]⟩, .slice none 0 0] 46)) (Below.refl _ _) ?_; rotate_left; intro W3 hb3 hbx3 hoth3)))
            try case ca2 => first | exact ⟨rfl, rfl, rfl⟩ | (intro v hv; simp at hv; rcases hv with rfl | rfl | rfl <;> rfl)
            have HB3 := Lib.hid (HB2.out.trans (((alloc_below W2 (.cells #[.int .i64 0, .string ⟨#[]⟩, .slice none 0 0] 46)).trans hb3).mono HB2.out.size))
            clear hb3 hbx3 hoth3 m0 m1 m2 m3 m4 ml
            go_wp2
            go_ret
            have h := HR1.out
            try dsimp only at h
            subst h
            obtain ⟨q1, q2, q3, q4, q5⟩ := HC.out
            exact ⟨rfl, ⟨q1.trans (HB3.out.mono q1.size), HB3.out.size, ⟨_, _, _, (HB3.out.block c q5).trans q3⟩, fun k _ hk => HB3.out.block k hk⟩, (fun h => by (cases h)), fun _ => (HB3.out.block c q5).trans q3⟩
          | some t =>
            go_upto_region 7 with (first
              | (go_loud (go_at_call 120 ; refine (HU.out W1 HB1.out).mono ?_; rintro e W2 ⟨hb2, ⟨⟨k1, nm1, h1, l1⟩, rfl, her, f, ht⟩⟩; simp only [tyV, tyC]; have HB2 := Lib.hid (HB1.out.trans (hb2.mono HB1.out.size)); have HT2 := Lib.hid (And.intro her ht); clear hb2 her ht))
              | (go_loud (refine wpList_store_box rfl 46 (.tmp 11) (.tmp 28) rfl W2.heap.size 0 rfl (.agg #[.int .i64 k1, .string nm1, .slice h1.oa l1.length h1.cap]) rfl [.int .i64 k1, .string nm1, .slice h1.oa l1.length h1.cap] rfl [.int .i64 0, .string ⟨#[]⟩, .slice none 0 0] 46 (heap_alloc_new W2 (.cells #[.int .i64 0, .string ⟨#[]⟩, .slice none 0 0] 46)) (Nat.le_refl _) (show (Tryz.prog.info? 46).map (·.size) = some 3 by kernel_rfl) ?ca2 W2.heap.size (Nat.le_refl _) (W2.alloc (.cells #[.int .i64 0, .string ⟨#[]⟩, .slice none 0 0] 46)) (Below.refl _ _) ?_; rotate_left; intro W3 hb3 hbx3 hoth3)))
            try case ca2 => first | exact ⟨rfl, rfl, rfl⟩ | (intro v hv; simp at hv; rcases hv with rfl | rfl | rfl <;> rfl)
            have hb23 : Below W2.heap.size W2 W3 := (alloc_below W2 (.cells #[.int .i64 0, .string ⟨#[]⟩, .slice none 0 0] 46)).trans hb3
            have HB3 := Lib.hid (And.intro (HB2.out.trans (hb23.mono HB2.out.size)) hb23)
            obtain ⟨M2, hM2⟩ : ∃ M, M = W2.heap.size := ⟨_, rfl⟩
            rw [← hM2] at hbx3
            try simp only [← hM2]
            clear hb3 hb23 hoth3 hM2 m0 m1 m2 m3 m4 ml
            obtain ⟨t0, t1, t2, tf, tl⟩ := cells3p hbx3
            clear hbx3
            have hcall := ofOne1_any w0.heap.size w0 0 (.mk k1 nm1 h1 l1) c a0 a1 a2 W3 (HC.out.1.trans (HB3.out.1.mono HC.out.1.size)) (Nat.le_trans HC.out.1.size HB3.out.1.size) HC.out.2.1 ((HB3.out.1.block c HC.out.2.2.2.2).trans HC.out.2.2.1)
            simp only [tyV, tyC] at hcall
            have HCL := Lib.hid hcall
            clear hcall
            go_wp2_with (go_at_call 140 ; refine HCL.out.mono ?_; rintro e W4 ⟨rfl, hq⟩; have HQ4 := Lib.hid hq; clear hq)
            go_roundw
            case rel =>
              obtain ⟨q1, q2, q3, q4⟩ := HQ4.out
              refine .inr ⟨by rfl, ⟨q1, Nat.le_trans HB3.out.1.size q4, ⟨_, _, _, q2⟩, fun k hk hkl => (q3 k hk (Nat.lt_of_lt_of_le hkl HB3.out.1.size)).trans (HB3.out.1.block k hkl)⟩, t, rfl, .mk k1 nm1 h1 l1, f, q2, HT2.out.1, ?_⟩
              refine TyH.und f _ _ _ (ebp_und (Nat.le_trans HB3.out.2.size q4) fun bb hbb hfb => ⟨hfb, ?_⟩) HT2.out.2
              have hne : bb ≠ c := fun e => by
                rw [e, HC.out.2.2.2.1] at hfb
                cases hfb
              exact (q3 bb hne (Nat.lt_of_lt_of_le hbb HB3.out.2.size)).trans (HB3.out.2.block bb hbb)
            case measure => simp [intOf]
      · as_aux_lemma =>
          have HO := Lib.hid hone
          clear hone
          go_wp2
          go_ret
          obtain ⟨h1, t, h2, h3⟩ := HO.out
          have hr := HR1.out
          rw [h2] at hr
          simp only [if_true, usesG] at hr
          subst hr
          exact ⟨rfl, h1, fun _ => ⟨_, t, HUL.out.1, HUL.out.2.trans h2, h3⟩, fun h => absurd rfl h⟩
  · have hn' : ((L : Int) == 1) = false := by simp; omega
    have HN := Lib.hid hn
    clear hn
    go_wp2
    go_ret
    have hr := HR0.out
    rw [usesR, ← HL.out.2, if_neg (by have := HN.out; omega)] at hr
    subst hr
    exact ⟨rfl, HST.out, (fun h => by (cases h)), fun _ => HC.out.2.2.1⟩

end Go.Proofs.YtghkbihgdabamaaGreatDoor

namespace Go.Proofs.YtghkbihgdabamaaGreatDoor
open Go.RowKit

/-- what a look at a value answers: what is wrong, and the type, if nothing is -/
def OutP (kf : Nat → Bool) (w' : World) (R : Int × Ty5) (e : Ending) : Prop := ∃ y er f, e = .returned (.tuple #[tyV y, .int .i64 er]) ∧ er = R.1 ∧ (R.1 = 0 → erTy y = R.2) ∧ TyH f (ebp w' kf) y
def ofoT (s : So5) (m : Nat) (b : Bo) : List Us → Ty5
  | [u] => (useR s m b u).getD ty0
  | _ => ty0
def ofoR (s : So5) (m : Nat) (b : Bo) (x : Va) : Int × Ty5 := if x.k = 0 ∨ usesR s m b (fun _ _ => true) 1 x.uses ≠ 0 then (usesR s m b (fun _ _ => true) 1 x.uses, ofoT s m b x.uses) else if holdsT (ofoT s m b x.uses) = true then (73, ofoT s m b x.uses) else (0, .mk 4 nil5 h0 [ofoT s m b x.uses])
theorem holdsT_er : ∀ t, holdsT (erTy t) = holdsT t
  | .mk k nm h l => by rw [erTy, holdsT, holdsT, holdsTs_er l]
where holdsTs_er : ∀ l, holdsTs (erTys l) = holdsTs l
  | [] => by rw [erTys]
  | x :: l => by rw [erTys, holdsTs, holdsTs, holdsT_er x, holdsTs_er l]
theorem zty (w : World) : TyH 1 w (.mk 0 ⟨#[]⟩ h0 []) := ⟨by unfold I64; omega, Row.nil _ _ _ _⟩
set_option maxRecDepth 100000 in
set_option maxHeartbeats 40000000 in
theorem ofOne_any (kf : Nat → Bool) (m : Nat) (s : So5) (b : Bo) (v : Nat) (x : Va) (w : World) (hs : SoH m w s) (hsn : SoN s) (hv : ViewAt w v s b) (hb : BoH m w b) (hx : VaH w x) (hk : ∀ y, w.heap.size ≤ y → kf y = true) (hbk : ∀ lo ∈ b.locals, TyH m (ebp w kf) lo.ty) :
    Calls Tryz.prog 114 #[.pointer (some ⟨v, 0, none⟩), vaV x] w fun e w' => Below w.heap.size w w' ∧ OutP kf w' (ofoR s m b x) e := by
  obtain ⟨R, hR⟩ : ∃ R, ofoR s m b x = R := ⟨_, rfl⟩
  rw [hR]
  obtain ⟨k, hu, uses, ⟨loc, ph, path⟩, which, tag⟩ := x
  obtain ⟨-, hxu, -⟩ := hx
  dsimp only at hxu
  obtain ⟨nu, hnu⟩ : ∃ n, uses.length = n := ⟨_, rfl⟩
  simp only [vaV, vaC, spC, List.cons_append, List.nil_append, hnu]
  obtain ⟨W0, hW⟩ : ∃ W, W = (w.alloc (.cells #[.int .i64 k, .slice hu.oa nu hu.cap, .int .i64 loc, .slice ph.oa path.length ph.cap, .int .i64 which, .int .i64 tag] 37)).alloc (.cells #[.int .i64 0, .string ⟨#[]⟩, .slice none 0 0] 46) := ⟨_, rfl⟩
  obtain ⟨hb0, hx0, hx1⟩ := pal2 w (.cells #[.int .i64 k, .slice hu.oa nu hu.cap, .int .i64 loc, .slice ph.oa path.length ph.cap, .int .i64 which, .int .i64 tag] 37) (.cells #[.int .i64 0, .string ⟨#[]⟩, .slice none 0 0] 46)
  rw [← hW] at hb0 hx0 hx1
  have hsz : W0.heap.size = w.heap.size + 2 := by rw [hW]; simp
  obtain ⟨N, hN⟩ : ∃ N, N = w.heap.size := ⟨_, rfl⟩
  rw [← hN] at hx0 hx1 hsz
  obtain ⟨W1, hW1⟩ : ∃ W, W = W0.alloc (.cells #[.int .i64 0, .string ⟨#[]⟩, .slice none 0 0] 46) := ⟨_, rfl⟩
  have hb1 : Below W0.heap.size W0 W1 := by rw [hW1]; exact alloc_below _ _
  have hx2 : W1.heap[N + 2]? = some (.cells #[.int .i64 0, .string ⟨#[]⟩, .slice none 0 0] 46) := by rw [hW1, ← hsz]; exact heap_alloc_new _ _
  have hsz1 : W1.heap.size = N + 3 := by rw [hW1]; simp [hsz]
  have hu1 := uses1_any W0 (fun q => kf q && (q != N + 1 && q != N + 2)) (N + 2) (.int .i64 0) (.string ⟨#[]⟩) (.slice none 0 0) m s b v hu uses W1 hb1 (SoH.below hs hb0) hsn (hv.below hb0) (BoH.below hb hb0) (Row.below hxu hb0 fun _ _ h => UsH.below h hb0) (by omega) hx2 (fun y hy => by
      have h1 := hk y (by omega)
      have h2 : y ≠ N + 1 ∧ y ≠ N + 2 := by omega
      simp [h1, h2]) (by simp) (fun lo hlo => TyH.und m _ _ _ (ebp_und hb0.size fun q hq hf => ⟨by
        have h2 : q ≠ N + 1 ∧ q ≠ N + 2 := by omega
        simp [hf, h2], hb0.block q hq⟩) (hbk lo hlo))
  rw [hnu] at hu1
  obtain ⟨er, her⟩ : ∃ z, usesR s m b (fun _ _ => true) 1 uses = z := ⟨_, rfl⟩
  rw [ofoR] at hR
  dsimp only at hR
  simp only [her] at hu1 hR
  have HU1 := Lib.hid hu1
  have HB0 := Lib.hid (And.intro hb0 (And.intro hx0 (And.intro hx1 (And.intro hsz (And.intro hb1 (And.intro hx2 hsz1))))))
  have HN1 := Lib.hid (show w.heap.size ≤ N + 1 by omega)
  have HK := Lib.hid hk
  have HNN := Lib.hid hN
  have HR := Lib.hid hR
  obtain ⟨v0, v1, v2, v3, v4, v5⟩ : W1.cell? ⟨N, 0, none⟩ = some (.int .i64 k) ∧ W1.cell? ⟨N, 1, none⟩ = some (.slice hu.oa nu hu.cap) ∧ True ∧ True ∧ True ∧ True := by
    have h : W1.heap[N]? = _ := (hb1.block N (blk_lt hx0)).trans hx0
    refine ⟨?_, ?_, trivial, trivial, trivial, trivial⟩ <;> simp [World.cell?, h]
  clear hs hsn hv hb hxu hk hbk hb0 hx0 hx1 hsz hb1 hx2 hsz1 hu1 her hR hnu v2 v3 v4 v5
  go_enter Tryz.func114, Tryz.ntmps114
  go_upto_region 1 with fail
  rw [← hW]
  clear hW
  try simp only [← hN]
  have HW1 := Lib.hid hW1
  clear hW1 hN
  go_upto_region 2 with fail
  have e9 : W0.heap.size = N + 2 := HB0.out.2.2.2.1
  rw [← HW1.out]
  try simp only [e9]
  clear e9
  go_upto_region 3 with (go_loud (go_at_call 89; refine HU1.out.mono ?_; rintro e W2 ⟨rfl, hone, hok, hno⟩))
  have HO := Lib.hid (And.intro hone (And.intro hok hno))
  clear hone hok hno
  have hr1 : W2.heap[N + 1]? = some (.cells #[.int .i64 0, .string ⟨#[]⟩, .slice none 0 0] 46) := by
    obtain ⟨hb0, hx0, hx1, hsz, hb1, hx2, hsz1⟩ := HB0.out
    exact (HO.out.1.2.2.2 (N + 1) (by omega) (by omega)).trans ((hb1.block (N + 1) (by omega)).trans hx1)
  have hr0 : W2.cell? ⟨N, 0, none⟩ = some (.int .i64 k) := by
    have h : W2.heap[N]? = W1.heap[N]? := HO.out.1.2.2.2 N (by omega) (by have := HB0.out.2.2.2.2.2.2; omega)
    exact (World.cell?_of_block (a := ⟨N, 0, none⟩) h).trans v0
  have hbw2 : Below w.heap.size w W2 := HB0.out.1.trans (HO.out.1.1.mono HB0.out.1.size)
  have HR1 := Lib.hid (And.intro hr1 hbw2)
  clear hr1 hbw2 v0 v1
  by_cases her0 : er = 0
  · subst her0
    obtain ⟨u, t, hlu, hru, ⟨k1, nm1, h1, l1⟩, f, hcy, hey, hty⟩ := HO.out.2.1 rfl
    simp only [tyC] at hcy
    obtain ⟨t0, t1, t2, tf, tl⟩ := cells3p hcy
    have hot : ofoT s m b uses = t := by rw [hlu, ofoT, hru]; rfl
    have HY := Lib.hid (And.intro hot (And.intro hey hty))
    clear hlu hru hcy hot hey hty
    cases e1 : (k == 0) with
    | true =>
      have hk0 : k = 0 := by simpa using e1
      go_wp2_with (go_loud (refine wpList_store_box rfl 46 (.tmp 4) (.tmp 20) rfl (N + 1) 0 rfl (.agg #[.int .i64 k1, .string nm1, .slice h1.oa l1.length h1.cap]) rfl [.int .i64 k1, .string nm1, .slice h1.oa l1.length h1.cap] rfl [.int .i64 0, .string ⟨#[]⟩, .slice none 0 0] 46 HR1.out.1 (Nat.le_refl _) (show (Tryz.prog.info? 46).map (·.size) = some 3 by kernel_rfl) ?ca1 w.heap.size HN1.out W2 (Below.refl _ _) ?_; rotate_left; intro WF hbF hbx hoth))
      try case ca1 => first | exact ⟨rfl, rfl, rfl⟩ | (intro v hv; simp at hv; rcases hv with rfl | rfl | rfl <;> rfl)
      have HFF := Lib.hid (And.intro hbF (And.intro hbx hoth))
      obtain ⟨f0, f1, f2, ff, fl⟩ := cells3p hbx
      clear hbF hbx hoth
      go_wp2
      refine bodyPost_ret (v := .tuple #[.agg #[.int .i64 k1, .string nm1, .slice h1.oa l1.length h1.cap], .int .i64 0]) (by simp [results, Tryz.results114, go_sem, f0, f1, f2]) rfl ⟨HR1.out.2.trans HFF.out.1, ?_⟩
      have hR := HR.out
      rw [if_pos (Or.inl hk0)] at hR
      subst hR
      refine ⟨.mk k1 nm1 h1 l1, 0, f, rfl, rfl, fun _ => HY.out.2.1.trans HY.out.1.symm, TyH.und f _ _ _ (ebp_und HFF.out.1.size fun q hq hf => ?_) HY.out.2.2⟩
      simp at hf
      exact ⟨hf.1, HFF.out.2.2 q hf.2.1⟩
    | false =>
      have hk0 : ¬ k = 0 := by simpa using e1
      have HK0 := Lib.hid hk0
      clear hk0
      obtain ⟨B, hB⟩ : ∃ B, holdsT (.mk k1 nm1 h1 l1) = B := ⟨_, rfl⟩
      have hcall := holds_any f (.mk k1 nm1 h1 l1) W2 (TyH.und f _ _ _ (ebp_all W2 _) HY.out.2.2)
      rw [hB] at hcall
      simp only [tyV, tyC] at hcall
      have HCL := Lib.hid hcall
      have hRB : (if holdsT (ofoT s m b uses) = true then ((73 : Int), ofoT s m b uses) else (0, .mk 4 nil5 h0 [ofoT s m b uses])) = R := by
        have hR := HR.out
        rw [if_neg (by rintro (h | h)
                       · exact HK0.out h
                       · exact h rfl)] at hR
        exact hR
      have hot : holdsT (ofoT s m b uses) = B := by rw [HY.out.1, ← HY.out.2.1, holdsT_er, hB]
      rw [hot] at hRB
      have HRB := Lib.hid hRB
      clear hcall hRB hot hB
      go_upto_if 23 with (go_loud (go_at_call 94; refine HCL.out.mono ?_; rintro e W3 ⟨rfl, hb3⟩; have H3 := Lib.hid (And.intro ((hb3.block (N + 1) (blk_lt HR1.out.1)).trans HR1.out.1) (And.intro (HR1.out.2.trans (hb3.mono HR1.out.2.size)) hb3)); have q0 := (hb3.cell (p := ⟨N + 2, 0, none⟩) (World.block_lt_of_cell? W2 _ t0)).trans t0; have q1 := (hb3.cell (p := ⟨N + 2, 1, none⟩) (World.block_lt_of_cell? W2 _ t1)).trans t1; have q2 := (hb3.cell (p := ⟨N + 2, 2, none⟩) (World.block_lt_of_cell? W2 _ t2)).trans t2; clear hb3))
      cases B with
      | true =>
        go_wp2_with (go_loud (refine wpList_store_box rfl 46 (.tmp 4) (.tmp 24) rfl (N + 1) 0 rfl (.agg #[.int .i64 k1, .string nm1, .slice h1.oa l1.length h1.cap]) rfl [.int .i64 k1, .string nm1, .slice h1.oa l1.length h1.cap] rfl [.int .i64 0, .string ⟨#[]⟩, .slice none 0 0] 46 H3.out.1 (Nat.le_refl _) (show (Tryz.prog.info? 46).map (·.size) = some 3 by kernel_rfl) ?ca2 w.heap.size HN1.out W3 (Below.refl _ _) ?_; rotate_left; intro WF hbF hbx hoth))
        try case ca2 => first | exact ⟨rfl, rfl, rfl⟩ | (intro v hv; simp at hv; rcases hv with rfl | rfl | rfl <;> rfl)
        have HFF := Lib.hid (And.intro hbF (And.intro hbx hoth))
        obtain ⟨f0, f1, f2, ff, fl⟩ := cells3p hbx
        clear hbF hbx hoth
        go_wp2
        refine bodyPost_ret (v := .tuple #[.agg #[.int .i64 k1, .string nm1, .slice h1.oa l1.length h1.cap], .int .i64 73]) (by simp [results, Tryz.results114, go_sem, f0, f1, f2]) rfl ⟨H3.out.2.1.trans HFF.out.1, ?_⟩
        have hR := HRB.out
        first | rw [if_pos rfl] at hR | simp only [if_true] at hR
        subst hR
        refine ⟨.mk k1 nm1 h1 l1, 73, f, rfl, rfl, fun h => by (cases h), TyH.und f _ _ _ (ebp_und (Nat.le_trans H3.out.2.2.size HFF.out.1.size) fun q hq hf => ?_) HY.out.2.2⟩
        simp at hf
        exact ⟨hf.1, (HFF.out.2.2 q hf.2.1).trans (H3.out.2.2.block q hq)⟩
      | false =>
        go_wp2_with (go_loud (refine wpList_store_box rfl 46 (.tmp 4) (.tmp 27) rfl (N + 1) 0 rfl (.agg #[.int .i64 4, .string ⟨#[]⟩, .slice (some ⟨W3.heap.size, 0, none⟩) 1 1]) rfl [.int .i64 4, .string ⟨#[]⟩, .slice (some ⟨W3.heap.size, 0, none⟩) 1 1] rfl [.int .i64 0, .string ⟨#[]⟩, .slice none 0 0] 46 (((alloc_below W3 (.cells #[.int .i64 k1, .string nm1, .slice h1.oa l1.length h1.cap] 46)).block (N + 1) (blk_lt H3.out.1)).trans H3.out.1) (Nat.le_refl _) (show (Tryz.prog.info? 46).map (·.size) = some 3 by kernel_rfl) ?ca3 w.heap.size HN1.out (W3.alloc (.cells #[.int .i64 k1, .string nm1, .slice h1.oa l1.length h1.cap] 46)) (Below.refl _ _) ?_; rotate_left; intro WF hbF hbx hoth))
        try case ca3 => first | exact ⟨rfl, rfl, rfl⟩ | (intro v hv; simp at hv; rcases hv with rfl | rfl | rfl <;> rfl)
        have HFF := Lib.hid (And.intro hbF (And.intro hbx hoth))
        obtain ⟨f0, f1, f2, ff, fl⟩ := cells3p hbx
        clear hbF hbx hoth
        go_wp2
        refine bodyPost_ret (v := .tuple #[.agg #[.int .i64 4, .string ⟨#[]⟩, .slice (some ⟨W3.heap.size, 0, none⟩) 1 1], .int .i64 0]) (by simp [results, Tryz.results114, go_sem, f0, f1, f2]) rfl ⟨(H3.out.2.1.trans ((alloc_below W3 (.cells #[.int .i64 k1, .string nm1, .slice h1.oa l1.length h1.cap] 46)).mono H3.out.2.1.size)).trans HFF.out.1, ?_⟩
        have hR := HRB.out
        rw [if_neg (by simp)] at hR
        subst hR
        obtain ⟨hbF, hbx, hoth⟩ := HFF.out
        have hNW : N + 1 < W3.heap.size := blk_lt H3.out.1
        have hbl : WF.heap[W3.heap.size]? = some (.cells #[.int .i64 k1, .string nm1, .slice h1.oa l1.length h1.cap] 46) := (hoth _ (by omega)).trans (heap_alloc_new W3 _)
        have hsF : W3.heap.size + 1 ≤ WF.heap.size := by
          have := blk_lt hbl
          omega
        have hyF : TyH f (ebp WF kf) (.mk k1 nm1 h1 l1) := TyH.und f _ _ _ (ebp_und (Nat.le_trans H3.out.2.2.size (by omega)) fun q hq hf => by
          simp at hf
          exact ⟨hf.1, (hoth q hf.2.1).trans (((alloc_below W3 (.cells #[.int .i64 k1, .string nm1, .slice h1.oa l1.length h1.cap] 46)).block q (Nat.lt_of_lt_of_le hq H3.out.2.2.size)).trans (H3.out.2.2.block q hq))⟩) HY.out.2.2
        have hkM : kf W3.heap.size = true := HK.out _ H3.out.2.1.size
        obtain ⟨c0, c1, c2, -, -⟩ := cells3p hbl
        have hcc : ∀ j z, WF.cell? ⟨W3.heap.size, j, none⟩ = some z → (ebp WF kf).cell? ⟨W3.heap.size, j, none⟩ = some z := fun j z h => (World.cell?_of_block (a := ⟨W3.heap.size, j, none⟩) (ebp_heap hkM)).trans h
        refine ⟨.mk 4 ⟨#[]⟩ ⟨some ⟨W3.heap.size, 0, none⟩, 1⟩ [.mk k1 nm1 h1 l1], 0, f + 1, rfl, rfl, fun _ => ?_, ⟨by unfold I64; omega, Nat.le_refl _, (show (1 : Nat) ≤ maxLen by unfold maxLen; decide), fun _ => ⟨W3.heap.size, 0, rfl, by rw [ebp_size]; omega, fun i x hx j u hu => ?_⟩, fun x hx => ?_⟩⟩
        · show erTy _ = _
          rw [erTy, erTys, erTys, HY.out.1, ← HY.out.2.1]
          rfl
        · cases i with
          | zero =>
            obtain rfl : _ = x := by simpa using hx
            simp only [Nat.zero_mul, Nat.zero_add]
            match j, hu with
            | 0, hu => simp [tyC] at hu; subst hu; exact hcc _ _ c0
            | 1, hu => simp [tyC] at hu; subst hu; exact hcc _ _ c1
            | 2, hu => simp [tyC] at hu; subst hu; exact hcc _ _ c2
            | j + 3, hu => simp [tyC] at hu
          | succ i => simp at hx
        · obtain rfl := List.mem_singleton.1 hx
          exact hyF
  · obtain ⟨t0, t1, t2, tf, tl⟩ := cells3p (HO.out.2.2 her0)
    have her1 : (er != 0) = true := by simpa using her0
    have HE0 := Lib.hid her0
    clear her0
    cases e1 : (k == 0) with
    | true =>
      go_wp2_with (go_loud (refine wpList_store_box rfl 46 (.tmp 4) (.tmp 20) rfl (N + 1) 0 rfl (.agg #[.int .i64 0, .string ⟨#[]⟩, .slice none 0 0]) rfl [.int .i64 0, .string ⟨#[]⟩, .slice none 0 0] rfl [.int .i64 0, .string ⟨#[]⟩, .slice none 0 0] 46 HR1.out.1 (Nat.le_refl _) (show (Tryz.prog.info? 46).map (·.size) = some 3 by kernel_rfl) ?ca4 w.heap.size HN1.out W2 (Below.refl _ _) ?_; rotate_left; intro WF hbF hbx hoth))
      try case ca4 => first | exact ⟨rfl, rfl, rfl⟩ | (intro v hv; simp at hv; rcases hv with rfl | rfl | rfl <;> rfl)
      have HFF := Lib.hid (And.intro hbF (And.intro hbx hoth))
      obtain ⟨f0, f1, f2, ff, fl⟩ := cells3p hbx
      clear hbF hbx hoth
      go_wp2
      refine bodyPost_ret (v := .tuple #[.agg #[.int .i64 0, .string ⟨#[]⟩, .slice none 0 0], .int .i64 er]) (by simp [results, Tryz.results114, go_sem, f0, f1, f2]) rfl ⟨HR1.out.2.trans HFF.out.1, ?_⟩
      have hR := HR.out
      rw [if_pos (Or.inr HE0.out)] at hR
      subst hR
      exact ⟨.mk 0 ⟨#[]⟩ h0 [], er, 1, rfl, rfl, fun h => absurd h HE0.out, zty _⟩
    | false =>
      go_wp2_with (go_loud (refine wpList_store_box rfl 46 (.tmp 4) (.tmp 20) rfl (N + 1) 0 rfl (.agg #[.int .i64 0, .string ⟨#[]⟩, .slice none 0 0]) rfl [.int .i64 0, .string ⟨#[]⟩, .slice none 0 0] rfl [.int .i64 0, .string ⟨#[]⟩, .slice none 0 0] 46 HR1.out.1 (Nat.le_refl _) (show (Tryz.prog.info? 46).map (·.size) = some 3 by kernel_rfl) ?ca5 w.heap.size HN1.out W2 (Below.refl _ _) ?_; rotate_left; intro WF hbF hbx hoth))
      try case ca5 => first | exact ⟨rfl, rfl, rfl⟩ | (intro v hv; simp at hv; rcases hv with rfl | rfl | rfl <;> rfl)
      have HFF := Lib.hid (And.intro hbF (And.intro hbx hoth))
      obtain ⟨f0, f1, f2, ff, fl⟩ := cells3p hbx
      clear hbF hbx hoth
      go_wp2
      refine bodyPost_ret (v := .tuple #[.agg #[.int .i64 0, .string ⟨#[]⟩, .slice none 0 0], .int .i64 er]) (by simp [results, Tryz.results114, go_sem, f0, f1, f2]) rfl ⟨HR1.out.2.trans HFF.out.1, ?_⟩
      have hR := HR.out
      rw [if_pos (Or.inr HE0.out)] at hR
      subst hR
      exact ⟨.mk 0 ⟨#[]⟩ h0 [], er, 1, rfl, rfl, fun h => absurd h HE0.out, zty _⟩

end Go.Proofs.YtghkbihgdabamaaGreatDoor

namespace Go.Proofs.YtghkbihgdabamaaGreatDoor
open Go.RowKit

def hdT : Ty5 → Ty5
  | .mk _ _ _ (x :: _) => x
  | t => t
def unboxR (t : Ty5) (np : Nat) : Int × Ty5 := if 0 < np then (84, t) else if kdT t = 4 ∧ addrB t = true then (0, hdT t) else (80, t)
set_option maxRecDepth 100000 in
set_option maxHeartbeats 40000000 in
theorem unboxed_any (kf : Nat → Bool) (f : Nat) (y : Ty5) (x : Sp) (w : World) (hy : TyH f (ebp w kf) y) (hk : ∀ z, w.heap.size ≤ z → kf z = true) (hx : x.path.length ≤ maxLen) :
    Calls Tryz.prog 119 #[tyV y, spV x] w fun e w' => Below w.heap.size w w' ∧ OutP kf w' (unboxR (erTy y) x.path.length) e := by
  obtain ⟨loc, ph, path⟩ := x
  obtain ⟨R, hR⟩ : ∃ R, unboxR (erTy y) path.length = R := ⟨_, rfl⟩
  dsimp only at hx ⊢
  rw [hR]
  have had := fun W => isAddress_any y W
  obtain ⟨BA, hBA⟩ : ∃ B, addrB y = B := ⟨_, rfl⟩
  simp only [hBA] at had
  have hkd : kdT (erTy y) = kdT y := kdT_er y
  rw [unboxR, addrB_er, hBA, hkd] at hR
  obtain ⟨k1, nm1, h1, l1⟩ := y
  obtain ⟨n1, hn1⟩ : ∃ n, l1.length = n := ⟨_, rfl⟩
  obtain ⟨np, hnp⟩ : ∃ n, path.length = n := ⟨_, rfl⟩
  rw [hnp] at hR hx
  simp only [tyV, tyC, spV, spC, hn1, hnp] at had ⊢
  obtain ⟨W0, hW⟩ : ∃ W, W = ((w.alloc (.cells #[.int .i64 k1, .string nm1, .slice h1.oa n1 h1.cap] 46)).alloc (.cells #[.int .i64 loc, .slice ph.oa np ph.cap] 33)).alloc (.cells #[.int .i64 0, .string ⟨#[]⟩, .slice none 0 0] 46) := ⟨_, rfl⟩
  obtain ⟨hb0, hx0, hx1, hx2⟩ := pal3 w (.cells #[.int .i64 k1, .string nm1, .slice h1.oa n1 h1.cap] 46) (.cells #[.int .i64 loc, .slice ph.oa np ph.cap] 33) (.cells #[.int .i64 0, .string ⟨#[]⟩, .slice none 0 0] 46)
  rw [← hW] at hb0 hx0 hx1 hx2
  obtain ⟨N, hN⟩ : ∃ N, N = w.heap.size := ⟨_, rfl⟩
  rw [← hN] at hx0 hx1 hx2
  have HY := Lib.hid (And.intro hy hn1)
  have HN0 := Lib.hid hN
  have HN1 := Lib.hid (show w.heap.size ≤ N + 2 by omega)
  have HB0 := Lib.hid (And.intro hb0 hx2)
  have HR := Lib.hid hR
  have HAD := Lib.hid had
  have HBA := Lib.hid hBA
  have HKK := Lib.hid hk
  unfold maxLen at hx
  obtain ⟨y0, y1, y2, yf, yl⟩ := cells3p hx0
  obtain ⟨s0, s1, sf, sl⟩ := cells2p hx1
  clear hy hb0 hx0 hx1 hx2 hR had hBA hkd hn1 hnp hk
  go_enter Tryz.func119, Tryz.ntmps119
  go_upto_region 1 with fail
  rw [← hW]
  clear hW
  try simp only [← hN]
  clear hN
  by_cases h0 : 0 < np
  · have hR2 : ((84 : Int), erTy (.mk k1 nm1 h1 l1)) = R := by
      have h := HR.out
      rw [if_pos h0] at h
      exact h
    clear HR
    have HR := Lib.hid hR2
    clear hR2
    go_wp2_with (go_loud (refine wpList_store_box rfl 46 (.tmp 4) (.tmp 10) rfl (N + 2) 0 rfl (.agg #[.int .i64 k1, .string nm1, .slice h1.oa n1 h1.cap]) rfl [.int .i64 k1, .string nm1, .slice h1.oa n1 h1.cap] rfl [.int .i64 0, .string ⟨#[]⟩, .slice none 0 0] 46 HB0.out.2 (Nat.le_refl _) (show (Tryz.prog.info? 46).map (·.size) = some 3 by kernel_rfl) ?ca1 w.heap.size HN1.out W0 (Below.refl _ _) ?_; rotate_left; intro WF hbF hbx hoth))
    try case ca1 => first | exact ⟨rfl, rfl, rfl⟩ | (intro v hv; simp at hv; rcases hv with rfl | rfl | rfl <;> rfl)
    have HFF := Lib.hid (And.intro hbF (And.intro hbx hoth))
    obtain ⟨f0, f1, f2, ff, fl⟩ := cells3p hbx
    clear hbF hbx hoth
    go_wp2
    refine bodyPost_ret (v := .tuple #[.agg #[.int .i64 k1, .string nm1, .slice h1.oa n1 h1.cap], .int .i64 84]) (by simp [results, Tryz.results119, go_sem, f0, f1, f2]) rfl ⟨HB0.out.1.trans HFF.out.1, ?_⟩
    exact ⟨.mk k1 nm1 h1 l1, 84, f, by rw [← HY.out.2]; rfl, by rw [← HR.out], (fun h => by (rw [← HR.out] at h; cases h)), TyH.und f _ _ _ (ebp_und (Nat.le_trans HB0.out.1.size HFF.out.1.size) fun q hq hf => ⟨hf, (HFF.out.2.2 q (by have := HN0.out; omega)).trans (HB0.out.1.block q hq)⟩) HY.out.1⟩
  · cases e1 : (k1 != 4) with
    | true =>
      have hR2 : ((80 : Int), erTy (.mk k1 nm1 h1 l1)) = R := by
        have h := HR.out
        rw [if_neg h0, if_neg (fun hh => by
            have h4 : k1 = 4 := hh.1
            simp [h4] at e1)] at h
        exact h
      clear HR
      have HR := Lib.hid hR2
      clear hR2
      go_wp2_with (go_loud (refine wpList_store_box rfl 46 (.tmp 4) (.tmp 19) rfl (N + 2) 0 rfl (.agg #[.int .i64 k1, .string nm1, .slice h1.oa n1 h1.cap]) rfl [.int .i64 k1, .string nm1, .slice h1.oa n1 h1.cap] rfl [.int .i64 0, .string ⟨#[]⟩, .slice none 0 0] 46 HB0.out.2 (Nat.le_refl _) (show (Tryz.prog.info? 46).map (·.size) = some 3 by kernel_rfl) ?ca2 w.heap.size HN1.out W0 (Below.refl _ _) ?_; rotate_left; intro WF hbF hbx hoth))
      try case ca2 => first | exact ⟨rfl, rfl, rfl⟩ | (intro v hv; simp at hv; rcases hv with rfl | rfl | rfl <;> rfl)
      have HFF := Lib.hid (And.intro hbF (And.intro hbx hoth))
      obtain ⟨f0, f1, f2, ff, fl⟩ := cells3p hbx
      clear hbF hbx hoth
      go_wp2
      refine bodyPost_ret (v := .tuple #[.agg #[.int .i64 k1, .string nm1, .slice h1.oa n1 h1.cap], .int .i64 80]) (by simp [results, Tryz.results119, go_sem, f0, f1, f2]) rfl ⟨HB0.out.1.trans HFF.out.1, ?_⟩
      exact ⟨.mk k1 nm1 h1 l1, 80, f, by rw [← HY.out.2]; rfl, by rw [← HR.out], (fun h => by (rw [← HR.out] at h; cases h)), TyH.und f _ _ _ (ebp_und (Nat.le_trans HB0.out.1.size HFF.out.1.size) fun q hq hf => ⟨hf, (HFF.out.2.2 q (by have := HN0.out; omega)).trans (HB0.out.1.block q hq)⟩) HY.out.1⟩
    | false =>
      have HK4 := Lib.hid (show k1 = 4 by simpa using e1)
      go_upto_if 18 with (go_loud (go_at_call 81; refine (HAD.out W0).mono ?_; rintro e W3 ⟨rfl, hb3⟩; have H3 := Lib.hid (And.intro ((hb3.block (N + 2) (blk_lt HB0.out.2)).trans HB0.out.2) (And.intro (HB0.out.1.trans (hb3.mono HB0.out.1.size)) hb3)); have q0 := (hb3.cell (p := ⟨N, 0, none⟩) (World.block_lt_of_cell? W0 _ y0)).trans y0; have q1 := (hb3.cell (p := ⟨N, 1, none⟩) (World.block_lt_of_cell? W0 _ y1)).trans y1; have q2 := (hb3.cell (p := ⟨N, 2, none⟩) (World.block_lt_of_cell? W0 _ y2)).trans y2; clear hb3))
      cases BA with
      | false =>
        have hR2 : ((80 : Int), erTy (.mk k1 nm1 h1 l1)) = R := by
          have h := HR.out
          rw [if_neg h0, if_neg (fun hh => by have := hh.2; first | cases this | simp at this)] at h
          exact h
        clear HR
        have HR := Lib.hid hR2
        clear hR2
        go_wp2_with (go_loud (refine wpList_store_box rfl 46 (.tmp 4) (.tmp 19) rfl (N + 2) 0 rfl (.agg #[.int .i64 k1, .string nm1, .slice h1.oa n1 h1.cap]) rfl [.int .i64 k1, .string nm1, .slice h1.oa n1 h1.cap] rfl [.int .i64 0, .string ⟨#[]⟩, .slice none 0 0] 46 H3.out.1 (Nat.le_refl _) (show (Tryz.prog.info? 46).map (·.size) = some 3 by kernel_rfl) ?ca3 w.heap.size HN1.out W3 (Below.refl _ _) ?_; rotate_left; intro WF hbF hbx hoth))
        try case ca3 => first | exact ⟨rfl, rfl, rfl⟩ | (intro v hv; simp at hv; rcases hv with rfl | rfl | rfl <;> rfl)
        have HFF := Lib.hid (And.intro hbF (And.intro hbx hoth))
        obtain ⟨f0, f1, f2, ff, fl⟩ := cells3p hbx
        clear hbF hbx hoth
        go_wp2
        refine bodyPost_ret (v := .tuple #[.agg #[.int .i64 k1, .string nm1, .slice h1.oa n1 h1.cap], .int .i64 80]) (by simp [results, Tryz.results119, go_sem, f0, f1, f2]) rfl ⟨H3.out.2.1.trans HFF.out.1, ?_⟩
        exact ⟨.mk k1 nm1 h1 l1, 80, f, by rw [← HY.out.2]; rfl, by rw [← HR.out], (fun h => by (rw [← HR.out] at h; cases h)), TyH.und f _ _ _ (ebp_und (Nat.le_trans H3.out.2.1.size HFF.out.1.size) fun q hq hf => ⟨hf, (HFF.out.2.2 q (by have := HN0.out; omega)).trans (H3.out.2.1.block q hq)⟩) HY.out.1⟩
      | true =>
        obtain ⟨hy, hn1⟩ := HY.out
        have hba := HBA.out
        have hl1 : l1.length = 1 := by
          unfold addrB at hba
          simp only [Bool.and_eq_true, beq_iff_eq] at hba
          have := hba.2
          omega
        obtain ⟨z, rfl⟩ : ∃ z, l1 = [z] := by
          match l1, hl1 with
          | [z], _ => exact ⟨z, rfl⟩
        obtain ⟨f, rfl⟩ : ∃ f', f = f' + 1 := by
          cases f with
          | zero => exact hy.elim
          | succ f => exact ⟨f, rfl⟩
        have hz := hy.2.2.2.2 z (by simp)
        obtain ⟨bz, oz, hoz, hbz, hcz⟩ := hy.2.2.2.1 (by simp)
        have hzc : ∀ (j : Nat) u, (tyC z)[j]? = some u → W3.cell? ⟨bz, oz + j, none⟩ = some u := fun j u hu => by
          have h1 := (ebp_cell (hcz 0 z rfl j u hu)).2
          have h2 := (H3.out.2.1.cell (World.block_lt_of_cell? w _ h1)).trans h1
          simpa using h2
        have hR2 : ((0 : Int), erTy z) = R := by
          have h := HR.out
          rw [if_neg h0, if_pos ⟨HK4.out, rfl⟩, erTy, erTys, hdT] at h
          exact h
        clear HR
        have HR := Lib.hid hR2
        obtain ⟨k2, nm2, h2, l2⟩ := z
        obtain ⟨n2, hn2⟩ : ∃ n, l2.length = n := ⟨_, rfl⟩
        have g0 : W3.cell? ⟨bz, oz, none⟩ = some (.int .i64 k2) := by simpa using hzc 0 _ rfl
        have g1 : W3.cell? ⟨bz, oz + 1, none⟩ = some (.string nm2) := hzc 1 _ rfl
        have g2 : W3.cell? ⟨bz, oz + 2, none⟩ = some (.slice h2.oa n2 h2.cap) := by rw [← hn2]; exact hzc 2 _ rfl
        have HZ := Lib.hid (And.intro hz hn2)
        obtain rfl : n1 = 1 := by simpa using hn1.symm
        rw [hoz] at q2
        clear hy hn1 hba hl1 hz hbz hcz hzc hR2 hn2 hoz
        skip
        go_wp2_with (go_loud (refine wpList_store_box rfl 46 (.tmp 4) (.tmp 23) rfl (N + 2) 0 rfl (.agg #[.int .i64 k2, .string nm2, .slice h2.oa n2 h2.cap]) rfl [.int .i64 k2, .string nm2, .slice h2.oa n2 h2.cap] rfl [.int .i64 0, .string ⟨#[]⟩, .slice none 0 0] 46 H3.out.1 (Nat.le_refl _) (show (Tryz.prog.info? 46).map (·.size) = some 3 by kernel_rfl) ?ca4 w.heap.size HN1.out W3 (Below.refl _ _) ?_; rotate_left; intro WF hbF hbx hoth))
        try case ca4 => first | exact ⟨rfl, rfl, rfl⟩ | (intro v hv; simp at hv; rcases hv with rfl | rfl | rfl <;> rfl)
        have HFF := Lib.hid (And.intro hbF (And.intro hbx hoth))
        obtain ⟨f0, f1, f2, ff, fl⟩ := cells3p hbx
        clear hbF hbx hoth
        go_wp2
        refine bodyPost_ret (v := .tuple #[.agg #[.int .i64 k2, .string nm2, .slice h2.oa n2 h2.cap], .int .i64 0]) (by simp [results, Tryz.results119, go_sem, f0, f1, f2]) rfl ⟨H3.out.2.1.trans HFF.out.1, ?_⟩
        exact ⟨.mk k2 nm2 h2 l2, 0, f, by rw [← HZ.out.2]; rfl, by rw [← HR.out], (fun _ => by rw [← HR.out]), TyH.und f _ _ _ (ebp_und (Nat.le_trans H3.out.2.1.size HFF.out.1.size) fun q hq hf => ⟨hf, (HFF.out.2.2 q (by have := HN0.out; omega)).trans (H3.out.2.1.block q hq)⟩) HZ.out.1⟩

end Go.Proofs.YtghkbihgdabamaaGreatDoor
