/-
  Arguments that are bodies, spots, uses, values, opened to the model, with their bulk. No conditions: lemmas.
-/
import Derived.Test.YtghkbihgdabamaaGreatDoorKQSzArgs
import Derived.Test.YtghkbihgdabamaaGreatDoorKBModel
import Derived.Test.YtghkbihgdabamaaGreatDoorKQSett
namespace Go.Proofs.YtghkbihgdabamaaGreatDoor
open Go.RowKit Go.ChangeShapes Go.WideShapes Go.ChangeAt

theorem kzis : Tryz.prog.cellsOf 31 = 1 := by kernel_rfl
theorem kzrk : Tryz.prog.cellsOf 34 = 1 := by kernel_rfl
theorem kzik : Tryz.prog.cellsOf 82 = 1 := by kernel_rfl
theorem kztk : Tryz.prog.cellsOf 55 = 1 := by kernel_rfl
theorem kzus : Tryz.prog.cellsOf 35 = 1 := by kernel_rfl
theorem kzns : Tryz.prog.cellsOf 58 = 1 := by kernel_rfl
theorem kzbs : Tryz.prog.cellsOf 28 = 1 := by kernel_rfl
theorem kzls : Tryz.prog.cellsOf 27 = 1 := by kernel_rfl
theorem kzsp : Tryz.prog.cellsOf 33 = 2 := by kernel_rfl
theorem kzu : Tryz.prog.cellsOf 42 = 5 := by kernel_rfl
theorem kzva : Tryz.prog.cellsOf 37 = 6 := by kernel_rfl
theorem kzin : Tryz.prog.cellsOf 84 = 15 := by kernel_rfl
theorem kztm : Tryz.prog.cellsOf 57 = 16 := by kernel_rfl
theorem kzbl : Tryz.prog.cellsOf 60 = 17 := by kernel_rfl
theorem kzlo : Tryz.prog.cellsOf 66 = 4 := by kernel_rfl
theorem kzbo : Tryz.prog.cellsOf 30 = 4 := by kernel_rfl
section
variable {H : Type} {enc : TypeId × Value → H} {W : World}
theorem int_sz {fuel : Nat} {cs : List Value} {x : DataW H × List MemPlace} (hl : cs.length = 1) (h : Tr enc W fuel 3 cs x) : ∃ p, cs = intC p ∧ I64 p ∧ 1 ≤ Rows.uptoBulk x.1 := by
  obtain ⟨n, e, -, w⟩ := DataW.trod_int Tryz.underlying3 h
  exact ⟨n, by rw [e]; rfl, i64_bounds w, bulk_one _⟩
set_option maxRecDepth 100000 in
theorem sp_sz {fuel : Nat} {cs : List Value} {x : DataW H × List MemPlace} (hl : cs.length = 2) (h : Tr enc W fuel 33 cs x) : ∃ p, cs = spC p ∧ SpH W p ∧ 1 ≤ Rows.uptoBulk x.1 := by
  obtain ⟨xs, m, _, hxe, _, hlen, hf⟩ := DataW.trod_struct Tryz.underlying33 h
  match cs, hl with
  | [c0, c1], _ =>
    match xs, hlen with
    | [y0, y1], _ =>
      have h0 := hf 0 _ rfl
      have h1 := hf 1 _ rfl
      clear hf h
      simp [kz3] at h0
      simp [kzis] at h1
      obtain ⟨n0, e0, -, w0⟩ := DataW.trod_int Tryz.underlying3 h0
      obtain ⟨a1, l1, e1, r1, s1⟩ := row_sz intC I64 (fun _ => 1) Tryz.underlying31 kz3 (by decide) h1 fun q cs' x' hq hl ht => by
        exact int_sz hl ht
      have hb := congrArg (fun z => Rows.uptoBulk z.1) hxe
      simp only [List.map_cons, List.map_nil, Rows.uptoBulk, Rows.uptoBulkAll] at hb
      have b0 := bulk_one y0.1
      have b1 := bulk_one y1.1
      refine ⟨⟨n0, a1, l1⟩, ?_, ⟨i64_bounds w0, r1⟩, by omega⟩
      show _ = spC ⟨n0, a1, l1⟩
      simp only [List.cons.injEq, and_true] at e0 e1
      rw [spC, e0, e1]
      all_goals rfl
set_option maxRecDepth 100000 in
theorem us_sz {fuel : Nat} {cs : List Value} {x : DataW H × List MemPlace} (hl : cs.length = 5) (h : Tr enc W fuel 42 cs x) : ∃ p, cs = usC p ∧ UsH W p ∧ 1 ≤ Rows.uptoBulk x.1 := by
  obtain ⟨xs, m, _, hxe, _, hlen, hf⟩ := DataW.trod_struct Tryz.underlying42 h
  match cs, hl with
  | [c0, c1, c2, c3, c4], _ =>
    match xs, hlen with
    | [y0, y1, y2, y3], _ =>
      have h0 := hf 0 _ rfl
      have h1 := hf 1 _ rfl
      have h2 := hf 2 _ rfl
      have h3 := hf 3 _ rfl
      clear hf h
      simp [kz4] at h0
      simp [kz3] at h1
      simp [kz4] at h2
      simp [kzsp] at h3
      obtain ⟨n0, e0, -⟩ := DataW.trod_bool Tryz.underlying4 h0
      obtain ⟨n1, e1, -, w1⟩ := DataW.trod_int Tryz.underlying3 h1
      obtain ⟨n2, e2, -⟩ := DataW.trod_bool Tryz.underlying4 h2
      obtain ⟨p3, e3, q3, s3⟩ := sp_sz rfl h3
      have hb := congrArg (fun z => Rows.uptoBulk z.1) hxe
      simp only [List.map_cons, List.map_nil, Rows.uptoBulk, Rows.uptoBulkAll] at hb
      have b0 := bulk_one y0.1
      have b1 := bulk_one y1.1
      have b2 := bulk_one y2.1
      have b3 := bulk_one y3.1
      refine ⟨⟨n0, n1, n2, p3⟩, ?_, ⟨i64_bounds w1, q3⟩, by omega⟩
      show _ = usC ⟨n0, n1, n2, p3⟩
      simp only [List.cons.injEq, and_true] at e0 e1 e2
      rw [usC, ← e3, e0, e1, e2]
      all_goals rfl
set_option maxRecDepth 100000 in
theorem bva_sz {fuel : Nat} {cs : List Value} {x : DataW H × List MemPlace} (hl : cs.length = 6) (h : Tr enc W fuel 37 cs x) : ∃ p, cs = vaC p ∧ VaH W p ∧ 1 ≤ Rows.uptoBulk x.1 := by
  obtain ⟨xs, m, _, hxe, _, hlen, hf⟩ := DataW.trod_struct Tryz.underlying37 h
  match cs, hl with
  | [c0, c1, c2, c3, c4, c5], _ =>
    match xs, hlen with
    | [y0, y1, y2, y3, y4], _ =>
      have h0 := hf 0 _ rfl
      have h1 := hf 1 _ rfl
      have h2 := hf 2 _ rfl
      have h3 := hf 3 _ rfl
      have h4 := hf 4 _ rfl
      clear hf h
      simp [kzrk] at h0
      simp [kzus] at h1
      simp [kzsp] at h2
      simp [kz3] at h3
      simp [kz3] at h4
      obtain ⟨n0, e0, -, w0⟩ := DataW.trod_int Tryz.underlying34 h0
      obtain ⟨a1, l1, e1, r1, s1⟩ := row_sz usC (UsH W) (fun _ => 1) Tryz.underlying35 kzu (by decide) h1 fun q cs' x' hq hl ht => by
        exact us_sz hl ht
      obtain ⟨p2, e2, q2, s2⟩ := sp_sz rfl h2
      obtain ⟨n3, e3, -, w3⟩ := DataW.trod_int Tryz.underlying3 h3
      obtain ⟨n4, e4, -, w4⟩ := DataW.trod_int Tryz.underlying3 h4
      have hb := congrArg (fun z => Rows.uptoBulk z.1) hxe
      simp only [List.map_cons, List.map_nil, Rows.uptoBulk, Rows.uptoBulkAll] at hb
      have b0 := bulk_one y0.1
      have b1 := bulk_one y1.1
      have b2 := bulk_one y2.1
      have b3 := bulk_one y3.1
      have b4 := bulk_one y4.1
      refine ⟨⟨n0, a1, l1, p2, n3, n4⟩, ?_, ⟨i64_bounds w0, r1, q2, i64_bounds w3, i64_bounds w4⟩, by omega⟩
      show _ = vaC ⟨n0, a1, l1, p2, n3, n4⟩
      simp only [List.cons.injEq, and_true] at e0 e1 e3 e4
      rw [vaC, ← e2, e0, e1, e3, e4]
      all_goals rfl
set_option maxRecDepth 100000 in
theorem si_sz {fuel : Nat} {cs : List Value} {x : DataW H × List MemPlace} (hl : cs.length = 15) (h : Tr enc W fuel 84 cs x) : ∃ p, cs = siC p ∧ SiH W p ∧ 1 ≤ Rows.uptoBulk x.1 := by
  obtain ⟨xs, m, _, hxe, _, hlen, hf⟩ := DataW.trod_struct Tryz.underlying84 h
  match cs, hl with
  | [c0, c1, c2, c3, c4, c5, c6, c7, c8, c9, c10, c11, c12, c13, c14], _ =>
    match xs, hlen with
    | [y0, y1, y2, y3, y4], _ =>
      have h0 := hf 0 _ rfl
      have h1 := hf 1 _ rfl
      have h2 := hf 2 _ rfl
      have h3 := hf 3 _ rfl
      have h4 := hf 4 _ rfl
      clear hf h
      simp [kzik] at h0
      simp [kz3] at h1
      simp [kzsp] at h2
      simp [kzva] at h3
      simp [kzu] at h4
      obtain ⟨n0, e0, -, w0⟩ := DataW.trod_int Tryz.underlying82 h0
      obtain ⟨n1, e1, -, w1⟩ := DataW.trod_int Tryz.underlying3 h1
      obtain ⟨p2, e2, q2, s2⟩ := sp_sz rfl h2
      obtain ⟨p3, e3, q3, s3⟩ := bva_sz rfl h3
      obtain ⟨p4, e4, q4, s4⟩ := us_sz rfl h4
      have hb := congrArg (fun z => Rows.uptoBulk z.1) hxe
      simp only [List.map_cons, List.map_nil, Rows.uptoBulk, Rows.uptoBulkAll] at hb
      have b0 := bulk_one y0.1
      have b1 := bulk_one y1.1
      have b2 := bulk_one y2.1
      have b3 := bulk_one y3.1
      have b4 := bulk_one y4.1
      refine ⟨⟨n0, n1, p2, p3, p4⟩, ?_, ⟨i64_bounds w0, i64_bounds w1, q2, q3, q4⟩, by omega⟩
      show _ = siC ⟨n0, n1, p2, p3, p4⟩
      simp only [List.cons.injEq, and_true] at e0 e1
      rw [siC, ← e2, ← e3, ← e4, e0, e1]
      all_goals rfl
set_option maxRecDepth 100000 in
theorem tn_sz {fuel : Nat} {cs : List Value} {x : DataW H × List MemPlace} (hl : cs.length = 16) (h : Tr enc W fuel 57 cs x) : ∃ p, cs = tnC p ∧ TnH W p ∧ 1 ≤ Rows.uptoBulk x.1 := by
  obtain ⟨xs, m, _, hxe, _, hlen, hf⟩ := DataW.trod_struct Tryz.underlying57 h
  match cs, hl with
  | [c0, c1, c2, c3, c4, c5, c6, c7, c8, c9, c10, c11, c12, c13, c14, c15], _ =>
    match xs, hlen with
    | [y0, y1, y2, y3, y4, y5], _ =>
      have h0 := hf 0 _ rfl
      have h1 := hf 1 _ rfl
      have h2 := hf 2 _ rfl
      have h3 := hf 3 _ rfl
      have h4 := hf 4 _ rfl
      have h5 := hf 5 _ rfl
      clear hf h
      simp [kztk] at h0
      simp [kz3] at h1
      simp [kzsp] at h2
      simp [kzva] at h3
      simp [kzu] at h4
      simp [kzis] at h5
      obtain ⟨n0, e0, -, w0⟩ := DataW.trod_int Tryz.underlying55 h0
      obtain ⟨n1, e1, -, w1⟩ := DataW.trod_int Tryz.underlying3 h1
      obtain ⟨p2, e2, q2, s2⟩ := sp_sz rfl h2
      obtain ⟨p3, e3, q3, s3⟩ := bva_sz rfl h3
      obtain ⟨p4, e4, q4, s4⟩ := us_sz rfl h4
      obtain ⟨a5, l5, e5, r5, s5⟩ := row_sz intC I64 (fun _ => 1) Tryz.underlying31 kz3 (by decide) h5 fun q cs' x' hq hl ht => by
        exact int_sz hl ht
      have hb := congrArg (fun z => Rows.uptoBulk z.1) hxe
      simp only [List.map_cons, List.map_nil, Rows.uptoBulk, Rows.uptoBulkAll] at hb
      have b0 := bulk_one y0.1
      have b1 := bulk_one y1.1
      have b2 := bulk_one y2.1
      have b3 := bulk_one y3.1
      have b4 := bulk_one y4.1
      have b5 := bulk_one y5.1
      refine ⟨⟨n0, n1, p2, p3, p4, a5, l5⟩, ?_, ⟨i64_bounds w0, i64_bounds w1, q2, q3, q4, r5⟩, by omega⟩
      show _ = tnC ⟨n0, n1, p2, p3, p4, a5, l5⟩
      simp only [List.cons.injEq, and_true] at e0 e1 e5
      rw [tnC, ← e2, ← e3, ← e4, e0, e1, e5]
      all_goals rfl
theorem sum_one {α : Type} : ∀ l : List α, (l.map fun _ => 1).sum = l.length
  | [] => rfl
  | _ :: l => by simp only [List.map_cons, List.sum_cons, sum_one l, List.length_cons]; omega
/-- how much a block has, a body -/
def blS (b : Bl) : Nat := b.ins.length + 1
def loS (b : Lo) : Nat := tyS b.ty + 1
def boS (b : Bo) : Nat := (b.locals.map loS).sum + (b.blocks.map blS).sum + 1
set_option maxRecDepth 100000 in
theorem bl_sz {fuel : Nat} {cs : List Value} {x : DataW H × List MemPlace} (hl : cs.length = 17) (h : Tr enc W fuel 60 cs x) : ∃ p, cs = blC p ∧ BlH W p ∧ blS p ≤ Rows.uptoBulk x.1 := by
  obtain ⟨xs, m, _, hxe, _, hlen, hf⟩ := DataW.trod_struct Tryz.underlying60 h
  match cs, hl with
  | [c0, c1, c2, c3, c4, c5, c6, c7, c8, c9, c10, c11, c12, c13, c14, c15, c16], _ =>
    match xs, hlen with
    | [y0, y1], _ =>
      have h0 := hf 0 _ rfl
      have h1 := hf 1 _ rfl
      clear hf h
      simp [kzns] at h0
      simp [kztm] at h1
      obtain ⟨a0, l0, e0, r0, s0⟩ := row_sz siC (SiH W) (fun _ => 1) Tryz.underlying58 kzin (by decide) h0 fun q cs' x' hq hl ht => by
        exact si_sz hl ht
      obtain ⟨p1, e1, q1, s1⟩ := tn_sz rfl h1
      have hb := congrArg (fun z => Rows.uptoBulk z.1) hxe
      simp only [List.map_cons, List.map_nil, Rows.uptoBulk, Rows.uptoBulkAll] at hb
      have b0 := bulk_one y0.1
      have b1 := bulk_one y1.1
      refine ⟨⟨a0, l0, p1⟩, ?_, ⟨r0, q1⟩, by rw [sum_one] at s0; simp only [blS]; omega⟩
      show _ = blC ⟨a0, l0, p1⟩
      simp only [List.cons.injEq, and_true] at e0
      rw [blC, ← e1, e0]
      all_goals rfl
set_option maxRecDepth 100000 in
theorem lo_sz {fuel : Nat} {cs : List Value} {x : DataW H × List MemPlace} (hl : cs.length = 4) (h : Tr enc W fuel 66 cs x) : ∃ p, cs = loC p ∧ LoH fuel W p ∧ loS p ≤ Rows.uptoBulk x.1 := by
  obtain ⟨xs, m, hm, hxe, _, hlen, hf⟩ := DataW.trod_struct Tryz.underlying66 h
  match cs, hl with
  | [c0, c1, c2, c3], _ =>
    match xs, hlen with
    | [y0, y1], _ =>
      have h0 := hf 0 _ rfl
      have h1 := hf 1 _ rfl
      clear hf h
      simp [kz9] at h0
      simp [kz45] at h1
      obtain ⟨n0, e0, d0, -⟩ := DataW.trod_string Tryz.underlying9 h0
      obtain ⟨p1, e1, q1, s1⟩ := (ty_sz m) rfl h1
      have hb := congrArg (fun z => Rows.uptoBulk z.1) hxe
      simp only [List.map_cons, List.map_nil, Rows.uptoBulk, Rows.uptoBulkAll, bulk_str d0] at hb
      have b0 := bulk_one y0.1
      have b1 := bulk_one y1.1
      subst hm
      refine ⟨⟨n0, p1⟩, ?_, (show TyH (m + 1) W p1 from TyH.le (by omega) q1), by simp only [loS]; omega⟩
      show _ = loC ⟨n0, p1⟩
      simp only [List.cons.injEq, and_true] at e0
      rw [loC, ← e1, e0]
      all_goals rfl
set_option maxRecDepth 100000 in
theorem bo_sz {fuel : Nat} {cs : List Value} {x : DataW H × List MemPlace} (hl : cs.length = 4) (h : Tr enc W fuel 30 cs x) : ∃ p, cs = boC p ∧ BoH fuel W p ∧ boS p ≤ Rows.uptoBulk x.1 := by
  obtain ⟨xs, m, hm, hxe, _, hlen, hf⟩ := DataW.trod_struct Tryz.underlying30 h
  match cs, hl with
  | [c0, c1, c2, c3], _ =>
    match xs, hlen with
    | [y0, y1, y2, y3], _ =>
      have h0 := hf 0 _ rfl
      have h1 := hf 1 _ rfl
      have h2 := hf 2 _ rfl
      have h3 := hf 3 _ rfl
      clear hf h
      simp [kz9] at h0
      simp [kz3] at h1
      simp [kzls] at h2
      simp [kzbs] at h3
      obtain ⟨n0, e0, d0, -⟩ := DataW.trod_string Tryz.underlying9 h0
      obtain ⟨n1, e1, -, w1⟩ := DataW.trod_int Tryz.underlying3 h1
      obtain ⟨a2, l2, e2, r2, s2⟩ := row_sz loC (LoH m W) loS Tryz.underlying27 kzlo (by decide) h2 fun q cs' x' hq hl ht => by
        obtain ⟨p, e, hp, hs⟩ := lo_sz hl ht
        exact ⟨p, e, TyH.le (by omega) hp, hs⟩
      obtain ⟨a3, l3, e3, r3, s3⟩ := row_sz blC (BlH W) blS Tryz.underlying28 kzbl (by decide) h3 fun q cs' x' hq hl ht => by
        exact bl_sz hl ht
      have hb := congrArg (fun z => Rows.uptoBulk z.1) hxe
      simp only [List.map_cons, List.map_nil, Rows.uptoBulk, Rows.uptoBulkAll, bulk_str d0] at hb
      have b0 := bulk_one y0.1
      have b1 := bulk_one y1.1
      have b2 := bulk_one y2.1
      have b3 := bulk_one y3.1
      subst hm
      refine ⟨⟨n0, n1, a2, l2, a3, l3⟩, ?_, ⟨i64_bounds w1, r2.mono fun _ _ hx => TyH.le (by omega) hx, r3⟩, by simp only [boS]; omega⟩
      show _ = boC ⟨n0, n1, a2, l2, a3, l3⟩
      simp only [List.cons.injEq, and_true] at e0 e1 e2 e3
      rw [boC, e0, e1, e2, e3]
      all_goals rfl
set_option maxRecDepth 100000 in
theorem open_bo {b0 : Nat} {v : Value} {d : DataW H} {p : List MemPlace} (hv : Value.okWide Tryz.prog W .any b0 30 v) (h : DataW.Trod enc Tryz.prog W 0 (fun _ => true) true 30 v d p) : ∃ (n : Nat) (s : Bo), v = boV s ∧ BoH n W s ∧ boS s ≤ Rows.uptoBulk d := by
  obtain ⟨cs, rfl, hsz⟩ := okWide_struct Tryz.underlying30 hv
  obtain ⟨fuel, h⟩ : ∃ fuel, DataW.trod enc Tryz.prog W 0 (fun _ => true) true fuel 30 cs.toList = some (d, p) := h
  obtain ⟨s, e, hs, hz⟩ := bo_sz (by rw [Array.length_toList, hsz]; exact kzbo) h
  exact ⟨fuel, s, by rw [boV, ← e], hs, hz⟩
end
mutual
theorem tyN_S : ∀ t : Ty5, 4 * tyN t ≤ tyS t
  | .mk k nm h l => by
    have := tysN_S l
    rw [tyN, tyS]
    omega
theorem tysN_S : ∀ l : List Ty5, 4 * tysN l ≤ tysS l
  | [] => by rw [tysN, tysS]; omega
  | x :: l => by
    have h1 := tyN_S x
    have h2 := tysN_S l
    rw [tysN, tysS]
    omega
end
theorem le_sum {α : Type} (S : α → Nat) : ∀ (l : List α) (x : α), x ∈ l → S x ≤ (l.map S).sum
  | [], _, h => by cases h
  | y :: l, x, h => by
    simp only [List.map_cons, List.sum_cons]
    rcases List.mem_cons.1 h with rfl | h
    · omega
    · have := le_sum S l x h
      omega
theorem SoN.of {s : So5} (h : soS s ≤ 1048576) : SoN s := by
  unfold soS at h
  refine ⟨fun x hx f hf => ?_, fun x hx f hf => ?_, fun x hx f hf => ?_⟩
  · have h1 := le_sum suS s.structs x hx
    have h2 := le_sum fdS x.fields f hf
    have h3 := tyN_S f.ty
    simp only [suS, fdS] at h1 h2
    omega
  · have h1 := le_sum enS s.enums x hx
    have h2 := le_sum fdS x.vars f hf
    have h3 := tyN_S f.ty
    simp only [enS, fdS] at h1 h2
    omega
  · have h1 := le_sum fnS s.fns x hx
    have h2 := le_sum fdS x.params f hf
    have h3 := tyN_S f.ty
    simp only [fnS, fdS] at h1 h2
    omega
theorem BoN.of {b : Bo} (h : boS b ≤ 1048576) : BoN b := by
  unfold boS at h
  intro lo hlo
  have h1 := le_sum loS b.locals lo hlo
  have h3 := tyN_S lo.ty
  simp only [loS] at h1
  omega

end Go.Proofs.YtghkbihgdabamaaGreatDoor
