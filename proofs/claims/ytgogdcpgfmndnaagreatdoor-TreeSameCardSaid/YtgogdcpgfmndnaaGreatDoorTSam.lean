/-
  TreeSame answers true for every input. No conditions.
-/
import Derived.Test.YtgogdcpgfmndnaaGreatDoorTArgs
import Derived.WideShapes
import Derived.Test.YtgogdcpgfmndnaaGreatDoorTRefH
import Derived.Test.YtgogdcpgfmndnaaGreatDoorTVerB
import Derived.Test.YtgogdcpgfmndnaaGreatDoorTLargeB
import Derived.Test.YtgogdcpgfmndnaaGreatDoorTWorks
import Derived.Test.YtgogdcpgfmndnaaGreatDoorTVerA
import Derived.Test.YtgogdcpgfmndnaaGreatDoorTClose
import Derived.Test.YtgogdcpgfmndnaaGreatDoorCards
import Derived.Test.YtgogdcpgfmndnaaGreatDoorTie
import Derived.SevenTiedAt
import Derived.ChangeMaps5
namespace Go.Proofs.YtgogdcpgfmndnaaGreatDoor
open Go.RowKit

section
open Go.RowKit Go.ChangeShapes Go.WideShapes Go.ChangeAt
section
variable {H : Type} {enc : TypeId × Value → H} {W : World}

set_option maxRecDepth 100000 in
theorem fd_of {fuel : Nat} {cs : List Value} {x : DataW H × List MemPlace} (hl : cs.length = 4) (h : Tr enc W fuel 102 cs x) : ∃ f, cs = fdC f ∧ FdH fuel W f := by
  obtain ⟨xs, m, hm, _, _, hlen, hf⟩ := DataW.trod_struct Tryz.underlying102 h
  match cs, hl with
  | [c0, c1, c2, c3], _ =>
    match xs, hlen with
    | [y0, y1], _ =>
      have h0 := hf 0 _ rfl
      have h1 := hf 1 _ rfl
      simp [k9] at h0
      simp [k45] at h1
      obtain ⟨s, e0, -⟩ := DataW.trod_string Tryz.underlying9 h0
      obtain ⟨t, e1, ht⟩ := ty_of m rfl h1
      obtain ⟨tk, tn, th, tl⟩ := t
      simp [tyC] at e0 e1
      obtain ⟨e1, e2, e3⟩ := e1
      subst e0 e1 e2 e3
      exact ⟨⟨s, .mk tk tn th tl⟩, rfl, TyH.le (by omega) ht⟩
set_option maxRecDepth 100000 in
theorem va_of {fuel : Nat} {cs : List Value} {x : DataW H × List MemPlace} (hl : cs.length = 4) (h : Tr enc W fuel 71 cs x) : ∃ f, cs = fdC f ∧ FdH fuel W f := by
  obtain ⟨xs, m, hm, _, _, hlen, hf⟩ := DataW.trod_struct Tryz.underlying71 h
  match cs, hl with
  | [c0, c1, c2, c3], _ =>
    match xs, hlen with
    | [y0, y1], _ =>
      have h0 := hf 0 _ rfl
      have h1 := hf 1 _ rfl
      simp [k9] at h0
      simp [k45] at h1
      obtain ⟨s, e0, -⟩ := DataW.trod_string Tryz.underlying9 h0
      obtain ⟨t, e1, ht⟩ := ty_of m rfl h1
      obtain ⟨tk, tn, th, tl⟩ := t
      simp [tyC] at e0 e1
      obtain ⟨e1, e2, e3⟩ := e1
      subst e0 e1 e2 e3
      exact ⟨⟨s, .mk tk tn th tl⟩, rfl, TyH.le (by omega) ht⟩
set_option maxRecDepth 100000 in
theorem su_of {fuel : Nat} {cs : List Value} {x : DataW H × List MemPlace} (hl : cs.length = 4) (h : Tr enc W fuel 65 cs x) : ∃ f, cs = suC f ∧ SuH fuel W f := by
  obtain ⟨xs, m, hm, _, _, hlen, hf⟩ := DataW.trod_struct Tryz.underlying65 h
  match cs, hl with
  | [c0, c1, c2, c3], _ =>
    match xs, hlen with
    | [y0, y1, y2, y3], _ =>
      have h0 := hf 0 _ rfl
      have h1 := hf 1 _ rfl
      have h2 := hf 2 _ rfl
      have h3 := hf 3 _ rfl
      simp [k9] at h0
      simp [k4] at h1
      simp [k33] at h2
      simp [k3] at h3
      obtain ⟨s, e0, -⟩ := DataW.trod_string Tryz.underlying9 h0
      obtain ⟨b, e1, -⟩ := DataW.trod_bool Tryz.underlying4 h1
      obtain ⟨hd, l, e2, hr⟩ := row_of fdC (FdH fuel W) Tryz.underlying33 k102 (by decide) h2 fun q cs' x' hq hl ht => by
        obtain ⟨t, e, ht⟩ := fd_of hl ht
        exact ⟨t, e, TyH.le (by omega) ht⟩
      obtain ⟨n, e3, -, -⟩ := DataW.trod_int Tryz.underlying3 h3
      simp at e0 e1 e2 e3
      subst e0 e1 e2 e3
      exact ⟨⟨s, b, hd, l, n⟩, rfl, hr⟩
set_option maxRecDepth 100000 in
theorem en_of {fuel : Nat} {cs : List Value} {x : DataW H × List MemPlace} (hl : cs.length = 3) (h : Tr enc W fuel 68 cs x) : ∃ f, cs = enC f ∧ EnH fuel W f := by
  obtain ⟨xs, m, hm, _, _, hlen, hf⟩ := DataW.trod_struct Tryz.underlying68 h
  match cs, hl with
  | [c0, c1, c2], _ =>
    match xs, hlen with
    | [y0, y1, y2], _ =>
      have h0 := hf 0 _ rfl
      have h1 := hf 1 _ rfl
      have h2 := hf 2 _ rfl
      simp [k9] at h0
      simp [k66] at h1
      simp [k3] at h2
      obtain ⟨s, e0, -⟩ := DataW.trod_string Tryz.underlying9 h0
      obtain ⟨hd, l, e1, hr⟩ := row_of fdC (FdH fuel W) Tryz.underlying66 k71 (by decide) h1 fun q cs' x' hq hl ht => by
        obtain ⟨t, e, ht⟩ := va_of hl ht
        exact ⟨t, e, TyH.le (by omega) ht⟩
      obtain ⟨n, e2, -, -⟩ := DataW.trod_int Tryz.underlying3 h2
      simp at e0 e1 e2
      subst e0 e1 e2
      exact ⟨⟨s, hd, l, n⟩, rfl, hr⟩
set_option maxRecDepth 100000 in
theorem fn_of {fuel : Nat} {cs : List Value} {x : DataW H × List MemPlace} (hl : cs.length = 4) (h : Tr enc W fuel 35 cs x) : ∃ f, cs = fnC f ∧ FnH fuel W f := by
  obtain ⟨xs, m, hm, _, _, hlen, hf⟩ := DataW.trod_struct Tryz.underlying35 h
  match cs, hl with
  | [c0, c1, c2, c3], _ =>
    match xs, hlen with
    | [y0, y1, y2, y3], _ =>
      have h0 := hf 0 _ rfl
      have h1 := hf 1 _ rfl
      have h2 := hf 2 _ rfl
      have h3 := hf 3 _ rfl
      simp [k9] at h0
      simp [k33] at h1
      simp [k32] at h2
      simp [k3] at h3
      obtain ⟨s, e0, -⟩ := DataW.trod_string Tryz.underlying9 h0
      obtain ⟨hd, l, e1, hr⟩ := row_of fdC (FdH fuel W) Tryz.underlying33 k102 (by decide) h1 fun q cs' x' hq hl ht => by
        obtain ⟨t, e, ht⟩ := fd_of hl ht
        exact ⟨t, e, TyH.le (by omega) ht⟩
      obtain ⟨hd2, l2, e2, hr2⟩ := row_of stC (StH fuel W) Tryz.underlying32 k52 (by decide) h2 fun q cs' x' hq hl ht => by
        obtain ⟨t, e, ht⟩ := (st_of q).1 hl ht
        exact ⟨t, e, StH.le (by omega) ht⟩
      obtain ⟨n, e3, -, -⟩ := DataW.trod_int Tryz.underlying3 h3
      simp at e0 e1 e2 e3
      subst e0 e1 e2 e3
      exact ⟨⟨s, hd, l, hd2, l2, n⟩, rfl, hr, hr2⟩
set_option maxRecDepth 100000 in
theorem so_of {fuel : Nat} {cs : List Value} {x : DataW H × List MemPlace} (hl : cs.length = 3) (h : Tr enc W fuel 26 cs x) : ∃ s, Value.agg cs.toArray = soV s ∧ SoH fuel W s := by
  obtain ⟨xs, m, hm, _, _, hlen, hf⟩ := DataW.trod_struct Tryz.underlying26 h
  match cs, hl with
  | [c0, c1, c2], _ =>
    match xs, hlen with
    | [y0, y1, y2], _ =>
      have h0 := hf 0 _ rfl
      have h1 := hf 1 _ rfl
      have h2 := hf 2 _ rfl
      simp [k22] at h0
      simp [k23] at h1
      simp [k24] at h2
      obtain ⟨a0, l0, e0, r0⟩ := row_of suC (SuH fuel W) Tryz.underlying22 k65 (by decide) h0 fun q cs' x' hq hl ht => by
        obtain ⟨t, e, ht⟩ := su_of hl ht
        exact ⟨t, e, ht.mono fun _ _ hx => TyH.le (by omega) hx⟩
      obtain ⟨a1, l1, e1, r1⟩ := row_of enC (EnH fuel W) Tryz.underlying23 k68 (by decide) h1 fun q cs' x' hq hl ht => by
        obtain ⟨t, e, ht⟩ := en_of hl ht
        exact ⟨t, e, ht.mono fun _ _ hx => TyH.le (by omega) hx⟩
      obtain ⟨a2, l2, e2, r2⟩ := row_of fnC (FnH fuel W) Tryz.underlying24 k35 (by decide) h2 fun q cs' x' hq hl ht => by
        obtain ⟨t, e, ht1, ht2⟩ := fn_of hl ht
        exact ⟨t, e, ht1.mono fun _ _ hx => TyH.le (by omega) hx, ht2.mono fun _ _ hx => StH.le (by omega) hx⟩
      simp at e0 e1 e2
      subst e0 e1 e2
      exact ⟨⟨a0, l0, a1, l1, a2, l2⟩, rfl, r0, r1, r2⟩
theorem SoH.le {n m : Nat} (h : n ≤ m) {w : World} {s : So5} (hs : SoH n w s) : SoH m w s :=
  ⟨hs.1.mono fun _ _ hx => Row.mono hx fun _ _ hy => TyH.le h hy, hs.2.1.mono fun _ _ hx => Row.mono hx fun _ _ hy => TyH.le h hy, hs.2.2.mono fun _ _ hx => ⟨hx.1.mono fun _ _ hy => TyH.le h hy, hx.2.mono fun _ _ hy => StH.le h hy⟩⟩
set_option maxRecDepth 100000 in
/-- An argument that is a source. -/
theorem open_so {b0 : Nat} {v : Value} {d : DataW H} {p : List MemPlace} (hv : Value.okWide Tryz.prog W .any b0 26 v) (h : DataW.Trod enc Tryz.prog W 0 (fun _ => true) true 26 v d p) : ∃ (n : Nat) (s : So5), v = soV s ∧ SoH n W s := by
  obtain ⟨cs, rfl, hsz⟩ := okWide_struct Tryz.underlying26 hv
  obtain ⟨fuel, h⟩ : ∃ fuel, DataW.trod enc Tryz.prog W 0 (fun _ => true) true fuel 26 cs.toList = some (d, p) := h
  obtain ⟨s, e, hs⟩ := so_of (by rw [Array.length_toList, hsz]; exact k26) h
  exact ⟨fuel, s, by rw [← e], hs⟩
end
end

set_option maxRecDepth 100000 in
set_option maxHeartbeats 16000000 in
theorem treeSame_walk (n : Nat) (a b : So5) (w : World) (hA : SoH n w a) (hB : SoH n w b) (hV : Vz w) :
    Calls Tryz.prog 3 #[soV a, soV b] w fun e w' => e = .returned (.bool true) ∧ Below w.heap.size w w' := by
  obtain ⟨⟨sa1, sc1⟩, ss1, ⟨ea1, ec1⟩, es1, ⟨fa1, fc1⟩, fs1⟩ := a
  obtain ⟨⟨sa2, sc2⟩, ss2, ⟨ea2, ec2⟩, es2, ⟨fa2, fc2⟩, fs2⟩ := b
  obtain ⟨W0, hW0⟩ : ∃ W, W = (w.alloc (.cells #[.slice sa1 ss1.length sc1, .slice ea1 es1.length ec1, .slice fa1 fs1.length fc1] 26)).alloc (.cells #[.slice sa2 ss2.length sc2, .slice ea2 es2.length ec2, .slice fa2 fs2.length fc2] 26) := ⟨_, rfl⟩
  have hbx := box_two w #[.slice sa1 ss1.length sc1, .slice ea1 es1.length ec1, .slice fa1 fs1.length fc1] #[.slice sa2 ss2.length sc2, .slice ea2 es2.length ec2, .slice fa2 fs2.length fc2] 26 26
  rw [← hW0] at hbx
  have HW0 := Lib.hid hbx.1
  have HZ := Lib.hid (show ∀ w', Below W0.heap.size W0 w' → w'.cell? ⟨w.heap.size, 0, none⟩ = some (.slice sa1 ss1.length sc1) ∧ w'.cell? ⟨w.heap.size, 1, none⟩ = some (.slice ea1 es1.length ec1) ∧ w'.cell? ⟨w.heap.size, 2, none⟩ = some (.slice fa1 fs1.length fc1) ∧ w'.cell? ⟨w.heap.size + 1, 0, none⟩ = some (.slice sa2 ss2.length sc2) ∧ w'.cell? ⟨w.heap.size + 1, 1, none⟩ = some (.slice ea2 es2.length ec2) ∧ w'.cell? ⟨w.heap.size + 1, 2, none⟩ = some (.slice fa2 fs2.length fc2) from fun w' hb => by
    obtain ⟨x0, x1, x2, -⟩ := cells3 (keepB hbx.2.1 hb)
    obtain ⟨y0, y1, y2, -⟩ := cells3 (keepB hbx.2.2 hb)
    exact ⟨x0, x1, x2, y0, y1, y2⟩)
  clear hbx
  have hb (W : World) (h : Below W0.heap.size W0 W) : Below w.heap.size w W := HW0.out.trans (h.mono HW0.out.size)
  have h8 := works_any W0 (hV.b HW0.out)
  have h91 := fun W (h : Below W0.heap.size W0 W) => large_any n ⟨⟨sa1, sc1⟩, ss1, ⟨ea1, ec1⟩, es1, ⟨fa1, fc1⟩, fs1⟩ 400 W (hA.below (hb W h))
  have h92 := fun W (h : Below W0.heap.size W0 W) => large_any n ⟨⟨sa2, sc2⟩, ss2, ⟨ea2, ec2⟩, es2, ⟨fa2, fc2⟩, fs2⟩ 400 W (hB.below (hb W h))
  have h10 := fun W (h : Below W0.heap.size W0 W) => rSame_any n ⟨⟨sa1, sc1⟩, ss1, ⟨ea1, ec1⟩, es1, ⟨fa1, fc1⟩, fs1⟩ ⟨⟨sa2, sc2⟩, ss2, ⟨ea2, ec2⟩, es2, ⟨fa2, fc2⟩, fs2⟩ W (hA.below (hb W h)) (hB.below (hb W h))
  have h11 := fun W (h : Below W0.heap.size W0 W) => rValid_any n ⟨⟨sa1, sc1⟩, ss1, ⟨ea1, ec1⟩, es1, ⟨fa1, fc1⟩, fs1⟩ W (hA.below (hb W h))
  have hab := fun W (h : Below W0.heap.size W0 W) => same_any n ⟨⟨sa1, sc1⟩, ss1, ⟨ea1, ec1⟩, es1, ⟨fa1, fc1⟩, fs1⟩ ⟨⟨sa2, sc2⟩, ss2, ⟨ea2, ec2⟩, es2, ⟨fa2, fc2⟩, fs2⟩ W (hA.below (hb W h)) (hB.below (hb W h))
  have hba := fun W (h : Below W0.heap.size W0 W) => same_any n ⟨⟨sa2, sc2⟩, ss2, ⟨ea2, ec2⟩, es2, ⟨fa2, fc2⟩, fs2⟩ ⟨⟨sa1, sc1⟩, ss1, ⟨ea1, ec1⟩, es1, ⟨fa1, fc1⟩, fs1⟩ W (hB.below (hb W h)) (hA.below (hb W h))
  have haa := fun W (h : Below W0.heap.size W0 W) => same_any n ⟨⟨sa1, sc1⟩, ss1, ⟨ea1, ec1⟩, es1, ⟨fa1, fc1⟩, fs1⟩ ⟨⟨sa1, sc1⟩, ss1, ⟨ea1, ec1⟩, es1, ⟨fa1, fc1⟩, fs1⟩ W (hA.below (hb W h)) (hA.below (hb W h))
  have h13 := fun W (h : Below W0.heap.size W0 W) => valid_any n ⟨⟨sa1, sc1⟩, ss1, ⟨ea1, ec1⟩, es1, ⟨fa1, fc1⟩, fs1⟩ W (hA.below (hb W h)) (hV.b (hb W h))
  clear hA hB hV
  rw [soEq_comm ⟨⟨sa2, sc2⟩, ss2, ⟨ea2, ec2⟩, es2, ⟨fa2, fc2⟩, fs2⟩ ⟨⟨sa1, sc1⟩, ss1, ⟨ea1, ec1⟩, es1, ⟨fa1, fc1⟩, fs1⟩] at hba
  rw [soEq_refl] at haa
  generalize soEq ⟨⟨sa1, sc1⟩, ss1, ⟨ea1, ec1⟩, es1, ⟨fa1, fc1⟩, fs1⟩ ⟨⟨sa2, sc2⟩, ss2, ⟨ea2, ec2⟩, es2, ⟨fa2, fc2⟩, fs2⟩ = S at h10 hab hba
  generalize soOk ⟨⟨sa1, sc1⟩, ss1, ⟨ea1, ec1⟩, es1, ⟨fa1, fc1⟩, fs1⟩ = V at h11 h13
  simp only [soV] at h91 h92 h10 h11 hab hba haa h13 ⊢
  replace h8 := Lib.hid h8
  replace h91 := Lib.hid h91
  replace h92 := Lib.hid h92
  replace h10 := Lib.hid h10
  replace h11 := Lib.hid h11
  replace hab := Lib.hid hab
  replace hba := Lib.hid hba
  replace haa := Lib.hid haa
  replace h13 := Lib.hid h13
  replace hb := Lib.hid hb
  go_enter Tryz.func3, Tryz.ntmps3
  go_wp2_with fail
  rw [← hW0]
  clear hW0
  refine (h8.out).mono ?_
  rintro e v1 ⟨rfl, hq⟩
  have K1 := Lib.hid hq
  clear hq h8
  obtain ⟨x10, x11, x12, x13, x14, x15⟩ := HZ.out v1 K1.out
  go_wp2_with fail
  refine (h91.out v1 K1.out).mono ?_
  rintro e v2 ⟨⟨m1, rfl⟩, hq⟩
  have K2 := Lib.hid (K1.out.trans (hq.mono K1.out.size))
  clear hq h91
  obtain ⟨x20, x21, x22, x23, x24, x25⟩ := HZ.out v2 K2.out
  go_wp2_with fail
  refine (h92.out v2 K2.out).mono ?_
  rintro e v3 ⟨⟨m2, rfl⟩, hq⟩
  have K3 := Lib.hid (K2.out.trans (hq.mono K2.out.size))
  clear hq h92
  obtain ⟨x30, x31, x32, x33, x34, x35⟩ := HZ.out v3 K3.out
  cases m1 with
  | true =>
    go_wp2
    go_ret
    exact ⟨rfl, hb.out _ K3.out⟩
  | false =>
  cases m2 with
  | true =>
    go_wp2
    go_ret
    exact ⟨rfl, hb.out _ K3.out⟩
  | false =>
  go_wp2_with fail
  refine (h10.out v3 K3.out).mono ?_
  rintro e v4 ⟨rfl, hq⟩
  have K4 := Lib.hid (K3.out.trans (hq.mono K3.out.size))
  clear hq h10
  obtain ⟨x40, x41, x42, x43, x44, x45⟩ := HZ.out v4 K4.out
  go_wp2_with fail
  refine (h11.out v4 K4.out).mono ?_
  rintro e v5 ⟨rfl, hq⟩
  have K5 := Lib.hid (K4.out.trans (hq.mono K4.out.size))
  clear hq h11
  obtain ⟨x50, x51, x52, x53, x54, x55⟩ := HZ.out v5 K5.out
  go_wp2_with fail
  refine (hab.out v5 K5.out).mono ?_
  rintro e v6 ⟨rfl, hq⟩
  have K6 := Lib.hid (K5.out.trans (hq.mono K5.out.size))
  clear hq hab
  obtain ⟨x60, x61, x62, x63, x64, x65⟩ := HZ.out v6 K6.out
  cases S with
  | false =>
    go_wp2_with fail
    refine (hba.out v6 K6.out).mono ?_
    rintro e v7 ⟨rfl, hq⟩
    have K7 := Lib.hid (K6.out.trans (hq.mono K6.out.size))
    clear hq hba
    obtain ⟨x70, x71, x72, x73, x74, x75⟩ := HZ.out v7 K7.out
    go_wp2_with fail
    refine (haa.out v7 K7.out).mono ?_
    rintro e v8 ⟨rfl, hq⟩
    have K8 := Lib.hid (K7.out.trans (hq.mono K7.out.size))
    clear hq haa
    obtain ⟨x80, x81, x82, x83, x84, x85⟩ := HZ.out v8 K8.out
    go_wp2_with fail
    refine (h13.out v8 K8.out).mono ?_
    rintro e v9 ⟨rfl, hq⟩
    have K9 := Lib.hid (K8.out.trans (hq.mono K8.out.size))
    clear hq h13
    obtain ⟨x90, x91, x92, x93, x94, x95⟩ := HZ.out v9 K9.out
    cases V with
    | false =>
      go_wp2
      go_ret
      exact ⟨rfl, hb.out _ K9.out⟩
    | true =>
      go_wp2
      go_ret
      exact ⟨rfl, hb.out _ K9.out⟩
  | true =>
    go_wp2_with fail
    refine (hba.out v6 K6.out).mono ?_
    rintro e v7 ⟨rfl, hq⟩
    have K7 := Lib.hid (K6.out.trans (hq.mono K6.out.size))
    clear hq hba
    obtain ⟨x70, x71, x72, x73, x74, x75⟩ := HZ.out v7 K7.out
    go_wp2_with fail
    refine (haa.out v7 K7.out).mono ?_
    rintro e v8 ⟨rfl, hq⟩
    have K8 := Lib.hid (K7.out.trans (hq.mono K7.out.size))
    clear hq haa
    obtain ⟨x80, x81, x82, x83, x84, x85⟩ := HZ.out v8 K8.out
    go_wp2_with fail
    refine (h13.out v8 K8.out).mono ?_
    rintro e v9 ⟨rfl, hq⟩
    have K9 := Lib.hid (K8.out.trans (hq.mono K8.out.size))
    clear hq h13
    obtain ⟨x90, x91, x92, x93, x94, x95⟩ := HZ.out v9 K9.out
    cases V with
    | false =>
      go_wp2
      go_ret
      exact ⟨rfl, hb.out _ K9.out⟩
    | true =>
      go_wp2
      go_ret
      exact ⟨rfl, hb.out _ K9.out⟩

section
open Go.RowKit Go.ChangeShapes Go.WideShapes Go.ChangeAt
set_option maxRecDepth 100000 in
theorem treeSame_lifted (os : Os) (started : os.Started) (H : Type) (enc : TypeId × Value → H) :
    ReturnsInHanded {} Tryz.checked os 3 .any (fun w args => (Rows.treeSameSpec.pre enc Tryz.prog Tryz.f3 [] false w args ∧ laidMetH Tryz.prog laid5 w) ∧ sizedMet enc Tryz.prog Tryz.f3 (OpenSpec.ofChange Rows.treeSameSpec) false w args)
      (Rows.treeSameSpec.post enc Tryz.prog Tryz.f3 false true false false) := by
  refine returnsInHanded_of_change_and (C := Tryz.checked) (X := fun w _ => laidMetH Tryz.prog laid5 w) (fun _ _ _ hh h => h.of_heap hh) own started (by kernel_rfl) Tryz.func3
    (ChangeSpec.witness_shaped (enc := enc) (C := Tryz.checked) (os := os) (X := fun w _ => laidMetH Tryz.prog laid5 w) false (World.doorLaid Tryz.prog 400 os) #[.agg #[.slice none 0 0, .slice none 0 0, .slice none 0 0], .agg #[.slice none 0 0, .slice none 0 0, .slice none 0 0]] 8 rfl (World.shaped_of_RefB (by kernel_rfl) (by kernel_rfl)) (by kernel_rfl) (by kernel_rfl) (by kernel_rfl) (door_met os _)) ?_
  intro W base args ds gs before hval0 hW _ _ hL _
  have hval : ∀ (j : Nat) t v, Tryz.f3.params[j]? = some t → args[j]? = some v → Value.okWide Tryz.prog W .any base t v := hval0
  have hW' := hW
  obtain ⟨p, q, hA0, hV, rfl, hfz, hnd⟩ := hW
  have hA : DataW.TrodAll enc Tryz.prog W 0 (fun _ => true) true Tryz.f3.params.toList args.toList ds p := hA0
  rw [Tryz.params3] at hA hval
  obtain ⟨v0, vs0, d0, ds0, p0, q0, hargs, rfl, rfl, h0, r0⟩ := trodAll_cons hA
  obtain ⟨v1, vs1, d1, ds1, p1, q1, rfl, rfl, rfl, h1, r1⟩ := trodAll_cons r0
  obtain ⟨rfl, rfl, rfl⟩ := trodAll_nil r1
  obtain rfl : args = #[v0, v1] := by cases args; simp_all
  obtain ⟨rfl, rfl⟩ := trodVars_none hV
  obtain ⟨n0, a, rfl, hA0'⟩ := open_so (hval 0 26 v0 rfl rfl) h0
  obtain ⟨n1, b, rfl, hB0'⟩ := open_so (hval 1 26 v1 rfl rfl) h1
  have hA1 := SoH.le (Nat.le_max_left n0 n1) hA0'
  have hB1 := SoH.le (Nat.le_max_right n0 n1) hB0'
  refine (treeSame_walk (max n0 n1) a b W hA1 hB1 (of_laid hL)).mono fun e W' ⟨he, hb⟩ => ?_
  subst he
  exact ⟨_, rfl, law_post rfl rfl (by kernel_rfl) rfl hW' hb⟩

set_option maxRecDepth 100000 in
theorem treeSame_holds : Rows.TreeSameSaid :=
  OpenClaim.holds_of_wide 3 Tryz.f3 rfl rfl rfl rfl rfl rfl rfl ⟨rfl, rfl, rfl, rfl, rfl⟩ rfl rfl rfl rfl rfl (by kernel_rfl) Tryz.func3 (by kernel_rfl)
    (of_decide_eq_true (by kernel_rfl)) (by unfold Func.isWrapper; first | (rw [if_pos (by decide +kernel)]; kernel_rfl) | (rw [if_neg (by decide +kernel)]; exact ⟨rfl, rfl⟩))
    (fun os started H enc _ => treeSame_lifted os started H enc)

set_option maxRecDepth 100000 in
theorem treeSame_card : Rows.TreeSameCardSaid :=
  Claim7.holds_tied_plain_at .later [] [.data, .data, .data, .data, .data] true (true, "04d62cbed973c2e810c606a14882d32e99826cfb9a8c17751d2e1bdf0ab150a9") false
    treeSame_holds (fun _ h => by cases h) (by kernel_rfl) (fun _ h => by cases h) treeSame_row_tie rfl ⟨rfl, rfl⟩ (by kernel_rfl) rfl
    (fun f fn hf hfn => by
      obtain rfl : f = 3 := Option.some.inj ((show Tryz.prog.funcNamed "cocoon/cocoonlaw05.TreeSame" = some 3 by kernel_rfl).symm.trans hf) |>.symm
      obtain rfl : fn = Tryz.f3 := (Option.some.inj (Tryz.func3.symm.trans hfn)).symm
      exact ⟨by kernel_rfl, fun j t ht => by
        rw [Tryz.params3] at ht
        have hm : t ∈ [26, 26] := by simpa using Array.mem_of_getElem? ht
        have hall : ([26, 26].all fun u => !Tryz.prog.wantsStandIn u) = true := by kernel_rfl
        exact (show Tryz.prog.wantsStandIn t = false by simpa using List.all_eq_true.1 hall t hm)⟩)
    (by kernel_rfl)
end
end Go.Proofs.YtgogdcpgfmndnaaGreatDoor
