/-
  Valid of package code. Conditions: the program lies in the heap; its labels are not too many for a machine.
-/
import Derived.Test.YtobhfmliaecbjaaDoorFn
import Derived.Test.YtobhfmliaecbjaaDoorCo
import Derived.Deep.RegionWith
import Derived.Deep.RegionLaw
import Derived.Deep.DeepCutAuto
import Derived.Deep.CutBlock
namespace Go.Proofs.YtobhfmliaecbjaaDoor
open Go.RowKit

/-- may a program be run? -/
structure PgOk (p : Pg) : Prop where
  fs : p.fs.length ≤ 65536
  cs : p.cs.length ≤ 65536
  co : ∀ c ∈ p.cs, coB (kindsL p) c = true
  fn : ∀ i f, p.fs[i]? = some f → FnOk p.cs.length (kindsL p) ((kindsL p).getD i 0) f

/-- labels that a machine can hold -/
def LabOk (p : Pg) : Prop := ∀ f ∈ p.fs, ∀ x ∈ f, x.l.length ≤ 9000000000000000000

theorem zfacts {W w2 : World} {N k : Nat} (hb2 : Below N W w2) (hk : k < N) (hz : W.heap[k]? = some (.cells #[.slice none 0 0, .slice none 0 0, .slice none 0 0] 57)) :
    w2.cell? ⟨k, 0, none⟩ = some (.slice none 0 0) ∧ w2.cell? ⟨k, 1, none⟩ = some (.slice none 0 0) ∧ w2.cell? ⟨k, 2, none⟩ = some (.slice none 0 0) ∧ w2.frozen? ⟨k, 0, none⟩ = false ∧ w2.frozen? ⟨k, 1, none⟩ = false ∧ w2.frozen? ⟨k, 2, none⟩ = false ∧ w2.heap[k]? = some (.cells #[.slice none 0 0, .slice none 0 0, .slice none 0 0] 57) := by
  have zb := (hb2.block k hk).trans hz
  simp [World.cell?, World.frozen?, zb]

/-- behind the viewer's making -/
def VR (W : World) (fv cv : Value) (ks : List Int) (s3 : Value) (wc : World) : Prop :=
  ∃ bv kv, s3 = .pointer (some ⟨bv, 0, none⟩) ∧ wc.heap[bv]? = some (.cells #[fv, cv, kv] 57) ∧ IntsV wc kv ks ∧ Below W.heap.size W wc
theorem VR.a {W w2 : World} {fv cv kv : Value} {ks : List Int} (hb2 : Below W.heap.size W w2) (hI : IntsV w2 kv ks) : VR W fv cv ks (.pointer (some ⟨w2.heap.size, 0, none⟩)) (w2.alloc (.cells #[fv, cv, kv] 57)) :=
  ⟨_, kv, rfl, heap_alloc_new _ _, hI.below (alloc_below _ _), hb2.alloc hb2.size _⟩
theorem VR.b {W w1 w2 : World} {fv cv kv : Value} {ks : List Int} {k N : Nat} (h0 : Below W.heap.size W w1) (hb2 : Below N w1 w2) (hN : W.heap.size ≤ N) (hk : W.heap.size ≤ k) (hI : IntsV w2 kv ks) (zb : w2.heap[k]? = some (.cells #[.slice none 0 0, .slice none 0 0, .slice none 0 0] 57)) :
    VR W fv cv ks (.pointer (some ⟨k, 0, none⟩)) (((w2.setCell ⟨k, 0, none⟩ fv).setCell ⟨k, 1, none⟩ cv).setCell ⟨k, 2, none⟩ kv) := by
  have h1 := heap_setCell_same w2 k 0 _ 57 fv zb
  have h2 := heap_setCell_same (w2.setCell ⟨k, 0, none⟩ fv) k 1 _ 57 cv h1
  have h3 := heap_setCell_same ((w2.setCell ⟨k, 0, none⟩ fv).setCell ⟨k, 1, none⟩ cv) k 2 _ 57 kv h2
  have other : ∀ b, b ≠ k → (((w2.setCell ⟨k, 0, none⟩ fv).setCell ⟨k, 1, none⟩ cv).setCell ⟨k, 2, none⟩ kv).heap[b]? = w2.heap[b]? := fun b hb => by
    rw [Below.heap_setCell _ ⟨k, 2, none⟩ _ b hb, Below.heap_setCell _ ⟨k, 1, none⟩ _ b hb, Below.heap_setCell _ ⟨k, 0, none⟩ _ b hb]
  refine ⟨k, kv, rfl, h3, ?_, (((h0.trans (hb2.mono hN)).setCell (p := ⟨k, 0, none⟩) hk _).setCell (p := ⟨k, 1, none⟩) hk _).setCell (p := ⟨k, 2, none⟩) hk _⟩
  obtain ⟨oa, cap, b, off, hkv, g1, g2, g3, g4⟩ := hI
  refine ⟨oa, cap, b, off, hkv, g1, g2, fun h => ⟨(g3 h).1, by simpa [World.setCell] using (g3 h).2⟩, fun i z hz => ?_⟩
  have hne : b ≠ k := fun e => by
    have h := g4 i z hz
    subst e
    simp only [World.cell?, zb] at h
    have hh : (#[.slice none 0 0, .slice none 0 0, .slice none 0 0] : Array Value)[off + i]? = some (.int .i64 z) := h
    match hm : off + i, hh with
    | 0, hh => cases hh
    | 1, hh => cases hh
    | 2, hh => cases hh
    | n + 3, hh => simp at hh
  have h := g4 i z hz
  have e : (((w2.setCell ⟨k, 0, none⟩ fv).setCell ⟨k, 1, none⟩ cv).setCell ⟨k, 2, none⟩ kv).cell? ⟨b, off + i, none⟩ = w2.cell? ⟨b, off + i, none⟩ := by
    simp only [World.cell?, other b hne]
  rw [e]
  exact h

set_option maxRecDepth 100000 in
set_option maxHeartbeats 3000000 in
theorem valid_any (w : World) (fv cv : Value) (p : Pg) (hP : PgV w fv cv p) (hL : LabOk p) (ht : TabAt w) :
    Calls Tryd.prog 21 #[.agg #[fv, cv]] w fun e w' => ∃ b : Bool, e = .returned (.bool b) ∧ (b = true ↔ PgOk p) ∧ Below w.heap.size w w' := by
  have hts := ht.lt
  have hP' := hP
  obtain ⟨⟨oaf, capf, bf, off, rfl, hf1, hf2, hf3, hf4⟩, oac, capc, bc, offc, rfl, hc1, hc2, hc3, hc4⟩ := hP
  unfold maxLen at hf2 hc2
  have hb1 := alloc_below w (.cells #[.slice oaf p.fs.length capf, .slice oac p.cs.length capc] 35)
  by_cases h0 : 65536 < p.fs.length
  · have t0 : decide ((p.fs.length : Int) > 65536) = true := by simp; omega
    go_enter Tryd.func21, Tryd.ntmps21
    go_wp2
    go_ret
    exact ⟨false, rfl, ⟨fun h => (by cases h), fun h => absurd h.fs (by omega)⟩, hb1⟩
  have t0 : decide ((p.fs.length : Int) > 65536) = false := by simp; omega
  by_cases h1 : 65536 < p.cs.length
  · have t1 : decide ((p.cs.length : Int) > 65536) = true := by simp; omega
    go_enter Tryd.func21, Tryd.ntmps21
    go_wp2
    go_ret
    exact ⟨false, rfl, ⟨fun h => (by cases h), fun h => absurd h.cs (by omega)⟩, hb1⟩
  have t1 : decide ((p.cs.length : Int) > 65536) = false := by simp; omega
  have HP := Lib.hid hP'
  have HL := Lib.hid hL
  have HT := Lib.hid ht
  replace hf3 := Lib.hid hf3
  replace hf4 := Lib.hid hf4
  replace hc3 := Lib.hid hc3
  replace hc4 := Lib.hid hc4
  have hfn : p.fs.length ≤ 65536 := by omega
  have hcn : p.cs.length ≤ 65536 := by omega
  have c0 := alloc_cell w #[.slice oaf p.fs.length capf, .slice oac p.cs.length capc] 35 0 _ rfl
  have c1 := alloc_cell w #[.slice oaf p.fs.length capf, .slice oac p.cs.length capc] 35 1 _ rfl
  have hzb : ((w.alloc (.cells #[.slice oaf p.fs.length capf, .slice oac p.cs.length capc] 35)).alloc (.cells #[.slice none 0 0, .slice none 0 0, .slice none 0 0] 57)).heap[w.heap.size + 1]? = some (.cells #[.slice none 0 0, .slice none 0 0, .slice none 0 0] 57) := by
    have := heap_alloc_new (w.alloc (.cells #[.slice oaf p.fs.length capf, .slice oac p.cs.length capc] 35)) (.cells #[.slice none 0 0, .slice none 0 0, .slice none 0 0] 57)
    simpa using this
  have d0 : ((w.alloc (.cells #[.slice oaf p.fs.length capf, .slice oac p.cs.length capc] 35)).alloc (.cells #[.slice none 0 0, .slice none 0 0, .slice none 0 0] 57)).cell? ⟨w.heap.size, 0, none⟩ = some (.slice oaf p.fs.length capf) := (alloc_same _ _ _ (by simp)).trans c0
  have d1 : ((w.alloc (.cells #[.slice oaf p.fs.length capf, .slice oac p.cs.length capc] 35)).alloc (.cells #[.slice none 0 0, .slice none 0 0, .slice none 0 0] 57)).cell? ⟨w.heap.size, 1, none⟩ = some (.slice oac p.cs.length capc) := (alloc_same _ _ _ (by simp)).trans c1
  have hkz := Lib.hid (show w.heap.size + 1 < ((w.alloc (.cells #[.slice oaf p.fs.length capf, .slice oac p.cs.length capc] 35)).alloc (.cells #[.slice none 0 0, .slice none 0 0, .slice none 0 0] 57)).heap.size by simp)
  replace hzb := Lib.hid hzb
  replace d0 := Lib.hid d0
  replace d1 := Lib.hid d1
  clear hP' hL ht h0 h1
  go_enter Tryd.func21, Tryd.ntmps21
  go_upto_region 3 with fail
  go_cut [3] (fun s3 wc => VR (w.alloc (.cells #[.slice oaf p.fs.length capf, .slice oac p.cs.length capc] 35)) (.slice oaf p.fs.length capf) (.slice oac p.cs.length capc) (kindsL p) s3 wc)
  case first =>
    go_region_law (go_simp; go_at_call 19; refine (kinds_any _ _ _ p (HP.out.below (by first | exact (alloc_below _ _).drew | exact ((alloc_below _ _).alloc (by simp) _).drew)) hfn hcn).mono ?_; rintro e w2 ⟨kv, rfl, hI2, hb2⟩; have HI2 := Lib.hid hI2; obtain ⟨oak, capk, bk, offk, rfl, k1, k2, -, -⟩ := hI2; have p0 : w2.cell? ⟨w.heap.size, 0, none⟩ = some (.slice oaf p.fs.length capf) := (hb2.cell (p := ⟨w.heap.size, 0, none⟩) (by first | (simp; done) | (simp; omega))).trans (by first | exact c0 | exact d0.out); have p1 : w2.cell? ⟨w.heap.size, 1, none⟩ = some (.slice oac p.cs.length capc) := (hb2.cell (p := ⟨w.heap.size, 1, none⟩) (by first | (simp; done) | (simp; omega))).trans (by first | exact c1 | exact d1.out); have plt : w.heap.size < w2.heap.size := World.block_lt_of_cell? w2 _ p0; try (obtain ⟨z0, z1, z2, y0, y1, y2, zb⟩ := zfacts hb2 hkz.out hzb.out; replace zb := Lib.hid zb))
    all_goals (go_wp2_with fail; go_meet)
    all_goals first
      | exact VR.a ⟨hb2.os, hb2.tape, hb2.output, hb2.size, hb2.block⟩ HI2.out
      | exact VR.b (alloc_below _ _) ⟨hb2.os, hb2.tape, hb2.output, hb2.size, hb2.block⟩ (by simp) (by simp) HI2.out zb.out
  case rest =>
    clear hkz hzb d0 d1
    obtain ⟨bv, kv, rfl, hbv, hIk, hBc⟩ := hcut
    obtain ⟨ks, hks⟩ : ∃ ks, ks = kindsL p := ⟨_, rfl⟩
    rw [← hks] at hIk
    have HKS := Lib.hid hks
    clear hks
    have hlk := Lib.hid (show ks.length = p.fs.length by rw [HKS.out, kindsL_len])
    replace c0 := (hBc.cell (p := ⟨w.heap.size, 0, none⟩) (by simp)).trans c0
    replace c1 := (hBc.cell (p := ⟨w.heap.size, 1, none⟩) (by simp)).trans c1
    have hB : Below w.heap.size w wc := hb1.trans (hBc.mono hb1.size)
    have hwc : w.heap.size < wc.heap.size := World.block_lt_of_cell? wc _ c0
    have hvc : bv < wc.heap.size := (Array.getElem?_eq_some_iff.1 hbv).1
    have HIK := Lib.hid hIk
    obtain ⟨oak, capk, bk, offk, rfl, k1, k2, k3, k4⟩ := hIk
    unfold maxLen at k2
    replace k3 := Lib.hid k3
    replace k4 := Lib.hid k4
    have v0 : wc.cell? ⟨bv, 0, none⟩ = some (.slice oaf p.fs.length capf) := by simp [World.cell?, hbv]
    have v1 : wc.cell? ⟨bv, 1, none⟩ = some (.slice oac p.cs.length capc) := by simp [World.cell?, hbv]
    have v2 : wc.cell? ⟨bv, 2, none⟩ = some (.slice oak ks.length capk) := by simp [World.cell?, hbv]
    clear hbv hBc hb1
    go_wp2_with fail
    go_loopw [25] (fun u wr => ∃ j : Nat, j ≤ p.cs.length ∧ u = .int .i64 j ∧ (∀ c ∈ p.cs.take j, coB ks c = true) ∧ Below wc.heap.size wc wr) (fun u _ => p.cs.length - (intOf u).toNat)
    case atStart => exact ⟨0, by omega, rfl, fun c hc => by simp at hc, Below.refl _ _⟩
    case round =>
      obtain ⟨j, hj, rfl, hso, hbw⟩ := hrel
      have HSO := Lib.hid hso
      clear hso
      replace v0 := (hbw.cell (p := ⟨bv, 0, none⟩) hvc).trans v0
      replace v1 := (hbw.cell (p := ⟨bv, 1, none⟩) hvc).trans v1
      replace v2 := (hbw.cell (p := ⟨bv, 2, none⟩) hvc).trans v2
      replace c0 := (hbw.cell (p := ⟨w.heap.size, 0, none⟩) hwc).trans c0
      have hsz := hbw.size
      have hBw : Below w.heap.size w wr := hB.trans (hbw.mono hB.size)
      by_cases hjl : j < p.cs.length
      · have t2 : decide ((j : Int) < p.cs.length) = true := by simp; omega
        obtain ⟨rfl, hbc⟩ := hc3.out (by omega)
        obtain ⟨c, hc⟩ : ∃ c, p.cs[j]? = some c := ⟨_, List.getElem?_eq_getElem hjl⟩
        obtain ⟨sn, g0, g1, g2, g3, g4⟩ := hc4.out j c hc
        have HTK := Lib.hid (take_snoc p.cs j c hc)
        have HCM := Lib.hid (List.mem_of_getElem? hc)
        replace g0 := (hBw.cell (p := ⟨bc, offc + j * 5, none⟩) hbc).trans g0
        replace g1 := (hBw.cell (p := ⟨bc, offc + j * 5 + 1, none⟩) hbc).trans g1
        replace g2 := (hBw.cell (p := ⟨bc, offc + j * 5 + 2, none⟩) hbc).trans g2
        replace g3 := (hBw.cell (p := ⟨bc, offc + j * 5 + 3, none⟩) hbc).trans g3
        replace g4 := (hBw.cell (p := ⟨bc, offc + j * 5 + 4, none⟩) hbc).trans g4
        have hbcr : bc < wr.heap.size := Nat.lt_of_lt_of_le hbc hBw.size
        have hbvr : bv < wr.heap.size := by omega
        have hba := hbw.trans ((alloc_below wr (.cells #[.string sn, .int .i64 c.re, .int .i64 c.ca, .int .i64 c.wo, .int .i64 c.ar] 55)).mono hbw.size)
        have hcc := Lib.hid (co_any (wr.alloc (.cells #[.string sn, .int .i64 c.re, .int .i64 c.ca, .int .i64 c.wo, .int .i64 c.ar] 55)) (.slice oaf p.fs.length capf) (.slice (some ⟨bc, offc, none⟩) p.cs.length capc) (.slice oak ks.length capk) ks (HIK.out.below hba) c sn)
        clear hc
        go_wp2_with fail
        refine hcc.out.mono ?_
        clear hcc
        rintro e w3 ⟨rfl, hb3⟩
        have hb4 := hba.trans (hb3.mono hba.size)
        clear hb3 hba g0 g1 g2 g3 g4 v0 v1 v2 c0 hbw hBw
        cases hco : coB ks c with
        | false =>
          have HCO := Lib.hid hco
          clear hco
          go_wp2
          go_returns
          exact ⟨false, rfl, ⟨fun h => (by cases h), fun h => by have := h.co c HCM.out; rw [← HKS.out, HCO.out] at this; cases this⟩, hB.trans (hb4.mono hB.size)⟩
        | true =>
          have HCO := Lib.hid hco
          clear hco
          go_wp2
          go_roundw
          case rel =>
            refine ⟨j + 1, by omega, by go_num, fun d hd => ?_, hb4⟩
            rw [HTK.out] at hd
            rcases List.mem_append.1 hd with h | h
            · exact HSO.out d h
            · simp at h; rw [h]; exact HCO.out
          case measure => simp [intOf]; omega
      · have t2 : decide ((j : Int) < p.cs.length) = false := by simp; omega
        obtain rfl : j = p.cs.length := by omega
        rw [List.take_length] at HSO
        have hwr : w.heap.size < wr.heap.size := by omega
        have hvr : bv < wr.heap.size := by omega
        have HIK2 := Lib.hid (HIK.out.below hbw)
        have HKC := Lib.hid (show ∀ i z, ks[i]? = some z → wr.cell? ⟨bk, offk + i, none⟩ = some (.int .i64 z) ∧ oak = some ⟨bk, offk, none⟩ ∧ bk < wr.heap.size from fun i z hz => by
          obtain ⟨h1, h2⟩ := k3.out (by have := (List.getElem?_eq_some_iff.1 hz).1; omega)
          exact ⟨(hbw.cell (p := ⟨bk, offk + i, none⟩) h2).trans (k4.out i z hz), h1, by omega⟩)
        clear hB hbw hwc hvc HIK k3 k4 c1 hsz
        obtain ⟨wp, hwp⟩ : ∃ wp, wp = wr := ⟨_, rfl⟩
        subst hwp
        go_wp2_with fail
        go_loopw [37] (fun u wy => ∃ j : Nat, j ≤ p.fs.length ∧ u = .int .i64 j ∧ (∀ (i : Nat) (f : List In), i < j → p.fs[i]? = some f → FnOk p.cs.length ks (ks.getD i 0) f) ∧ Below wp.heap.size wp wy) (fun u _ => p.fs.length - (intOf u).toNat)
        case atStart => exact ⟨0, by omega, rfl, fun i f hi => absurd hi (Nat.not_lt_zero _), Below.refl _ _⟩
        case round =>
          obtain ⟨j, hj, rfl, hso, hbw⟩ := hrel
          have HFO := Lib.hid hso
          clear hso
          replace v0 := (hbw.cell (p := ⟨bv, 0, none⟩) hvr).trans v0
          replace v1 := (hbw.cell (p := ⟨bv, 1, none⟩) hvr).trans v1
          replace v2 := (hbw.cell (p := ⟨bv, 2, none⟩) hvr).trans v2
          have hsz2 := hbw.size
          have hBy : Below w.heap.size w wr := hBw.trans (hbw.mono hBw.size)
          by_cases hjl : j < p.fs.length
          · have t2 : decide ((j : Int) < p.fs.length) = true := by simp; omega
            obtain ⟨rfl, hbf⟩ := hf3.out (by omega)
            obtain ⟨f, hf⟩ : ∃ f, p.fs[j]? = some f := ⟨_, List.getElem?_eq_getElem hjl⟩
            obtain ⟨fvj, g0, hFV⟩ := hf4.out j f hf
            obtain ⟨kz, hkz⟩ : ∃ kz, ks[j]? = some kz := ⟨_, List.getElem?_eq_getElem (by have := hlk.out; omega)⟩
            obtain ⟨g1, rfl, hbk⟩ := HKC.out j kz hkz
            have HKZ := Lib.hid (show ks.getD j 0 = kz by rw [List.getD_eq_getElem?_getD, hkz]; rfl)
            have HLB := Lib.hid (show ∀ x ∈ f, x.l.length ≤ 9000000000000000000 from HL.out f (List.mem_of_getElem? hf))
            have HFJ := Lib.hid hf
            replace g0 := (hBy.cell (p := ⟨bf, off + j, none⟩) hbf).trans g0
            replace g1 := (hbw.cell (p := ⟨bk, offk + j, none⟩) hbk).trans g1
            have hjk : (j : Int) < ks.length := by have := hlk.out; omega
            have HFV := Lib.hid (hFV.below (w' := wr) ⟨hBy.os, hBy.tape, hBy.output, hBy.size, hBy.block⟩)
            obtain ⟨oaj, capj, bj, offj, rfl, q1, q2, -, -⟩ := hFV
            clear hf hkz
            go_wp2
            go_still_tail 7, (by kernel_rfl)
            change wpList _ _ _ _ _ wr.drew
            have hbd : Below wp.heap.size wp wr.drew := hbw.drew
            have hcc := Lib.hid (fn_any wr.drew (.slice (some ⟨bf, off, none⟩) p.fs.length capf) (.slice (some ⟨bk, offk, none⟩) ks.length capk) (.slice oaj f.length capj) oac p.cs.length capc ks (HIK2.out.below hbd) f (HFV.out.below ((Below.refl _ _).drew)) HLB.out kz (HT.out.below (w' := wr.drew) (B := w.heap.size) ⟨hBy.os, hBy.tape, hBy.output, hBy.size, hBy.block⟩ hts))
            go_wp2_with fail
            refine hcc.out.mono ?_
            clear hcc
            rintro e w3 ⟨b3, rfl, hiff, hb3⟩
            replace hiff := Lib.hid hiff
            have hb4 := hbd.trans (hb3.mono hbd.size)
            clear hb3 hbd g0 g1 v0 v1 v2 hbw
            cases b3 with
            | false =>
              go_wp2
              go_returns
              exact ⟨false, rfl, ⟨fun h => (by cases h), fun h => by
                have h2 := h.fn j f HFJ.out
                rw [← HKS.out, HKZ.out] at h2
                exact absurd (hiff.out.2 h2) (by simp)⟩, hBw.trans (hb4.mono hBw.size)⟩
            | true =>
              go_wp2
              go_roundw
              case rel =>
                refine ⟨j + 1, by omega, by go_num, fun i g hi hg => ?_, hb4⟩
                by_cases e : i = j
                · subst e
                  rw [HFJ.out] at hg
                  cases hg
                  rw [HKZ.out]
                  exact hiff.out.1 (by simp)
                · exact HFO.out i g (by omega) hg
              case measure => simp [intOf]; omega
          · have t2 : decide ((j : Int) < p.fs.length) = false := by simp; omega
            obtain rfl : j = p.fs.length := by omega
            go_wp2
            go_ret
            exact ⟨true, rfl, ⟨fun _ => ⟨hfn, hcn, by rw [← HKS.out]; exact HSO.out, fun i f hf => by rw [← HKS.out]; exact HFO.out i f (List.getElem?_eq_some_iff.1 hf).1 hf⟩, fun _ => rfl⟩, hBy⟩
end Go.Proofs.YtobhfmliaecbjaaDoor
