/-
  Kinds of package code. Conditions: the program lies in the heap.
-/
import Derived.Test.YtobhfmliaecbjaaDoorLies
import Derived.Deep.OwnRows
namespace Go.Proofs.YtobhfmliaecbjaaDoor
open Go.RowKit

theorem made_one (z : Value) (n : Nat) : madeCells #[z] n = (List.replicate n z).toArray := by
  apply Array.toList_inj.1
  rw [toList_madeCells_one]
theorem make_ints (n : Nat) (h : n ≤ 65536) (w : World) : (Instr.makeSlice 23 (.int .i64 (n : Int)) (.int .i64 (n : Int))).run Tryd.prog w = .ok (.slice (some ⟨w.heap.size, 0, none⟩) n n) (w.alloc (.cells (iv (List.replicate n 0)) 3)) := by
  rw [run_make_row' 23 3 (.int .i64 0) 8 Tryd.underlying23 info3 rfl .i64 .i64 n (by omega) (by omega) w, made_one]
  simp [iv]

theorem take_snoc {α : Type} (l : List α) (j : Nat) (x : α) (h : l[j]? = some x) : l.take (j + 1) = l.take j ++ [x] := by
  rw [List.take_add_one, h]; rfl

/-- the loops' state: the kinds so far -/
structure KSt (w0 : World) (box : Obj) (bk g : Nat) (ks : List Int) (wr : World) : Prop where
  at_ : KAt wr bk g ks
  below : Below w0.heap.size w0 wr
  box : wr.heap[w0.heap.size]? = some box
  gl : w0.heap.size < g

theorem IntsV.kat {w : World} {bk g : Nat} {ks : List Int} (h : KAt w bk g ks) (hm : ks.length ≤ maxLen) : IntsV w (.slice (some ⟨g, 0, none⟩) ks.length ks.length) ks :=
  ⟨_, _, g, 0, rfl, Nat.le_refl _, hm, fun _ => ⟨rfl, (Array.getElem?_eq_some_iff.1 h.row).1⟩, fun i z hz => by simp [World.cell?, h.row, iv, hz]⟩

theorem KSt.step {w0 wr w1 : World} {o o1 : Obj} {bk g : Nat} {ks ks' : List Int} (h : KSt w0 o bk g ks wr) (hK : KAt w1 bk g ks') (ho : Only g (wr.alloc o1) w1) : KSt w0 o bk g ks' w1 := by
  have hlt : w0.heap.size < wr.heap.size := (Array.getElem?_eq_some_iff.1 h.box).1
  refine ⟨hK, below_only (h.below.alloc (by omega) _) ho (by have := h.gl; omega), ?_, h.gl⟩
  rw [ho.block _ (by have := h.gl; omega), heap_alloc_old _ _ hlt]
  exact h.box

set_option maxRecDepth 100000 in
set_option maxHeartbeats 2000000 in
theorem kinds_any (w : World) (fv cv : Value) (p : Pg) (hP : PgV w fv cv p) (hn : p.fs.length ≤ 65536) (hm : p.cs.length ≤ 65536) : Calls Tryd.prog 19 #[.agg #[fv, cv]] w fun e w' => ∃ v, e = .returned v ∧ IntsV w' v (kindsL p) ∧ Below w.heap.size w w' := by
  have hmf : ∀ (fn : Fn) (first cap : Array Value) (w : World), (Instr.makeFunc fn first cap).run Tryd.prog w = .ok (.func fn first cap) w := fun _ _ _ _ => rfl
  obtain ⟨⟨oaf, capf, bf, off, rfl, hf1, hf2, hf3, hf4⟩, oac, capc, bc, offc, rfl, hc1, hc2, hc3, hc4⟩ := hP
  clear hf4 hf3
  replace hc3 := Lib.hid hc3
  replace hc4 := Lib.hid hc4
  have hmk := make_ints p.fs.length hn
  have h0 : KSt w (.cells #[.slice oaf p.fs.length capf, .slice oac p.cs.length capc] 35) (w.heap.size + 2) (w.heap.size + 1) (List.replicate p.fs.length 0) (((w.alloc (.cells #[.slice oaf p.fs.length capf, .slice oac p.cs.length capc] 35)).alloc (.cells (iv (List.replicate p.fs.length 0)) 3)).alloc (.cells #[.slice (some ⟨w.heap.size + 1, 0, none⟩) p.fs.length p.fs.length] 23)) := by
    refine ⟨⟨?_, ?_⟩, ((alloc_below _ _).alloc (by simp) _).alloc (by simp; omega) _, ?_, by omega⟩
    · rw [List.length_replicate]
      have := heap_alloc_new ((w.alloc (.cells #[.slice oaf p.fs.length capf, .slice oac p.cs.length capc] 35)).alloc (.cells (iv (List.replicate p.fs.length 0)) 3)) (.cells #[.slice (some ⟨w.heap.size + 1, 0, none⟩) p.fs.length p.fs.length] 23)
      simpa using this
    · rw [heap_alloc_old _ _ (by simp)]
      have := heap_alloc_new (w.alloc (.cells #[.slice oaf p.fs.length capf, .slice oac p.cs.length capc] 35)) (.cells (iv (List.replicate p.fs.length 0)) 3)
      simpa using this
    · rw [heap_alloc_old _ _ (by simp; omega), heap_alloc_old _ _ (by simp), heap_alloc_new]
  replace h0 := Lib.hid h0
  obtain ⟨n, hpn⟩ : ∃ n, n = p.fs.length := ⟨_, rfl⟩
  rw [← hpn] at hmk hn hf1
  simp only [← hpn] at h0 ⊢
  have hK : kindsL p = markAll (markAll (List.replicate n 0) (p.cs.map Cr.ca) 2) (p.cs.map Cr.re) 1 := by rw [hpn]; rfl
  replace hK := Lib.hid hK
  clear hpn
  go_enter Tryd.func19, Tryd.ntmps19
  go_wp2_with fail
  generalize hbk : w.heap.size + 2 = bk at h0 ⊢
  generalize hg : w.heap.size + 1 = g at h0 ⊢
  clear hbk hg hmk
  go_loopw [17] (fun u wr => ∃ j : Nat, j ≤ p.cs.length ∧ u = .int .i64 j ∧ KSt w (.cells #[.slice oaf n capf, .slice oac p.cs.length capc] 35) bk g (markAll (List.replicate n 0) ((p.cs.take j).map Cr.ca) 2) wr) (fun u _ => p.cs.length - (intOf u).toNat)
  case atStart => exact ⟨0, by omega, rfl, h0.out⟩
  case round =>
    clear h0
    obtain ⟨j, hj, rfl, S⟩ := hrel
    by_cases hjl : j < p.cs.length
    · have t1 : decide ((j : Int) < p.cs.length) = true := by simpa using hjl
      obtain ⟨rfl, hbc⟩ := hc3.out (by omega)
      obtain ⟨c, hc⟩ : ∃ c, p.cs[j]? = some c := ⟨_, List.getElem?_eq_getElem hjl⟩
      obtain ⟨s, g0, g1, g2, g3, g4⟩ := hc4.out j c hc
      have HC := Lib.hid (take_snoc p.cs j c hc)
      clear hc
      replace g0 := (S.below.cell hbc).trans g0
      replace g1 := (S.below.cell (p := ⟨bc, offc + j * 5 + 1, none⟩) hbc).trans g1
      replace g2 := (S.below.cell (p := ⟨bc, offc + j * 5 + 2, none⟩) hbc).trans g2
      replace g3 := (S.below.cell (p := ⟨bc, offc + j * 5 + 3, none⟩) hbc).trans g3
      replace g4 := (S.below.cell (p := ⟨bc, offc + j * 5 + 4, none⟩) hbc).trans g4
      go_wp2_with fail
      refine (kindsMark_any _ bk g _ c.ca 2 (S.at_.next (alloc_below _ _))).mono ?_
      rintro e w1 ⟨rfl, hK1, ho⟩
      have S1 := S.step hK1 ho
      clear S hK1 ho g0 g1 g2 g3 g4
      go_wp2
      go_roundw
      case rel => exact ⟨j + 1, by omega, by go_num, by rw [HC.out, List.map_append, List.map_singleton, markAll_snoc]; exact S1⟩
      case measure => simp [intOf]; omega
    · have t1 : decide ((j : Int) < p.cs.length) = false := by simpa using hjl
      obtain rfl : j = p.cs.length := by omega
      rw [List.take_length] at S
      obtain ⟨K1, hK1⟩ : ∃ K1, markAll (List.replicate n 0) (p.cs.map Cr.ca) 2 = K1 := ⟨_, rfl⟩
      rw [hK1] at S
      have hlen : K1.length = n := by rw [← hK1, markAll_len, List.length_replicate]
      have HK1 := Lib.hid (show kindsL p = markAll K1 (p.cs.map Cr.re) 1 by rw [hK.out, hK1])
      have b0 : wr.cell? ⟨w.heap.size, 0, none⟩ = some (.slice oaf n capf) := by simp [World.cell?, S.box]
      have b1 : wr.cell? ⟨w.heap.size, 1, none⟩ = some (.slice oac p.cs.length capc) := by simp [World.cell?, S.box]
      have hblt := World.block_lt_of_cell? _ _ b0
      clear hK1 hK
      replace hlen := Lib.hid hlen
      go_wp2_with fail
      go_loopw [29] (fun u wr => ∃ j : Nat, j ≤ p.cs.length ∧ u = .int .i64 j ∧ KSt w (.cells #[.slice oaf n capf, .slice oac p.cs.length capc] 35) bk g (markAll K1 ((p.cs.take j).map Cr.re) 1) wr) (fun u _ => p.cs.length - (intOf u).toNat)
      case atStart => exact ⟨0, by omega, rfl, S⟩
      case round =>
        clear S b0 b1 hblt
        obtain ⟨j, hj, rfl, S⟩ := hrel
        by_cases hjl : j < p.cs.length
        · have t1 : decide ((j : Int) < p.cs.length) = true := by simpa using hjl
          obtain ⟨rfl, hbc⟩ := hc3.out (by omega)
          obtain ⟨c, hc⟩ : ∃ c, p.cs[j]? = some c := ⟨_, List.getElem?_eq_getElem hjl⟩
          obtain ⟨s, g0, g1, g2, g3, g4⟩ := hc4.out j c hc
          have HC := Lib.hid (take_snoc p.cs j c hc)
          clear hc
          replace g0 := (S.below.cell hbc).trans g0
          replace g1 := (S.below.cell (p := ⟨bc, offc + j * 5 + 1, none⟩) hbc).trans g1
          replace g2 := (S.below.cell (p := ⟨bc, offc + j * 5 + 2, none⟩) hbc).trans g2
          replace g3 := (S.below.cell (p := ⟨bc, offc + j * 5 + 3, none⟩) hbc).trans g3
          replace g4 := (S.below.cell (p := ⟨bc, offc + j * 5 + 4, none⟩) hbc).trans g4
          go_wp2_with fail
          refine (kindsMark_any _ bk g _ c.re 1 (S.at_.next (alloc_below _ _))).mono ?_
          rintro e w1 ⟨rfl, hK1, ho⟩
          have S1 := S.step hK1 ho
          clear S hK1 ho g0 g1 g2 g3 g4
          go_wp2
          go_roundw
          case rel => exact ⟨j + 1, by omega, by go_num, by rw [HC.out, List.map_append, List.map_singleton, markAll_snoc]; exact S1⟩
          case measure => simp [intOf]; omega
        · have t1 : decide ((j : Int) < p.cs.length) = false := by simpa using hjl
          obtain rfl : j = p.cs.length := by omega
          rw [List.take_length, ← HK1.out] at S
          have hl2 : (kindsL p).length = n := by rw [HK1.out, markAll_len, hlen.out]
          have c0 : wr.cell? ⟨bk, 0, none⟩ = some (.slice (some ⟨g, 0, none⟩) (kindsL p).length (kindsL p).length) := by simp [World.cell?, S.at_.hdr]
          go_wp2
          go_ret
          have hI := IntsV.kat S.at_ (by rw [hl2]; unfold maxLen; omega)
          rw [hl2] at hI
          exact ⟨_, rfl, hI, S.below⟩
end Go.Proofs.YtobhfmliaecbjaaDoor
