/-
  Kinds of the document's own. Conditions: the program lies in the heap.
-/
import Derived.Test.YtobhfmliaecbjaaDoorKinds
import Derived.Test.YtobhfmliaecbjaaDoorRefS
namespace Go.Proofs.YtobhfmliaecbjaaDoor
open Go.RowKit

def kv1 (i : Int) (s : Int) (c : Cr) : Int := if c.re = i then 1 else if c.ca = i ∧ s = 0 then 2 else s
def kvL (i : Int) (cs : List Cr) : Int := cs.foldl (kv1 i) 0

theorem kvL_snoc (i : Int) (cs : List Cr) (c : Cr) : kvL i (cs ++ [c]) = kv1 i (kvL i cs) c := by simp [kvL]
theorem kvL_eq (i : Int) (cs : List Cr) : kvL i cs = if i ∈ cs.map Cr.re then 1 else if i ∈ cs.map Cr.ca then 2 else 0 := by
  have key : ∀ l : List Cr, kvL i l.reverse = if i ∈ l.map Cr.re then 1 else if i ∈ l.map Cr.ca then 2 else 0 := by
    intro l
    induction l with
    | nil => rfl
    | cons c l ih =>
      rw [List.reverse_cons, kvL_snoc, ih, List.map_cons, List.map_cons]
      have e1 : (i ∈ c.re :: l.map Cr.re) = (c.re = i ∨ i ∈ l.map Cr.re) := by rw [List.mem_cons, eq_comm (a := i)]
      have e2 : (i ∈ c.ca :: l.map Cr.ca) = (c.ca = i ∨ i ∈ l.map Cr.ca) := by rw [List.mem_cons, eq_comm (a := i)]
      simp only [e1, e2, kv1]
      by_cases h1 : c.re = i <;> by_cases h2 : c.ca = i <;> by_cases h3 : i ∈ l.map Cr.re <;> by_cases h4 : i ∈ l.map Cr.ca <;> simp only [h1, h2, h3, h4, or_true, or_false, if_true, if_false, and_true, true_and, false_and] <;> simp
  have := key cs.reverse
  simpa using this
theorem setK_get (ks : List Int) (i k : Int) (j : Nat) (hj : j < ks.length) : (setK ks i k)[j]? = if i = (j : Int) then some k else ks[j]? := by
  unfold setK
  by_cases h : below i ks.length = true
  · rw [if_pos h]
    have h01 : 0 ≤ i ∧ i < ks.length := by simpa [below] using h
    rw [List.getElem?_set]
    by_cases e : i = (j : Int)
    · rw [if_pos (by omega), if_pos (by omega), if_pos e]
    · rw [if_neg (by omega), if_neg e]
  · rw [if_neg h]
    have : ¬ i = (j : Int) := fun e => h (by rw [e]; simp [below]; omega)
    rw [if_neg this]
theorem markAll_get (l : List Int) (k : Int) : ∀ (ks : List Int) (j : Nat), j < ks.length → (markAll ks l k)[j]? = if (j : Int) ∈ l then some k else ks[j]? := by
  induction l with
  | nil => intro ks j _; simp [markAll]
  | cons i l ih =>
    intro ks j hj
    show (markAll (setK ks i k) l k)[j]? = _
    rw [ih _ j (by rw [setK_len]; exact hj), setK_get ks i k j hj]
    simp only [List.mem_cons, eq_comm (a := (j : Int))]
    by_cases h1 : (j : Int) ∈ l <;> by_cases h2 : i = (j : Int) <;> simp [h1, h2]
theorem kinds_get (p : Pg) (j : Nat) (hj : j < p.fs.length) : (kindsL p)[j]? = some (kvL j p.cs) := by
  unfold kindsL
  rw [markAll_get _ _ _ _ (by rw [markAll_len, List.length_replicate]; exact hj), markAll_get _ _ _ _ (by rw [List.length_replicate]; exact hj), kvL_eq]
  rw [List.getElem?_replicate, if_pos hj]
  by_cases h1 : (j : Int) ∈ p.cs.map Cr.re <;> by_cases h2 : (j : Int) ∈ p.cs.map Cr.ca <;> simp [h1, h2]

/-- the kinds so far: all of those below i, of i by k coroutines -/
structure KGo (cs : List Cr) (n i k : Nat) (ks : List Int) : Prop where
  len : ks.length = n
  done : ∀ j : Nat, j < i → ks[j]? = some (kvL j cs)
  now : i < n → ks[i]? = some (kvL i (cs.take k))
  rest : ∀ j : Nat, i < j → j < n → ks[j]? = some 0
theorem KGo.start (cs : List Cr) (n : Nat) : KGo cs n 0 0 (List.replicate n 0) :=
  ⟨by simp, fun j h => absurd h (Nat.not_lt_zero _), fun h => by rw [List.getElem?_replicate, if_pos h]; rfl, fun j _ h => by rw [List.getElem?_replicate, if_pos h]⟩
theorem KGo.next {cs : List Cr} {n i : Nat} {ks : List Int} (hin : i < n) (h : KGo cs n i cs.length ks) : KGo cs n (i + 1) 0 ks := by
  refine ⟨h.len, fun j hj => ?_, fun hi => ?_, fun j h1 h2 => h.rest j (by omega) h2⟩
  · by_cases e : j = i
    · subst e
      have := h.now hin
      rwa [List.take_length] at this
    · exact h.done j (by omega)
  · rw [h.rest (i + 1) (by omega) hi]; rfl
theorem KGo.put {cs : List Cr} {n i k : Nat} {ks : List Int} (hin : i < n) (h : KGo cs n i k ks) (c : Cr) (hc : cs[k]? = some c) (z : Int) (hz : kv1 i (kvL i (cs.take k)) c = z) : KGo cs n i (k + 1) (ks.set i z) := by
  have hl := h.len
  refine ⟨by rw [List.length_set]; exact hl, fun j hj => ?_, fun _ => ?_, fun j h1 h2 => ?_⟩
  · rw [List.getElem?_set, if_neg (by omega)]; exact h.done j hj
  · rw [List.getElem?_set, if_pos rfl, if_pos (by omega), take_snoc cs k c hc, kvL_snoc, hz]
  · rw [List.getElem?_set, if_neg (by omega)]; exact h.rest j h1 h2
theorem KGo.same {cs : List Cr} {n i k : Nat} {ks : List Int} (h : KGo cs n i k ks) (c : Cr) (hc : cs[k]? = some c) (hz : kv1 i (kvL i (cs.take k)) c = kvL i (cs.take k)) : KGo cs n i (k + 1) ks :=
  ⟨h.len, h.done, fun hi => by rw [h.now hi, take_snoc cs k c hc, kvL_snoc, hz], h.rest⟩
theorem KGo.fin {p : Pg} {ks : List Int} (h : KGo p.cs p.fs.length p.fs.length 0 ks) : ks = kindsL p := by
  apply List.ext_getElem?
  intro j
  by_cases hj : j < p.fs.length
  · rw [h.done j hj, kinds_get p j hj]
  · rw [List.getElem?_eq_none (by rw [h.len]; omega), List.getElem?_eq_none (by rw [kindsL_len]; omega)]

theorem row_put1 (w : World) (g : Nat) (ks : List Int) (i : Nat) (z : Int) (h : w.heap[g]? = some (.cells (iv ks) 3)) : (w.setCell ⟨g, i, none⟩ (.int .i64 z)).heap[g]? = some (.cells (iv (ks.set i z)) 3) := by
  have := heap_setCell_same w g i _ 3 (.int .i64 z) h
  rw [iv_set] at this
  exact this

/-- the world of the loops: the row of kinds in block g, what lay below B is as it was, and the program's box -/
structure KW (w0 : World) (g : Nat) (box : Obj) (ks : List Int) (wr : World) : Prop where
  row : wr.heap[g]? = some (.cells (iv ks) 3)
  below : Below w0.heap.size w0 wr
  box : wr.heap[w0.heap.size]? = some box
  gl : w0.heap.size < g
theorem KW.put {w0 wr : World} {g : Nat} {box : Obj} {ks : List Int} (h : KW w0 g box ks wr) (i : Nat) (z : Int) : KW w0 g box (ks.set i z) (wr.setCell ⟨g, i, none⟩ (.int .i64 z)) := by
  have hgl := h.gl
  refine ⟨row_put1 wr g ks i z h.row, below_only h.below (Only.setCell wr g i _) (by omega), ?_, hgl⟩
  rw [Below.heap_setCell _ ⟨g, i, none⟩ _ _ (by show w0.heap.size ≠ g; omega)]
  exact h.box

set_option maxRecDepth 100000 in
set_option maxHeartbeats 4000000 in
theorem refKinds_any (w : World) (fv cv : Value) (p : Pg) (hP : PgV w fv cv p) (hn : p.fs.length ≤ 65536) : Calls Tryd.prog 20 #[.agg #[fv, cv]] w fun e w' => ∃ v, e = .returned v ∧ IntsV w' v (kindsL p) ∧ Below w.heap.size w w' := by
  obtain ⟨⟨oaf, capf, bf, off, rfl, hf1, hf2, hf3, hf4⟩, oac, capc, bc, offc, rfl, hc1, hc2, hc3, hc4⟩ := hP
  clear hf4 hf3
  unfold maxLen at hf2 hc2
  replace hc3 := Lib.hid hc3
  replace hc4 := Lib.hid hc4
  have hmk := make_ints p.fs.length hn
  have h0 : KW w (w.heap.size + 1) (.cells #[.slice oaf p.fs.length capf, .slice oac p.cs.length capc] 35) (List.replicate p.fs.length 0) ((w.alloc (.cells #[.slice oaf p.fs.length capf, .slice oac p.cs.length capc] 35)).alloc (.cells (iv (List.replicate p.fs.length 0)) 3)) := by
    refine ⟨?_, (alloc_below _ _).alloc (by simp) _, ?_, by omega⟩
    · have := heap_alloc_new (w.alloc (.cells #[.slice oaf p.fs.length capf, .slice oac p.cs.length capc] 35)) (.cells (iv (List.replicate p.fs.length 0)) 3)
      simpa using this
    · rw [heap_alloc_old _ _ (by simp), heap_alloc_new]
  have hG := Lib.hid (KGo.start p.cs p.fs.length)
  have hfin : Hid (∀ ks, KGo p.cs p.fs.length p.fs.length 0 ks → ks = kindsL p) := Lib.hid fun ks h => h.fin
  replace h0 := Lib.hid h0
  obtain ⟨n, hpn⟩ : ∃ n, n = p.fs.length := ⟨_, rfl⟩
  rw [← hpn] at hmk hn hf1
  simp only [← hpn] at h0 hG hfin ⊢
  obtain ⟨kl, hkl⟩ : ∃ kl, kl = kindsL p := ⟨_, rfl⟩
  rw [← hkl]
  simp only [← hkl] at hfin
  clear hpn hkl
  go_enter Tryd.func20, Tryd.ntmps20
  go_wp2_with fail
  generalize hg : w.heap.size + 1 = g at h0 ⊢
  clear hg hmk
  go_loopw [4] (fun u wr => ∃ (i : Nat) (ks : List Int), i ≤ n ∧ u = .int .i64 i ∧ KGo p.cs n i 0 ks ∧ KW w g (.cells #[.slice oaf n capf, .slice oac p.cs.length capc] 35) ks wr) (fun u _ => n - (intOf u).toNat)
  case atStart => exact ⟨0, _, by omega, rfl, hG.out, h0.out⟩
  case round =>
    clear h0 hG
    obtain ⟨i, ks, hi, rfl, G, S⟩ := hrel
    have hG := Lib.hid G
    have hS := Lib.hid S
    have b0 : wr.cell? ⟨w.heap.size, 0, none⟩ = some (.slice oaf n capf) := by simp [World.cell?, S.box]
    clear G S
    by_cases hil : i < n
    · have t1 : decide ((i : Int) < n) = true := by simpa using hil
      obtain ⟨wo, hwo⟩ : ∃ wo, wo = wr := ⟨_, rfl⟩
      subst hwo
      go_wp2_with fail
      go_loopw [5] (fun u wr => ∃ (k : Nat) (ks : List Int), k ≤ p.cs.length ∧ u = .int .i64 k ∧ KGo p.cs n i k ks ∧ KW w g (.cells #[.slice oaf n capf, .slice oac p.cs.length capc] 35) ks wr) (fun u _ => p.cs.length - (intOf u).toNat)
      case atStart => exact ⟨0, ks, by omega, rfl, hG.out, hS.out⟩
      case round =>
        clear b0 hG hS
        obtain ⟨k, ks, hk, rfl, G, S⟩ := hrel
        have b0 : wr.cell? ⟨w.heap.size, 0, none⟩ = some (.slice oaf n capf) := by simp [World.cell?, S.box]
        have b1 : wr.cell? ⟨w.heap.size, 1, none⟩ = some (.slice oac p.cs.length capc) := by simp [World.cell?, S.box]
        have hlen : ks.length = n := G.len
        have hnow := G.now hil
        have hz : ∃ z, z = kvL i (p.cs.take k) := ⟨_, rfl⟩
        obtain ⟨z, hz⟩ := hz
        rw [← hz] at hnow
        have r0 : wr.cell? ⟨g, i, none⟩ = some (.int .i64 z) := by simp [World.cell?, S.row, iv, hnow]
        have f0 : wr.frozen? ⟨g, i, none⟩ = false := by simp [World.frozen?, S.row]
        have hgw := World.block_lt_of_cell? wr _ r0
        have hG := Lib.hid G
        have hS := Lib.hid S
        replace hz := Lib.hid hz
        by_cases hkl : k < p.cs.length
        · have t2 : decide ((k : Int) < p.cs.length) = true := by simpa using hkl
          obtain ⟨rfl, hbc⟩ := hc3.out (by omega)
          obtain ⟨c, hc⟩ : ∃ c, p.cs[k]? = some c := ⟨_, List.getElem?_eq_getElem hkl⟩
          obtain ⟨s, g0, g1, g2, g3, g4⟩ := hc4.out k c hc
          have HC := Lib.hid hc
          clear hc
          replace g1 := (S.below.cell (p := ⟨bc, offc + k * 5 + 1, none⟩) hbc).trans g1
          replace g2 := (S.below.cell (p := ⟨bc, offc + k * 5 + 2, none⟩) hbc).trans g2
          have hbcw : bc < wr.heap.size := Nat.lt_of_lt_of_le hbc S.below.size
          have n1 : bc ≠ g := by have := S.gl; omega
          have n2 : w.heap.size ≠ g := by have := S.gl; omega
          clear G S hnow g0 g3 g4
          have n3 : g ≠ bc := n1.symm
          have n4 : g ≠ w.heap.size := n2.symm
          by_cases h1 : c.re = i
          · have t3 : (c.re == (i : Int)) = true := by simpa using h1
            by_cases h2 : c.ca = i
            · have t4 : (c.ca == (i : Int)) = true := by simpa using h2
              by_cases h3 : z = 0
              · have t5 : (z == 0) = true := by simpa using h3
                replace h1 := Lib.hid h1
                replace h2 := Lib.hid h2
                replace h3 := Lib.hid h3
                go_wp2
                go_roundw
                case rel => exact ⟨k + 1, _, by omega, by go_num, hG.out.put hil c HC.out 1 (by rw [kv1, ← hz.out]; simp [h1.out]), by have := (hS.out.put i 2).put i 1; rwa [List.set_set] at this⟩
                case measure => simp [intOf]; omega
              · have t5 : (z == 0) = false := by simpa using h3
                replace h1 := Lib.hid h1
                replace h2 := Lib.hid h2
                replace h3 := Lib.hid h3
                go_wp2
                go_roundw
                case rel => exact ⟨k + 1, _, by omega, by go_num, hG.out.put hil c HC.out 1 (by rw [kv1, ← hz.out]; simp [h1.out]), hS.out.put i 1⟩
                case measure => simp [intOf]; omega
            · have t4 : (c.ca == (i : Int)) = false := by simpa using h2
              replace h1 := Lib.hid h1
              replace h2 := Lib.hid h2
              go_wp2
              go_roundw
              case rel => exact ⟨k + 1, _, by omega, by go_num, hG.out.put hil c HC.out 1 (by rw [kv1, ← hz.out]; simp [h1.out]), hS.out.put i 1⟩
              case measure => simp [intOf]; omega
          · have t3 : (c.re == (i : Int)) = false := by simpa using h1
            by_cases h2 : c.ca = i
            · have t4 : (c.ca == (i : Int)) = true := by simpa using h2
              by_cases h3 : z = 0
              · have t5 : (z == 0) = true := by simpa using h3
                replace h1 := Lib.hid h1
                replace h2 := Lib.hid h2
                replace h3 := Lib.hid h3
                go_wp2
                go_roundw
                case rel => exact ⟨k + 1, _, by omega, by go_num, hG.out.put hil c HC.out 2 (by rw [kv1, ← hz.out, if_neg h1.out, if_pos ⟨h2.out, h3.out⟩]), hS.out.put i 2⟩
                case measure => simp [intOf]; omega
              · have t5 : (z == 0) = false := by simpa using h3
                replace h1 := Lib.hid h1
                replace h2 := Lib.hid h2
                replace h3 := Lib.hid h3
                go_wp2
                go_roundw
                case rel => exact ⟨k + 1, _, by omega, by go_num, hG.out.same c HC.out (by rw [kv1, ← hz.out, if_neg h1.out, if_neg (fun h => h3.out h.2)]), hS.out⟩
                case measure => simp [intOf]; omega
            · have t4 : (c.ca == (i : Int)) = false := by simpa using h2
              replace h1 := Lib.hid h1
              replace h2 := Lib.hid h2
              go_wp2
              go_roundw
              case rel => exact ⟨k + 1, _, by omega, by go_num, hG.out.same c HC.out (by rw [kv1, ← hz.out, if_neg h1.out, if_neg (fun h => h2.out h.1)]), hS.out⟩
              case measure => simp [intOf]; omega
        · have t2 : decide ((k : Int) < p.cs.length) = false := by simpa using hkl
          obtain rfl : k = p.cs.length := by omega
          go_wp2
          go_roundw
          case rel => exact ⟨i + 1, ks, by omega, by go_num, hG.out.next hil, hS.out⟩
          case measure => simp [intOf]; omega
    · have t1 : decide ((i : Int) < n) = false := by simpa using hil
      obtain rfl : i = n := by omega
      obtain rfl := hfin.out ks hG.out
      have hI := Lib.hid (show IntsV wr (.slice (some ⟨g, 0, none⟩) i i) ks by
        have hl := hG.out.len
        refine ⟨some ⟨g, 0, none⟩, ks.length, g, 0, by rw [hl], Nat.le_refl _, by rw [hl]; unfold maxLen; omega, fun _ => ⟨rfl, (Array.getElem?_eq_some_iff.1 hS.out.row).1⟩, fun j z hz => by simp [World.cell?, hS.out.row, iv, hz]⟩)
      go_wp2
      go_ret
      exact ⟨_, rfl, hI.out, hS.out.below⟩
end Go.Proofs.YtobhfmliaecbjaaDoor
