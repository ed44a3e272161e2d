/-
  The beginning of the document's own marking, and its appends. No conditions: lemmas.
-/
import Derived.Test.YtobhfmliaecbjaaDoorRefB
import Derived.Test.YtobhfmliaecbjaaDoorAhead
import Derived.Deep.AppendSrc
namespace Go.Proofs.YtobhfmliaecbjaaDoor
open Go.RowKit

theorem info78 : (Tryd.prog.info? 78).map (fun i => (i.zero, i.size, i.bytes)) = some (some (.slice none 0 0), 1, 24) := by kernel_rfl
theorem make_rows (n : Nat) (h : n ≤ 65536) (w : World) : (Instr.makeSlice 77 (.int .i64 (n : Int)) (.int .i64 (n : Int))).run Tryd.prog w = .ok (.slice (some ⟨w.heap.size, 0, none⟩) n n) (w.alloc (.cells (Array.replicate n (.slice none 0 0)) 78)) := by
  rw [run_make_row' 77 78 (.slice none 0 0) 24 Tryd.underlying77 info78 rfl .i64 .i64 n (by omega) (by omega) w, made_one]
  simp
theorem make_mets (n : Nat) (h : n ≤ 65536) (w : World) : (Instr.makeSlice 78 (.int .i64 (n : Int)) (.int .i64 (n : Int))).run Tryd.prog w = .ok (.slice (some ⟨w.heap.size, 0, none⟩) n n) (w.alloc (.cells (Array.replicate n (.bool false)) 4)) := by
  rw [run_make_row' 78 4 (.bool false) 1 Tryd.underlying78 info4 rfl .i64 .i64 n (by omega) (by omega) w, made_one]
  simp
theorem make_16 (w : World) : (Instr.makeSlice 78 (.int .i64 16) (.int .i64 16)).run Tryd.prog w = .ok (.slice (some ⟨w.heap.size, 0, none⟩) 16 16) (w.alloc (.cells (Array.replicate 16 (.bool false)) 4)) := make_mets 16 (by decide) w

/-- the world ahead of the loops -/
def A3 (w : World) (n : Nat) (b : Bool) : World := ((w.alloc (.cells ((Array.replicate n (.slice none 0 0)).setIfInBounds 0 (.slice (some ⟨w.heap.size + 1 + 1, 0, none⟩) 16 16)) 78)).alloc (.cells ((Array.replicate n (.bool false)).setIfInBounds 0 (.bool true)) 4)).alloc (.cells ((Array.replicate 16 (.bool false)).setIfInBounds 0 (.bool b)) 4)

theorem addr_add0 (g j : Nat) : ((⟨g, 0, none⟩ : Addr).add j) = ⟨g, j, none⟩ := by unfold Addr.add; split <;> simp_all

set_option maxHeartbeats 2000000 in
theorem A3_at (w : World) (n : Nat) (hn : 0 < n) (b : Bool) : BAt w.heap.size w.heap.size (w.heap.size + 1) (A3 w n b) ((List.replicate n (.slice none 0 0)).set 0 (.slice (some ⟨w.heap.size + 1 + 1, 0, none⟩) 16 16)) ((List.replicate n none).set 0 (some (b :: List.replicate 15 false))) ∧ Below w.heap.size w (A3 w n b) := by
  have sz : ∀ (w : World) (o : Obj), (w.alloc o).heap.size = w.heap.size + 1 := fun w o => by simp
  have kA : (A3 w n b).heap[w.heap.size]? = some (.cells ((Array.replicate n (.slice none 0 0)).setIfInBounds 0 (.slice (some ⟨w.heap.size + 1 + 1, 0, none⟩) 16 16)) 78) := by
    unfold A3
    rw [heap_alloc_old _ _ (by simp only [sz]; omega), heap_alloc_old _ _ (by simp only [sz]; omega), heap_alloc_new]
  have kM : (A3 w n b).heap[w.heap.size + 1]? = some (.cells ((Array.replicate n (.bool false)).setIfInBounds 0 (.bool true)) 4) := by
    unfold A3
    rw [heap_alloc_old _ _ (by simp only [sz]; omega)]
    have := heap_alloc_new (w.alloc (.cells ((Array.replicate n (.slice none 0 0)).setIfInBounds 0 (.slice (some ⟨w.heap.size + 1 + 1, 0, none⟩) 16 16)) 78)) (.cells ((Array.replicate n (.bool false)).setIfInBounds 0 (.bool true)) 4)
    simpa only [sz] using this
  have kR : (A3 w n b).heap[w.heap.size + 1 + 1]? = some (.cells ((Array.replicate 16 (.bool false)).setIfInBounds 0 (.bool b)) 4) := by
    unfold A3
    have := heap_alloc_new ((w.alloc (.cells ((Array.replicate n (.slice none 0 0)).setIfInBounds 0 (.slice (some ⟨w.heap.size + 1 + 1, 0, none⟩) 16 16)) 78)).alloc (.cells ((Array.replicate n (.bool false)).setIfInBounds 0 (.bool true)) 4)) (.cells ((Array.replicate 16 (.bool false)).setIfInBounds 0 (.bool b)) 4)
    simpa only [sz] using this
  refine ⟨⟨?_, by simp, fun i hi => ?_, fun i l hl => ?_, ?_, Nat.le_refl _, by omega⟩, ?_⟩
  · rw [kA]
    congr 2
    apply Array.toList_inj.1
    simp
  · cases i with
    | zero =>
      rw [List.getElem?_set, if_pos rfl, if_pos (by simpa using hn)] at hi
      cases hi
    | succ i =>
      rw [List.getElem?_set, if_neg (by omega), List.getElem?_replicate] at hi ⊢
      split at hi
      · rw [if_pos (by assumption)]
      · cases hi
  · cases i with
    | zero =>
      rw [List.getElem?_set, if_pos rfl, if_pos (by simpa using hn)] at hl
      cases hl
      refine ⟨w.heap.size + 1 + 1, 16, by rw [List.getElem?_set, if_pos rfl, if_pos (by simpa using hn)], ?_, by omega, fun j v hj hv => ?_⟩
      · refine ⟨by simp, .inr ⟨_, 16, _, rfl, by omega, kR, by omega, by unfold maxLen; omega, by simp, ?_⟩⟩
        rw [Array.toList_setIfInBounds]
        simp [List.replicate]
      · rw [List.getElem?_set, if_neg (fun e => hj e.symm), List.getElem?_replicate] at hv
        split at hv
        · cases hv; simp [Value.ownBlock]
        · cases hv
    | succ i =>
      rw [List.getElem?_set, if_neg (by omega), List.getElem?_replicate] at hl
      split at hl <;> cases hl
  · rw [kM]
    congr 2
    apply Array.toList_inj.1
    simp [List.map_set, mtv]
  · unfold A3
    exact ((alloc_below _ _).alloc (by simp) _).alloc (by simp; omega) _

theorem row_base {w : World} {base base' e size n : Nat} {v : Value} {xs : List Value} (h : w.ownsRow base e size v n xs) (hb : base' ≤ base) : w.ownsRow base' e size v n xs := by
  refine ⟨h.1, ?_⟩
  rcases h.2 with hn | ⟨g, cap, cur, hv, hbb, rest⟩
  · exact .inl hn
  · exact .inr ⟨g, cap, cur, hv, by omega, rest⟩
theorem app_nil (oa : Option Addr) (c : Nat) (W : World) : (Builtin.append_ #[23, 23] 23 #[.slice none 0 0, .slice oa 0 c]).run Tryd.prog W = .ok (.slice none 0 0) W := by
  obtain ⟨i3, hi3, hz3, hs3, hb3⟩ := info_parts info3
  have hs : ∀ x : Value, Src Tryd.prog i3.size 23 x 0 [] W → (Builtin.append_ #[23, 23] 23 #[.slice none 0 0, x]).run Tryd.prog W = .ok (.slice none 0 0) W := fun x hs => by
    rcases hs.kind with ⟨e', hk⟩ | hk <;> simp [Builtin.append_, run_underlying Tryd.underlying23, sizeOf, typeInfo, hi3, hs.len, hs.cells]
  cases oa with
  | none => exact hs _ (Src.ofNil W Tryd.underlying23 c)
  | some a => exact hs _ (Src.ofSlice W Tryd.underlying23 a 0 c [] (by simp) (fun j u h => by simp at h) (fun u hu => by cases hu))

section
variable {B ga gm : Nat} {w w' : World} {vs : List Value} {st : Mb}
/-- the blocks of the marks are old -/
theorem BAt.old (h : BAt B ga gm w vs st) (j : Nat) (v : Value) (hv : vs[j]? = some v) (g : Nat) (hg : w.heap.size ≤ g) : v.ownBlock ≠ some g := by
  intro e
  have hjl : j < st.length := by rw [← h.len]; exact (List.getElem?_eq_some_iff.1 hv).1
  obtain ⟨o, ho⟩ : ∃ o, st[j]? = some o := ⟨_, List.getElem?_eq_getElem hjl⟩
  cases o with
  | none => rw [h.off j ho] at hv; cases hv; simp [Value.ownBlock] at e
  | some lj =>
    obtain ⟨g2, cap2, k1, k2, _⟩ := h.on j lj ho
    rw [k1] at hv
    cases hv
    have h5 : g2 = g := Option.some.inj e
    have := (row_cells k2).1
    omega
theorem BAt.out (h : BAt B ga gm w vs st) {go cap : Nat} {l : List Bool} (hB : B ≤ w.heap.size) (ho : w'.ownsRow w.heap.size 4 1 (.slice (some ⟨go, 0, none⟩) 16 cap) 16 (l.map Value.bool)) : OutAt B gm w' vs go cap l := by
  obtain ⟨_, hgo, _⟩ := row_cells ho
  have hm : gm < w.heap.size := (Array.getElem?_eq_some_iff.1 h.met).1
  exact ⟨row_base ho hB, by omega, fun j v hv => h.old j v hv go hgo⟩
/-- a bit of the row that is carried on is set -/
theorem BAt.setOut (h : BAt B ga gm w vs st) {go cap : Nat} {l : List Bool} (o : OutAt B gm w vs go cap l) (r : Nat) (b : Bool) :
    BAt B ga gm (w.setCell ⟨go, r, none⟩ (.bool b)) vs st ∧ OutAt B gm (w.setCell ⟨go, r, none⟩ (.bool b)) vs go cap (l.set r b) ∧ Below B w (w.setCell ⟨go, r, none⟩ (.bool b)) := by
  obtain ⟨hlt, hB, _, _, cur, hc⟩ := row_cells o.own
  have keep : ∀ k, k ≠ go → (w.setCell ⟨go, r, none⟩ (.bool b)).heap[k]? = w.heap[k]? := fun k hk => Below.heap_setCell w ⟨go, r, none⟩ _ k hk
  refine ⟨⟨(keep ga (bne h.rowA hc (by decide))).trans h.rowA, h.len, h.off, fun i l' hl => ?_, (keep gm (fun e => o.ne e.symm)).trans h.met, h.ba, h.bm⟩, ⟨?_, o.ne, o.apart⟩, ?_⟩
  · obtain ⟨g, cap2, h1, h2, h3⟩ := h.on i l' hl
    have hg : g ≠ go := fun e => o.apart i _ h1 (by rw [e]; rfl)
    exact ⟨g, cap2, h1, row_keep h2 (keep g hg), h3⟩
  · have := row_put2 o.own r (.bool b)
    rw [show (l.map Value.bool).set r (.bool b) = (l.set r b).map Value.bool by rw [List.map_set]] at this
    exact this
  · exact ⟨rfl, rfl, rfl, by simp [World.setCell], fun k hk => keep k (by omega)⟩
end
end Go.Proofs.YtobhfmliaecbjaaDoor
