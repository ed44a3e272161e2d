/-
  Graph: a map keyed by steps. No conditions: laws alone.
-/
import Derived.Test.YtfpdecjlfnambaaGMake
import Derived.MapKept
namespace Go.Proofs.Ytfpdecjlfnambaa
open Go Go.RowKit

/-- A step as a key. -/
def keyV (b s : Int) : Value := .agg #[.int .i64 b, .int .i64 s]

theorem flds : (Try.prog.fieldsOf 100).toList.map (fun f => (f.name, f.type, f.offset)) = [("block", 3, 0), ("place", 3, 1)] := by kernel_rfl
set_option maxHeartbeats 1000000 in
theorem eq_key (b s c t : Int) (w : World) : (Op.equal 100 (keyV b s) (keyV c t)).run Try.prog w = .ok (b == c && s == t) w := by
  unfold Op.equal Op.maxDepth keyV
  rw [run_equalIn_struct w 9999 _ _ _ (by kernel_rfl) (by kernel_rfl)]
  have hf := flds
  generalize (Try.prog.fieldsOf 100).toList = fs at hf ⊢
  rcases fs with _ | ⟨f1, _ | ⟨f2, _ | ⟨f3, fs⟩⟩⟩ <;> simp at hf
  obtain ⟨⟨h1, h2, h3⟩, h4, h5, h6⟩ := hf
  have u := Try.underlying3
  simp [Op.eqFields, go_sem, h1, h2, h3, h4, h5, h6, u]
  by_cases e1 : b = c
  · by_cases e2 : s = t
    · simp [e1, e2]
    · simp [e1, e2]
  · simp [e1]

abbrev KL := List ((Int × Int) × Value)
def lkI : KL → Int → Int → Nat → Option (Nat × Value)
  | [], _, _, _ => none
  | (k, v) :: l, b, s, i => if b = k.1 ∧ s = k.2 then some (i, v) else lkI l b s (i + 1)
def putL : KL → Int → Int → Value → KL
  | [], b, s, v => [((b, s), v)]
  | (k, x) :: l, b, s, v => if b = k.1 ∧ s = k.2 then (k, v) :: l else (k, x) :: putL l b s v
abbrev zeroC : Value := .agg #[.slice none 0 0, .slice none 0 0]
def lkV (l : KL) (b s : Int) : Value := ((lkI l b s 0).map (·.2)).getD zeroC
theorem lkI_val : ∀ (l : KL) (b s : Int) (i j : Nat), (lkI l b s i).map (·.2) = (lkI l b s j).map (·.2)
  | [], _, _, _, _ => rfl
  | (k, v) :: l, b, s, i, j => by
    simp only [lkI]
    split
    · rfl
    · exact lkI_val l b s _ _
theorem lkV_cons (k : Int × Int) (v : Value) (l : KL) (b s : Int) : lkV ((k, v) :: l) b s = if b = k.1 ∧ s = k.2 then v else lkV l b s := by
  simp only [lkV, lkI]
  split
  · rfl
  · rw [lkI_val l b s _ 0]
theorem lkV_put : ∀ (l : KL) (b s : Int) (v : Value) (c t : Int), lkV (putL l b s v) c t = if c = b ∧ t = s then v else lkV l c t
  | [], b, s, v, c, t => by simp only [putL, lkV_cons]
  | (k, x) :: l, b, s, v, c, t => by
    simp only [putL]
    by_cases h : b = k.1 ∧ s = k.2
    · rw [if_pos h, lkV_cons, lkV_cons, h.1, h.2]
      split <;> rfl
    · rw [if_neg h, lkV_cons, lkV_cons, lkV_put l b s v c t]
      by_cases h2 : c = k.1 ∧ t = k.2
      · rw [if_pos h2, if_pos h2, if_neg (fun e => h ⟨e.1.symm.trans h2.1, e.2.symm.trans h2.2⟩)]
      · rw [if_neg h2, if_neg h2]

abbrev kv (e : MapEntry) : Value × Value := (e.key, e.val)
abbrev kp (p : (Int × Int) × Value) : Value × Value := (keyV p.1.1 p.1.2, p.2)
/-- Block m is a map of these entries. -/
def MapAt (w : World) (m : Nat) (l : KL) : Prop := ∃ es clock, w.heap[m]? = some (.map es clock) ∧ es.toList.map kv = l.map kp
theorem MapAt.of {w w' : World} {m : Nat} {l : KL} (h : MapAt w m l) (he : w'.heap[m]? = w.heap[m]?) : MapAt w' m l := by
  obtain ⟨es, clock, h1, h2⟩ := h
  exact ⟨es, clock, he.trans h1, h2⟩
theorem MapAt.lt {w : World} {m : Nat} {l : KL} (h : MapAt w m l) : m < w.heap.size := by
  obtain ⟨es, clock, h1, h2⟩ := h
  exact (Array.getElem?_eq_some_iff.1 h1).1

theorem find_run (b s : Int) (w : World) : ∀ (es : List MapEntry) (l : KL) (i : Nat), es.map kv = l.map kp → (Instr.findAsking 100 (keyV b s) es i).run Try.prog w = .ok (lkI l b s i) w
  | [], [], _, _ => rfl
  | [], _ :: _, _, h => by cases h
  | _ :: _, [], _, h => by cases h
  | e :: es, (k, v) :: l, i, h => by
    simp only [List.map_cons, List.cons.injEq, Prod.mk.injEq] at h
    obtain ⟨⟨h1, h2⟩, h3⟩ := h
    simp only [Instr.findAsking, Sem.run_bind, h1, eq_key, Result.andThen_ok, lkI]
    by_cases hk : b = k.1 ∧ s = k.2
    · rw [if_pos hk]
      simp [hk.1, hk.2, h2]
    · rw [if_neg hk]
      have : (b == k.1 && s == k.2) = false := by
        by_cases e1 : b = k.1
        · have e2 : s ≠ k.2 := fun e2 => hk ⟨e1, e2⟩
          simp [e2]
        · simp [e1]
      simp only [this, Bool.false_eq_true, if_false]
      exact find_run b s w es l (i + 1) h3

theorem und_step : Try.prog.underlying 100 = some (.struct (Try.prog.fieldsOf 100)) := by kernel_rfl
theorem find_any (b s : Int) (w : World) (es : List MapEntry) (l : KL) (h : es.map kv = l.map kp) : (Instr.findKey 100 (keyV b s) es).run Try.prog w = .ok (lkI l b s 0) w := by
  unfold Instr.findKey
  simp only [Sem.run_bind, run_underlying und_step, Result.andThen_ok]
  match es, l, h with
  | [], [], _ => rfl
  | e :: es, (k, v) :: l, h =>
    have : Instr.findNow (.struct (Try.prog.fieldsOf 100)) (keyV b s) (e :: es) 0 = none := by
      have h1 : e.key = keyV k.1 k.2 := by
        simp only [List.map_cons, List.cons.injEq, Prod.mk.injEq] at h
        exact h.1.1
      simp [Instr.findNow, Instr.sameNow, h1, keyV]
    rw [this]
    exact find_run b s w _ _ 0 h

theorem check_any (e : Bool) (b s : Int) (w : World) : (Instr.checkKey e 10000 100 (keyV b s)).run Try.prog w = .ok () w := by
  have h1 : ∀ n (z : Int) (w : World), (Instr.checkKey e (n + 1) 3 (.int .i64 z)).run Try.prog w = .ok () w := fun n z w => by
    simp [Instr.checkKey, run_underlying Try.underlying3, Result.andThen]
  rw [show (10000 : Nat) = 9998 + 1 + 1 from rfl]
  unfold Instr.checkKey
  simp only [Sem.run_bind, run_underlying und_step, Result.andThen_ok, keyV]
  rw [← Array.forIn_toList]
  have hf := flds
  generalize (Try.prog.fieldsOf 100).toList = fs at hf ⊢
  rcases fs with _ | ⟨f1, _ | ⟨f2, _ | ⟨f3, fs⟩⟩⟩ <;> simp at hf
  obtain ⟨⟨h1, h2, h3⟩, h4, h5, h6⟩ := hf
  have u := Try.underlying3
  simp [go_sem, *]

theorem und_changes : Try.prog.underlying 77 = some (.map 100 112) := by kernel_rfl
theorem zero_change (w : World) : (zeroValue 112).run Try.prog w = .ok zeroC w := by kernel_rfl
theorem run_look (m : Nat) (l : KL) (b s : Int) (w : World) (h : MapAt w m l) : (Instr.lookup 77 (.map (some m)) (keyV b s) false).run Try.prog w = .ok (lkV l b s) w := by
  obtain ⟨es, clock, h1, h2⟩ := h
  unfold Instr.lookup
  simp only [Sem.run_bind, run_underlying und_changes, Result.andThen_ok, MapKept.run_getObj_map h1, Sem.run_pure, check_any, find_any b s w _ l h2]
  unfold lkV
  cases lkI l b s 0 with
  | none => simp [zero_change, Result.andThen]
  | some p => simp [Result.andThen]

theorem bits_key (b s : Int) : Instr.sameBits 10000 (keyV b s) (keyV b s) = true := by
  rw [show (10000 : Nat) = 9998 + 1 + 1 from rfl]
  simp [Instr.sameBits, keyV]

theorem lkI_none : ∀ (l : KL) (b s : Int) (i : Nat) (v : Value), lkI l b s i = none → putL l b s v = l ++ [((b, s), v)]
  | [], _, _, _, _, _ => rfl
  | (k, x) :: l, b, s, i, v, h => by
    simp only [lkI] at h
    split at h
    · cases h
    · rename_i hk
      simp only [putL, if_neg hk, lkI_none l b s _ v h]
      rfl
theorem lkI_some : ∀ (l : KL) (b s : Int) (i : Nat) (v : Value) (p : Nat × Value), lkI l b s i = some p → ∃ j, p.1 = i + j ∧ ∃ h : j < l.length, l[j].1 = (b, s) ∧ putL l b s v = l.set j ((b, s), v)
  | [], _, _, _, _, _, h => by cases h
  | (k, x) :: l, b, s, i, v, p, h => by
    simp only [lkI] at h
    split at h
    · rename_i hk
      cases h
      obtain ⟨k1, k2⟩ := k
      obtain ⟨rfl, rfl⟩ := hk
      exact ⟨0, rfl, by simp, rfl, by simp [putL]⟩
    · rename_i hk
      obtain ⟨j, h1, h2, h3, h4⟩ := lkI_some l b s _ v p h
      refine ⟨j + 1, by omega, by simpa using h2, by simpa using h3, ?_⟩
      simp only [putL, if_neg hk, h4, List.set_cons_succ]

theorem run_update (m : Nat) (l : KL) (b s : Int) (v : Value) (w : World) (h : MapAt w m l) :
    ∃ o, (Instr.mapUpdate 77 (.map (some m)) (keyV b s) v).run Try.prog w = .ok () (w.putObj m o) ∧ MapAt (w.putObj m o) m (putL l b s v) := by
  have hlt := h.lt
  obtain ⟨es, clock, h1, h2⟩ := h
  cases hk : lkI l b s 0 with
  | none =>
    refine ⟨.map (es.push { key := keyV b s, val := v, born := clock }) (clock + 1), ?_, _, _, World.putObj_heap_same hlt, ?_⟩
    · unfold Instr.mapUpdate
      simp only [Sem.run_bind, run_underlying und_changes, Result.andThen_ok, MapKept.run_getObj_map h1, check_any, find_any b s w _ l h2, hk]
      rw [MapKept.run_setObj_map _ h1]
      rfl
    · rw [lkI_none l b s 0 v hk]
      simp [h2]
  | some p =>
    obtain ⟨j, hj, hjl, hkey, hput⟩ := lkI_some l b s 0 v p hk
    obtain ⟨i, x⟩ := p
    simp only [Nat.zero_add] at hj
    subst hj
    have hlen : es.toList.length = l.length := by simpa using congrArg List.length h2
    have hie : i < es.size := by rw [← Array.length_toList, hlen]; exact hjl
    have hek : es[i].key = keyV b s := by
      have e1 : (es.toList.map kv)[i]? = (l.map kp)[i]? := by rw [h2]
      simp only [List.getElem?_map, List.getElem?_eq_getElem hjl, Array.getElem?_toList, Array.getElem?_eq_getElem hie, Option.map_some, Option.some.injEq, Prod.mk.injEq, hkey] at e1
      exact e1.1
    refine ⟨.map (es.modify i fun e => { e with key := keyV b s, val := v }) clock, ?_, _, _, World.putObj_heap_same hlt, ?_⟩
    · unfold Instr.mapUpdate
      simp only [Sem.run_bind, run_underlying und_changes, Result.andThen_ok, MapKept.run_getObj_map h1, check_any, find_any b s w _ l h2, hk, Array.getElem?_eq_getElem hie, Option.map_some, Option.getD_some, hek]
      unfold Instr.keyThatStays
      simp only [bits_key, if_true, Sem.run_pure, Result.andThen_ok]
      rw [MapKept.run_setObj_map _ h1]
      rfl
    · rw [hput]
      apply List.ext_getElem?
      intro q
      simp only [List.getElem?_map, Array.getElem?_toList, Array.getElem?_modify, List.getElem?_set]
      have e1 : (es.toList.map kv)[q]? = (l.map kp)[q]? := by rw [h2]
      simp only [List.getElem?_map, Array.getElem?_toList] at e1
      by_cases hq : i = q
      · subst hq
        rw [if_pos rfl, if_pos rfl, if_pos hjl, Array.getElem?_eq_getElem hie]
        rfl
      · rw [if_neg hq, if_neg hq]
        exact e1

end Go.Proofs.Ytfpdecjlfnambaa
