/-
  Graph: what newFlow's loops keep. No conditions: laws alone.
-/
import Derived.Test.YtfpdecjlfnambaaGRows
import Derived.Test.YtfpdecjlfnambaaGChg
namespace Go.Proofs.Ytfpdecjlfnambaa
open Go Go.RowKit

/-- A state with one row's turned. -/
def updF (F : Nat → List Bool) (x : Nat) (st : List Bool) : Nat → List Bool := fun i => if i = x then st else F i
theorem Mat.put {w : World} {bm : Nat} {c : List Bool} {n : Nat} {R : Nat → Nat} {F : Nat → List Bool} (h : Mat w bm c n R F) {r : Nat} {o : Obj} (o' : Obj) (hr : w.heap[r]? = some o) (ho : o.isCells = false) : Mat (w.putObj r o') bm c n R F :=
  ⟨h.rows.put o' hr ho, fun i hi => ⟨(h.row i hi).1, (h.row i hi).2.put o' hr ho⟩⟩
theorem Mat.shut {w : World} {bm : Nat} {c : List Bool} {n : Nat} {R : Nat → Nat} {F : Nat → List Bool} {ds : List Nat} (h : Mat w bm c n R F) (hd : ∀ D ∈ ds, ∃ o, w.heap[D]? = some o ∧ o.isCells = false) : Mat (shutAll w ds) bm c n R F :=
  ⟨h.rows.shut hd, fun i hi => ⟨(h.row i hi).1, (h.row i hi).2.shut hd⟩⟩
theorem Mat.kep {M : Nat → Prop} {w w' : World} {bm : Nat} {c : List Bool} {n : Nat} {R : Nat → Nat} {F : Nat → List Bool} (h : Mat w bm c n R F) (hk : Kep M w w') (h1 : ¬ M bm) (h2 : ∀ i ∈ ones c, ¬ M (R i)) : Mat w' bm c n R F :=
  ⟨h.rows.kep hk h1, fun i hi => ⟨(h.row i hi).1, (h.row i hi).2.kep hk (h2 i hi)⟩⟩
theorem Mat.below {w w' : World} {bm : Nat} {c : List Bool} {n : Nat} {R : Nat → Nat} {F : Nat → List Bool} (h : Mat w bm c n R F) (hB : Below w.heap.size w w') : Mat w' bm c n R F :=
  h.of (hB.block _ h.rows.lt) (fun i hi => hB.block _ (h.row i hi).2.lt)
theorem Mat.upd {w w' : World} {bm : Nat} {c : List Bool} {n : Nat} {R : Nat → Nat} {F : Nat → List Bool} (h : Mat w bm c n R F) {x : Nat} {st : List Bool} (hx : x ∈ ones c) (hk : Kep (fun k => k = R x) w w') (hb : Bx w' (R x) 4 (bC st)) (hst : st.length = n)
    (hinj : ∀ i ∈ ones c, ∀ j ∈ ones c, R i = R j → i = j) : Mat w' bm c n R (updF F x st) := by
  refine ⟨h.rows.kep hk (fun e => bx_ne h.rows (h.row x hx).2 (by decide) e), fun i hi => ?_⟩
  by_cases e : i = x
  · subst e
    simp only [updF, if_pos rfl]
    exact ⟨hst, hb⟩
  · simp only [updF, if_neg e]
    exact ⟨(h.row i hi).1, (h.row i hi).2.kep hk (fun e' => e (hinj i hi x hx e'))⟩
theorem Mat.congr {w : World} {bm : Nat} {c : List Bool} {n : Nat} {R : Nat → Nat} {F F' : Nat → List Bool} (h : Mat w bm c n R F) (he : ∀ i ∈ ones c, F i = F' i) : Mat w bm c n R F' :=
  ⟨h.rows, fun i hi => he i hi ▸ h.row i hi⟩
theorem ChAt.keep {M : Nat → Prop} {w w' : World} {base m : Nat} {rl : Key3 → List Int} {l : KL} {rv : Key3 → Value} (h : ChAt w base m rl l rv) (hk : Kep M w w') (hM : ∀ k, M k → w.heap.size ≤ k ∨ ∃ t cs, Bx w k t cs ∧ t ≠ 3) : ChAt w' base m rl l rv := by
  obtain ⟨es, ck, hm1, hm2⟩ := h.map
  refine ⟨h.map.of (hk.same m h.map.lt (fun hm => ?_)), h.look, fun x => own_kep (h.row x) hk (fun g hg hm => ?_), h.apart⟩
  · have hlt := h.map.lt
    rcases hM m hm with h1 | ⟨t, cs, h1, h2⟩
    · omega
    · rw [Bx, hm1] at h1
      cases h1
  · have hlt := (own_lt (h.row x) hg).1
    rcases hM g hm with h1 | ⟨t, cs, h1, h2⟩
    · omega
    · exact own_ne (h.row x) h1 (fun cs fr e => by cases e; exact h2 rfl) hg

/-- What a block's steps make of a state. -/
def runB (g : Gb) (n : Nat) (C : List Chg) (i : Nat) (L : List Nat) (st : List Bool) : List Bool := L.foldl (fun s (p : Nat) => hapF (rlF g n C ((i : Int), (p : Int), true)) (rlF g n C ((i : Int), (p : Int), false)) s) st
theorem hapF_len (G K : List Int) (st : List Bool) : (hapF G K st).length = st.length := by simp only [hapF, setsF_len]
theorem runB_len (g : Gb) (n : Nat) (C : List Chg) (i : Nat) : ∀ (L : List Nat) (st : List Bool), (runB g n C i L st).length = st.length
  | [], st => rfl
  | p :: L, st => by
    have e : runB g n C i (p :: L) st = runB g n C i L (hapF (rlF g n C ((i : Int), (p : Int), true)) (rlF g n C ((i : Int), (p : Int), false)) st) := rfl
    rw [e, runB_len g n C i L, hapF_len]
theorem runB_take (g : Gb) (n : Nat) (C : List Chg) (i : Nat) {L : List Nat} {k : Nat} (h : k < L.length) (st : List Bool) : runB g n C i (L.take (k + 1)) st = hapF (rlF g n C ((i : Int), (L[k] : Int), true)) (rlF g n C ((i : Int), (L[k] : Int), false)) (runB g n C i (L.take k) st) := by
  rw [List.take_add_one, List.getElem?_eq_getElem h, runB, List.foldl_append]
  rfl
theorem rlF_bound (g : Gb) (n : Nat) (C : List Chg) (x : Key3) : ∀ t ∈ rlF g n C x, 0 ≤ t ∧ t < n := by
  intro t ht
  rw [rlF, List.mem_flatMap] at ht
  obtain ⟨c, -, hc⟩ := ht
  split at hc
  · rw [okF, List.mem_filter] at hc
    have := hc.2
    simp [isPl] at this
    exact this
  · simp at hc
theorem ChAt.happen {w W : World} {base m : Nat} {g : Gb} {n : Nat} {C : List Chg} {l : KL} {rv : Key3 → Value} (h : ChAt W base m (rlF g n C) l rv) (hcs : CSmall C) (hn : n ≤ 1000) (i p r : Nat) (st : List Bool) (hst : st.length = n) (hr : Bx W r 4 (bC st)) :
    Calls Try.prog 46 #[.map (some m), .agg #[.int .i64 (i : Int), .int .i64 (p : Int)], .slice (some ⟨r, 0, none⟩) n n] W fun e w' => (∃ v, e = .returned v) ∧ Kep (fun k => k = r) W w' ∧ Bx w' r 4 (bC (hapF (rlF g n C ((i : Int), (p : Int), true)) (rlF g n C ((i : Int), (p : Int), false)) st)) := by
  have hb : ∀ x, (rlF g n C x).length ≤ 1000000 := fun x => by
    have := rlF_len g n C x hcs.2
    have := hcs.1
    omega
  exact happen_any m l (i : Int) (p : Int) _ _ _ _ r n st W h.map (h.look _ _) (h.row _).grow (h.row _).grow (rlF_bound g n C _) (rlF_bound g n C _) hn (hb _) (hb _) hst hr

theorem ChAt.happenX {w W : World} {base m : Nat} {g : Gb} {n : Nat} {C : List Chg} {l : KL} {rv : Key3 → Value} (h : ChAt W base m (rlF g n C) l rv) (hcs : CSmall C) (hn : n ≤ 1000) (i p r cp : Nat) (ex : List Value) (st : List Bool) (hst : st.length = n) (hr : Bx W r 4 (bC st ++ ex)) :
    Calls Try.prog 46 #[.map (some m), .agg #[.int .i64 (i : Int), .int .i64 (p : Int)], .slice (some ⟨r, 0, none⟩) n cp] W fun e w' => (∃ v, e = .returned v) ∧ Kep (fun k => k = r) W w' ∧ Bx w' r 4 (bC (hapF (rlF g n C ((i : Int), (p : Int), true)) (rlF g n C ((i : Int), (p : Int), false)) st) ++ ex) := by
  have hb : ∀ x, (rlF g n C x).length ≤ 1000000 := fun x => by
    have := rlF_len g n C x hcs.2
    have := hcs.1
    omega
  exact happenX_any m l (i : Int) (p : Int) _ _ _ _ r n cp ex st W h.map (h.look _ _) (h.row _).grow (h.row _).grow (rlF_bound g n C _) (rlF_bound g n C _) hn (hb _) (hb _) hst hr


/-- What the blocks among the first k make of a state; the others' are not begun. -/
def begF (g : Gb) (n : Nat) (C : List Chg) (back : Bool) (c : List Bool) (k : Nat) (v : Bool) (i : Nat) : List Bool := if i ∈ (ones c).take k then runB g n C i (alongL back (insR g i)) (List.replicate n v) else List.replicate n v
/-- And all of them. -/
def allF (g : Gb) (n : Nat) (C : List Chg) (back : Bool) (v : Bool) (i : Nat) : List Bool := runB g n C i (alongL back (insR g i)) (List.replicate n v)
theorem begF_zero (g : Gb) (n : Nat) (C : List Chg) (back : Bool) (c : List Bool) (v : Bool) : begF g n C back c 0 v = fun _ => List.replicate n v := by
  funext i
  simp [begF]
theorem begF_all (g : Gb) (n : Nat) (C : List Chg) (back : Bool) (c : List Bool) (v : Bool) {i : Nat} (hi : i ∈ ones c) : begF g n C back c (ones c).length v i = allF g n C back v i := by
  rw [begF, List.take_length, if_pos hi, allF]
theorem begF_at (g : Gb) (n : Nat) (C : List Chg) (back : Bool) (c : List Bool) (v : Bool) {k : Nat} (hk : k < (ones c).length) : begF g n C back c k v (ones c)[k] = List.replicate n v := by
  rw [begF, if_neg (not_mem_take (ones_nodup c) hk)]
theorem begF_succ (g : Gb) (n : Nat) (C : List Chg) (back : Bool) (c : List Bool) (v : Bool) {k : Nat} (hk : k < (ones c).length) (i : Nat) :
    updF (begF g n C back c k v) (ones c)[k] (runB g n C (ones c)[k] ((alongL back (insR g (ones c)[k])).take (alongL back (insR g (ones c)[k])).length) (List.replicate n v)) i = begF g n C back c (k + 1) v i := by
  rw [List.take_length]
  by_cases e : i = (ones c)[k]
  · subst e
    rw [updF, if_pos rfl, begF, if_pos ((mem_take_succ hk _).2 (.inr rfl))]
  · rw [updF, if_neg e, begF, begF]
    by_cases h : i ∈ (ones c).take k
    · rw [if_pos h, if_pos ((mem_take_succ hk _).2 (.inl h))]
    · rw [if_neg h, if_neg (fun h' => ((mem_take_succ hk _).1 h').elim h e)]
theorem updF_zero (F : Nat → List Bool) (x : Nat) : updF F x (F x) = F := by
  funext i
  by_cases e : i = x
  · subst e
    simp [updF]
  · simp [updF, e]
theorem updF_upd (F : Nat → List Bool) (x : Nat) (a b : List Bool) : updF (updF F x a) x b = updF F x b := by
  funext i
  by_cases e : i = x
  · simp [updF, e]
  · simp [updF, e]

/-- A flow that newFlow made. -/
structure NewAt (w w' : World) (f m base bn ba : Nat) (Rn Ra : Nat → Nat) (l : KL) (rv : Key3 → Value) (B : Bv) (n : Nat) (C : List Chg) (bc capc : Nat) (c : List Bool) (back : Bool) (fi : Value) (N A : Nat → List Bool) : Prop where
  flow : Bx w' f 79 (flC m B n (.slice (some ⟨bc, 0, none⟩) c.length capc) back fi (.slice (some ⟨bn, 0, none⟩) c.length c.length) (.slice (some ⟨ba, 0, none⟩) c.length c.length))
  ch : ChAt w' base m (rlF B.g n C) l rv
  mn : Mat w' bn c n Rn N
  ma : Mat w' ba c n Ra A
  ge : w.heap.size ≤ f ∧ w.heap.size ≤ m ∧ w.heap.size ≤ bn ∧ w.heap.size ≤ ba
  geR : ∀ i ∈ ones c, w.heap.size ≤ Rn i ∧ w.heap.size ≤ Ra i
  injN : ∀ i ∈ ones c, ∀ j ∈ ones c, Rn i = Rn j → i = j
  injA : ∀ i ∈ ones c, ∀ j ∈ ones c, Ra i = Ra j → i = j
  apart : ∀ i ∈ ones c, ∀ j ∈ ones c, Rn i ≠ Ra j
  two : bn ≠ ba
  bel : Below w.heap.size w w'
/-- What newFlow comes to. -/
def NewF (w w' : World) (f : Nat) (B : Bv) (n : Nat) (C : List Chg) (bc capc : Nat) (c : List Bool) (back : Bool) (fi : Value) : Prop :=
  ∃ m base bn ba Rn Ra l rv, NewAt w w' f m base bn ba Rn Ra l rv B n C bc capc c back fi (allF B.g n C back false) (allF B.g n C back true)
end Go.Proofs.Ytfpdecjlfnambaa
