/-
  Graph: rows of states as they lie, slices.Clone of a state, an append as one operation. No conditions: laws alone.
-/
import Derived.Test.YtfpdecjlfnambaaGNewP
import Derived.Test.YtfpdecjlfnambaaShelf
import Derived.Maps.AppendAt
import Derived.Sort.Row
namespace Go.Proofs.Ytfpdecjlfnambaa
open Go Go.RowKit

/-- A row of bools, as it is read. -/
def BRow (w : World) (v : Value) (st : List Bool) : Prop := ∃ r cap ex, v = .slice (some ⟨r, 0, none⟩) st.length cap ∧ Bx w r 4 (bC st ++ ex)
/-- A row of such rows. -/
def RRow (w : World) (u : Value) (S : List (List Bool)) : Prop :=
  ∃ g cap vs ex, u = .slice (some ⟨g, 0, none⟩) S.length cap ∧ Bx w g 26 (vs ++ ex) ∧ vs.length = S.length ∧ ∀ j, j < S.length → ∃ v, vs[j]? = some v ∧ BRow w v (S[j]?.getD [])
/-- What may be turned without a row of states being turned. -/
def Far (w : World) (M : Nat → Prop) : Prop := ∀ b, M b → w.heap.size ≤ b ∨ ∃ t cs, Bx w b t cs ∧ t ≠ 4 ∧ t ≠ 26
theorem BRow.kep {M : Nat → Prop} {w w' : World} {v : Value} {st : List Bool} (h : BRow w v st) (hk : Kep M w w') (hM : ∀ r n c, v = .slice (some ⟨r, 0, none⟩) n c → ¬ M r) : BRow w' v st := by
  obtain ⟨r, cap, ex, rfl, hb⟩ := h
  exact ⟨r, cap, ex, rfl, hb.kep hk (hM r _ _ rfl)⟩
theorem Far.bool {w : World} {M : Nat → Prop} (h : Far w M) {r : Nat} {l : List Value} (hb : Bx w r 4 l) : ¬ M r := fun hm => by
  have := hb.lt
  rcases h r hm with h1 | ⟨t, cs, h1, h2, h3⟩
  · omega
  · exact bx_ne hb h1 (fun e => h2 e.symm) rfl
theorem Far.rows {w : World} {M : Nat → Prop} (h : Far w M) {r : Nat} {l : List Value} (hb : Bx w r 26 l) : ¬ M r := fun hm => by
  have := hb.lt
  rcases h r hm with h1 | ⟨t, cs, h1, h2, h3⟩
  · omega
  · exact bx_ne hb h1 (fun e => h3 e.symm) rfl
theorem BRow.far {M : Nat → Prop} {w w' : World} {v : Value} {st : List Bool} (h : BRow w v st) (hk : Kep M w w') (hM : Far w M) : BRow w' v st := by
  obtain ⟨r, cap, ex, rfl, hb⟩ := h
  exact ⟨r, cap, ex, rfl, hb.kep hk (hM.bool hb)⟩
theorem RRow.far {M : Nat → Prop} {w w' : World} {u : Value} {S : List (List Bool)} (h : RRow w u S) (hk : Kep M w w') (hM : Far w M) : RRow w' u S := by
  obtain ⟨g, cap, vs, ex, rfl, hb, hl, hv⟩ := h
  exact ⟨g, cap, vs, ex, rfl, hb.kep hk (hM.rows hb), hl, fun j hj => by
    obtain ⟨v, h1, h2⟩ := hv j hj
    exact ⟨v, h1, h2.far hk hM⟩⟩
theorem Far.none {w : World} : Far w (fun _ => False) := fun _ h => h.elim
theorem BRow.put {w : World} {v : Value} {st : List Bool} (h : BRow w v st) {r : Nat} {o : Obj} (o' : Obj) (hr : w.heap[r]? = some o) (ho : o.isCells = false) : BRow (w.putObj r o') v st := by
  obtain ⟨r', cap, ex, rfl, hb⟩ := h
  exact ⟨r', cap, ex, rfl, hb.put o' hr ho⟩
theorem RRow.put {w : World} {u : Value} {S : List (List Bool)} (h : RRow w u S) {r : Nat} {o : Obj} (o' : Obj) (hr : w.heap[r]? = some o) (ho : o.isCells = false) : RRow (w.putObj r o') u S := by
  obtain ⟨g, cap, vs, ex, rfl, hb, hl, hv⟩ := h
  exact ⟨g, cap, vs, ex, rfl, hb.put o' hr ho, hl, fun j hj => by
    obtain ⟨v, h1, h2⟩ := hv j hj
    exact ⟨v, h1, h2.put o' hr ho⟩⟩
theorem RRow.shut {w : World} {u : Value} {S : List (List Bool)} {ds : List Nat} (h : RRow w u S) (hd : ∀ D ∈ ds, ∃ o, w.heap[D]? = some o ∧ o.isCells = false) : RRow (shutAll w ds) u S := by
  obtain ⟨g, cap, vs, ex, rfl, hb, hl, hv⟩ := h
  exact ⟨g, cap, vs, ex, rfl, hb.shut hd, hl, fun j hj => by
    obtain ⟨v, h1, r', cap', ex', h2, h3⟩ := hv j hj
    exact ⟨v, h1, r', cap', ex', h2, h3.shut hd⟩⟩
/-- An owned row is a block. -/
theorem own_bx {w : World} {base e n : Nat} {v : Value} {xs : List Value} (h : w.ownsRow base e 1 v n xs) (hv : v ≠ .slice none 0 0) : ∃ g cap ex, v = .slice (some ⟨g, 0, none⟩) n cap ∧ base ≤ g ∧ Bx w g e (xs ++ ex) ∧ n ≤ cap := by
  rcases h.2 with ⟨h1, -⟩ | ⟨g, cap, cur, rfl, hb, hg, h1, h2, h3, h4⟩
  · exact absurd h1 hv
  · refine ⟨g, cap, cur.toList.drop n, rfl, hb, ?_, h1⟩
    have e1 : xs ++ cur.toList.drop n = cur.toList := by
      have h4' : cur.toList.take n = xs := by simpa using h4
      rw [← h4', List.take_append_drop]
    rw [e1, Bx]
    simpa using hg
theorem sizeB (w : World) : (Go.sizeOf 4).run Try.prog w = .ok 1 w := by
  simp [Go.sizeOf, go_sem]
  kernel_rfl
theorem clone_any (r cap : Nat) (ex : List Value) (st : List Bool) (n : Nat) (w : World) (hn : n = st.length) (h : Bx w r 4 (bC st ++ ex)) (hst : n ≤ 1000) : Calls Try.prog 51 #[.slice (some ⟨r, 0, none⟩) n cap] w fun e w' =>
    ∃ r' cap' ex', e = .returned (.slice (some ⟨r', 0, none⟩) n cap') ∧ w.heap.size ≤ r' ∧ Below w.heap.size w w' ∧ Bx w' r' 4 (bC st ++ ex') := by
  subst hn
  obtain ⟨i, hi1, hi2, hi3, hi4⟩ := info_parts infoBool
  refine (Try.slices_Clone i _ 1 1 hi1 hi2 hi3 hi4 rfl (by decide) sizeB r 0 st.length cap (bC st) w (by simp) (by unfold maxLen; omega) (by omega) (fun j u hu => ?_) (fun u hu => ?_)).mono ?_
  · rw [show (0 + j : Nat) = j by omega, h.cell, List.getElem?_append_left (by have := (List.getElem?_eq_some_iff.1 hu).1; exact this)]
    exact hu
  · obtain ⟨b, -, rfl⟩ := List.mem_map.1 hu
    rfl
  · rintro e w' ⟨v', rfl, h1, h2, h3⟩
    obtain ⟨g, c', ex', rfl, hb, hx, -⟩ := own_bx h1 h2
    exact ⟨g, c', ex', rfl, hb, h3, hx⟩
theorem infoRow : (Try.prog.info? 26).map (fun i => (i.zero, i.size, i.bytes)) = some (some (.slice none 0 0), 1, 24) := by kernel_rfl

/-- An append as one operation of a region that draws. -/
theorem op_append_own_at {P : Program} {w : World} {o : Oper} {a : Act} {K : Act → World → Prop} {Q : Exit → Act → World → Prop} (s x : Operand) (t : TypeId)
    (ho : o.op = .call { callee := .builtin .append, args := #[s, x], argTypes := #[t, t] })
    (base : Nat) (e : TypeId) (i : TypeInfo) (z : Value) (size bytes : Nat) (ht : P.underlying t = some (.slice e)) (hi : P.info? e = some i) (hz : i.zero = some z)
    (hsize : i.size = size) (hby : i.bytes = bytes) (hzs : z.cells.size = size) (hsz : 0 < size)
    (v : Value) (n : Nat) (xs : List Value) (hs : a.eval s = v) (hown : w.ownsRow base e size v n xs)
    (ad : Addr) (m c : Nat) (news : List Value) (hx : a.eval x = .slice (some ad) m c) (hl : news.length = m * size) (hnews : ∀ j u, news[j]? = some u → w.cell? (ad.add j) = some u) (h1 : ∀ u ∈ news, u.oneCell' = true)
    (h63 : n + m ≤ maxLen) (hbytes : (n + m) * bytes ≤ 140737488355328) (hbase : base ≤ w.heap.size)
    (h : ∀ v' w', w'.ownsRow base e size v' (n + m) (xs ++ news) → w.grownBy w' v.ownBlock → (v' = .slice none 0 0 ↔ v = .slice none 0 0 ∧ m = 0) → (v'.ownBlock = v.ownBlock ∨ v'.ownBlock = some w.heap.size) → K (a.put o.dst v') w') :
    o.wp P a w K Q := by
  obtain ⟨v', w', hr, h2, h3, h4, h5⟩ := run_append_own_at (P := P) w base t o.type e i z size bytes ht hi hz hsize hby hzs hsz v n xs hown ad m c news hl hnews h1 h63 hbytes hbase
  unfold Oper.wp execOp
  simp only [ho, resolve, invoke, builtin, Sem.run_bind, Sem.run_pure, Result.andThen_ok, List.map_toArray, List.map_cons, List.map_nil, hs, hx, hr]
  exact h _ _ h2 h3 h4 h5

/-- How 'l[x] = append(l[x], st)' ends. -/
def AppQ (F : Nat → Nat → Act) (U : World) (bl x : Nat) (us : List Value) (u : Value) (base nr : Nat) (vs : List Value) (st : Value) : Exit → Act → World → Prop
  | .normal, a', w' => ∃ gA capA, a' = F gA capA ∧ Kep (fun b => b = bl ∨ u.ownBlock = some b) U w' ∧ Bx w' bl 44 (us.set x (.slice (some ⟨gA, 0, none⟩) (nr + 1) capA)) ∧ w'.ownsRow base 26 1 (.slice (some ⟨gA, 0, none⟩) (nr + 1) capA) (nr + 1) (vs ++ [st]) ∧ (u.ownBlock = some gA ∨ U.heap.size ≤ gA)
  | _, _, _ => False
/-- The same, block by block: k of the blocks that count have their rows. -/
def StK (w : World) (bl : Nat) (c : List Bool) (k : Nat) (S : Nat → List (List Bool)) : Prop :=
  ∃ us, Bx w bl 44 us ∧ us.length = c.length ∧ ∀ i, i < c.length → ∃ u, us[i]? = some u ∧ (i ∈ (ones c).take k → RRow w u (S i)) ∧ (i ∉ (ones c).take k → u = .slice none 0 0)
theorem StK.put {w : World} {bl : Nat} {c : List Bool} {k : Nat} {S : Nat → List (List Bool)} (h : StK w bl c k S) {r : Nat} {o : Obj} (o' : Obj) (hr : w.heap[r]? = some o) (ho : o.isCells = false) : StK (w.putObj r o') bl c k S := by
  obtain ⟨us, h1, h2, h3⟩ := h
  exact ⟨us, h1.put o' hr ho, h2, fun i hi => by
    obtain ⟨u, a1, a2, a3⟩ := h3 i hi
    exact ⟨u, a1, fun hm => (a2 hm).put o' hr ho, a3⟩⟩
theorem StK.zero {w : World} {bl : Nat} {c : List Bool} {S : Nat → List (List Bool)} (h : Bx w bl 44 (List.replicate c.length (.slice none 0 0))) : StK w bl c 0 S :=
  ⟨_, h, List.length_replicate, fun i hi => ⟨_, by rw [List.getElem?_replicate, if_pos hi], fun hm => by simp at hm, fun _ => rfl⟩⟩
theorem StK.step {w w' : World} {bl : Nat} {c : List Bool} {k : Nat} {S : Nat → List (List Bool)} {us : List Value} (h1 : us.length = c.length)
    (h2 : ∀ i, i < c.length → ∃ u, us[i]? = some u ∧ (i ∈ (ones c).take k → RRow w u (S i)) ∧ (i ∉ (ones c).take k → u = .slice none 0 0))
    (hb : Bx w bl 44 us) (hk : Kep (fun b => b = bl) w w') (hlt : k < (ones c).length) {u' : Value} (hb' : Bx w' bl 44 (us.set (ones c)[k] u')) (hu : RRow w' u' (S (ones c)[k])) : StK w' bl c (k + 1) S := by
  have hfar : Far w (fun b => b = bl) := fun b hb2 => .inr ⟨_, _, hb2 ▸ hb, by decide, by decide⟩
  refine ⟨_, hb', by simpa using h1, fun i hi => ?_⟩
  by_cases e : i = (ones c)[k]
  · subst e
    exact ⟨u', by rw [List.getElem?_set, if_pos rfl, if_pos (by omega)], fun _ => hu, fun hm => absurd ((mem_take_succ hlt _).2 (.inr rfl)) hm⟩
  · obtain ⟨u, a1, a2, a3⟩ := h2 i hi
    exact ⟨u, by rw [List.getElem?_set, if_neg (fun x => e x.symm)]; exact a1, fun hm => (a2 (((mem_take_succ hlt _).1 hm).resolve_right e)).far hk hfar, fun hm => a3 (fun x => hm ((mem_take_succ hlt _).2 (.inl x)))⟩
theorem StK.far0 {w w' : World} {bl : Nat} {c : List Bool} {k : Nat} {S : Nat → List (List Bool)} (h : StK w bl c k S) (hk : Kep (fun _ => False) w w') : StK w' bl c k S := by
  obtain ⟨us, h1, h2, h3⟩ := h
  exact ⟨us, h1.kep hk (fun h => h), h2, fun i hi => by
    obtain ⟨u, a1, a2, a3⟩ := h3 i hi
    exact ⟨u, a1, fun hm => (a2 hm).far hk Far.none, a3⟩⟩
theorem StK.shut {w : World} {bl : Nat} {c : List Bool} {k : Nat} {S : Nat → List (List Bool)} {ds : List Nat} (h : StK w bl c k S) (hd : ∀ D ∈ ds, ∃ o, w.heap[D]? = some o ∧ o.isCells = false) : StK (shutAll w ds) bl c k S := by
  obtain ⟨us, h1, h2, h3⟩ := h
  exact ⟨us, h1.shut hd, h2, fun i hi => by
    obtain ⟨u, a1, a2, a3⟩ := h3 i hi
    exact ⟨u, a1, fun hm => (a2 hm).shut hd, a3⟩⟩
/-- A block's row of states while it grows: k of its steps are gone through. -/
def StJ (bl q1 x : Nat) (us : List Value) (g0 lim base : Nat) (st : Nat → List Bool) (k : Nat) (U : World) : Prop :=
  ∃ u v vs, Bx U bl 44 (us.set x u) ∧ U.ownsRow base 26 1 u (k + 1) vs ∧ u ≠ .slice none 0 0 ∧ (∀ b, u.ownBlock = some b → b = g0 ∨ lim ≤ b) ∧ Bx U q1 26 [v] ∧ BRow U v (st k) ∧ vs[k]? = some v ∧
    ∀ j, j < k + 1 → ∃ vj, vs[j]? = some vj ∧ BRow U vj (st j)
theorem StJ.put {bl q1 x : Nat} {us : List Value} {g0 lim base : Nat} {st : Nat → List Bool} {k : Nat} {U : World} (h : StJ bl q1 x us g0 lim base st k U) {r : Nat} {o : Obj} (o' : Obj) (hr : U.heap[r]? = some o) (ho : o.isCells = false) : StJ bl q1 x us g0 lim base st k (U.putObj r o') := by
  obtain ⟨u, v, vs, h1, h2, h3, h4, h5, h6, h7, h8⟩ := h
  exact ⟨u, v, vs, h1.put o' hr ho, own_put h2 o' hr ho, h3, h4, h5.put o' hr ho, h6.put o' hr ho, h7, fun j hj => by
    obtain ⟨vj, a1, a2⟩ := h8 j hj
    exact ⟨vj, a1, a2.put o' hr ho⟩⟩
theorem StJ.row {base : Nat} {st : Nat → List Bool} {k : Nat} {U : World} {u : Value} {vs : List Value} (h2 : U.ownsRow base 26 1 u (k + 1) vs) (h3 : u ≠ .slice none 0 0)
    (h8 : ∀ j, j < k + 1 → ∃ vj, vs[j]? = some vj ∧ BRow U vj (st j)) : RRow U u ((List.range (k + 1)).map st) := by
  obtain ⟨g, cap, ex, rfl, hb, hx, hc⟩ := own_bx h2 h3
  have hl : vs.length = k + 1 := by simpa using h2.1
  refine ⟨g, cap, vs, ex, by simp, hx, by simp [hl], fun j hj => ?_⟩
  have hj' : j < k + 1 := by simpa using hj
  obtain ⟨vj, a1, a2⟩ := h8 j hj'
  refine ⟨vj, a1, ?_⟩
  rw [List.getElem?_map, List.getElem?_range hj', Option.map_some, Option.getD_some]
  exact a2
theorem make_rows3 (n : Nat) (h : n ≤ 1000) (w : World) : (Instr.makeSlice 31 (.int .i64 (n : Int)) (.int .i64 (n : Int))).run Try.prog w = .ok (.slice (some ⟨w.heap.size, 0, none⟩) n n) (w.alloc (.cells (List.replicate n (.slice none 0 0)).toArray 44)) := by
  rw [run_make_row' 31 44 (.slice none 0 0) 24 Try.underlying31 (by kernel_rfl) rfl .i64 .i64 n (by omega) (by omega) w, made_one]

/-- The states of a block, in the order in which they are made; and as they are told. -/
def stL (g : Gb) (n : Nat) (C : List Chg) (back : Bool) (i : Nat) (st : List Bool) : List (List Bool) := (List.range ((alongL back (insR g i)).length + 1)).map fun k => runB g n C i ((alongL back (insR g i)).take k) st
def stO (g : Gb) (n : Nat) (C : List Chg) (back : Bool) (i : Nat) (st : List Bool) : List (List Bool) := if back then (stL g n C back i st).reverse else stL g n C back i st
/-- What states tells. -/
def StAt (w : World) (bl : Nat) (c : List Bool) (S : Nat → List (List Bool)) : Prop :=
  ∃ us, Bx w bl 44 us ∧ us.length = c.length ∧ ∀ i, i < c.length → ∃ u, us[i]? = some u ∧ (i ∈ ones c → RRow w u (S i)) ∧ (i ∉ ones c → u = .slice none 0 0)
theorem putRow_bx {α : Type} [Inhabited α] (enc : α → Value) (w : World) (g : Nat) (t : TypeId) (zs zs' : List α) (ex : List Value) (h : Bx w g t (zs.map enc ++ ex)) (hl : zs'.length = zs.length) (n : Nat) :
    Bx (Sort.putRow enc (Sort.ahead w n) g 0 zs'.toArray) g t (zs'.map enc ++ ex) := by
  have e : Sort.putCells enc 0 zs'.toArray (zs.map enc ++ ex).toArray = (zs'.map enc ++ ex).toArray := by
    apply Array.ext_getElem?
    intro k
    simp only [Sort.putCells, Array.getElem?_mapIdx, List.getElem?_toArray, Nat.zero_le, true_and, Nat.zero_add, Nat.sub_zero, List.size_toArray]
    by_cases hk : k < zs'.length
    · rw [List.getElem?_append_left (by simpa using (by omega : k < zs.length)), List.getElem?_append_left (by simpa using hk), List.getElem?_map, List.getElem?_map, List.getElem?_eq_getElem (by omega : k < zs.length), List.getElem?_eq_getElem hk]
      simp [hk]
    · rw [List.getElem?_append_right (by simp; omega), List.getElem?_append_right (by simp; omega)]
      simp only [List.length_map, hl, Option.map_id']
      rw [hl] at hk
      simp [hk]
  have h' : w.heap[g]? = some (.cells (zs.map enc ++ ex).toArray t) := h
  show (w.heap.modify g (Sort.onCells (Sort.putCells enc 0 zs'.toArray)))[g]? = _
  rw [Array.getElem?_modify, if_pos rfl, h']
  simp only [Option.map_some, Sort.onCells, e]
theorem putRow_kep {α : Type} [Inhabited α] (enc : α → Value) (w : World) (g : Nat) (d : Array α) (n : Nat) : Kep (fun b => b = g) w (Sort.putRow enc (Sort.ahead w n) g 0 d) := by
  refine ⟨rfl, rfl, rfl, by simp, fun k _ hk => ?_⟩
  show (w.heap.modify g (Sort.onCells (Sort.putCells enc 0 d)))[k]? = _
  rw [Array.getElem?_modify, if_neg (fun e => hk e.symm)]
/-- The header of a row of bools, out of two numbers, and back. -/
def encS (n : Nat) (p : Nat × Nat) : Value := .slice (some ⟨p.1, 0, none⟩) n p.2
def decS : Value → Nat × Nat
  | .slice (some a) _ c => (a.block, c)
  | _ => (0, 0)
theorem enc_dec {w : World} {v : Value} {st : List Bool} {n : Nat} (h : BRow w v st) (hn : st.length = n) : encS n (decS v) = v := by
  obtain ⟨r, cap, ex, rfl, -⟩ := h
  simp [encS, decS, hn]
theorem encs {w : World} {vs : List Value} {S : List (List Bool)} {n : Nat} (hl : vs.length = S.length) (h : ∀ j, j < S.length → ∃ v, vs[j]? = some v ∧ BRow w v (S[j]?.getD [])) (hn : ∀ st ∈ S, st.length = n) : (vs.map decS).map (encS n) = vs := by
  rw [List.map_map]
  apply List.ext_getElem?
  intro j
  rw [List.getElem?_map]
  by_cases hj : j < S.length
  · obtain ⟨v, h1, h2⟩ := h j hj
    rw [h1, Option.map_some]
    congr 1
    refine enc_dec h2 (hn _ ?_)
    rw [List.getElem?_eq_getElem hj]
    exact List.getElem_mem hj
  · rw [List.getElem?_eq_none (by omega)]
    rfl
theorem reverse_any (g cap : Nat) (vs ex : List Value) (S : List (List Bool)) (n L : Nat) (w : World) (hL : L = S.length) (hb : Bx w g 26 (vs ++ ex)) (hl : vs.length = S.length) (h : ∀ j, j < S.length → ∃ v, vs[j]? = some v ∧ BRow w v (S[j]?.getD [])) (hn : ∀ st ∈ S, st.length = n) (hS : S.length ≤ 100000) :
    Calls Try.prog 52 #[.slice (some ⟨g, 0, none⟩) L cap] w fun e w' => (∃ u, e = .returned u) ∧ Kep (fun b => b = g) w w' ∧ RRow w' (.slice (some ⟨g, 0, none⟩) L cap) S.reverse := by
  subst hL
  have he := encs hl h hn
  have hz : (vs.map decS).length = S.length := by simp [hl]
  have hb' : Bx w g 26 ((vs.map decS).map (encS n) ++ ex) := by rw [he]; exact hb
  rw [← hz]
  refine (Try.slices_Reverse (encS n) (fun _ => rfl) g 0 cap (vs.map decS) w (fun j hj => ?_) (by omega)).mono ?_
  · have hj' : j < vs.length := by simpa using hj
    refine ⟨?_, (by rw [Nat.zero_add]; exact hb.frozen j)⟩
    rw [Nat.zero_add, hb'.cell, List.getElem?_append_left (by simpa using hj'), List.getElem?_map, List.getElem?_eq_getElem (by simpa using hj')]
    simp [hj']
  · rintro e w' ⟨rfl, k, rfl⟩
    have hk := putRow_kep (encS n) w g (vs.map decS).reverse.toArray k
    have hx := putRow_bx (encS n) w g 26 (vs.map decS) (vs.map decS).reverse ex hb' (by simp) k
    refine ⟨⟨_, rfl⟩, hk, g, cap, vs.reverse, ex, by simp [hl], ?_, by simp [hl], fun j hj => ?_⟩
    · have e2 : (vs.map decS).reverse.map (encS n) = vs.reverse := by rw [List.map_reverse, he]
      rw [e2] at hx
      exact hx
    · have hj' : j < S.length := by simpa using hj
      obtain ⟨v, h1, h2⟩ := h (S.length - 1 - j) (by omega)
      refine ⟨v, ?_, ?_⟩
      · rw [List.getElem?_reverse (by omega), hl]
        exact h1
      · rw [List.getElem?_reverse hj']
        exact h2.kep hk (fun r n' c e => by
          obtain ⟨r', cap', ex', e', hr⟩ := h2
          rw [e'] at e
          cases e
          exact fun eg => bx_ne hr hb (by decide) eg)

end Go.Proofs.Ytfpdecjlfnambaa
