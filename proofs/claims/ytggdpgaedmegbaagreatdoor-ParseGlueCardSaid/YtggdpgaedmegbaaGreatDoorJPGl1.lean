/-
  Several texts of the proof in one: PGlP, PGlA, PGlh, PGl1. No conditions of their own: each lemma states its own.
-/
import Derived.Test.YtggdpgaedmegbaaGreatDoorJPCutL
import Derived.Test.YtggdpgaedmegbaaGreatDoorJPWorks
import Derived.Test.YtggdpgaedmegbaaGreatDoorJPRepR
import Derived.Test.YtggdpgaedmegbaaGreatDoorJPStm
import Derived.Test.YtggdpgaedmegbaaGreatDoorJLNum
import Derived.Deep.AppendLies
import Derived.Laws.OwnMore
import Derived.Test.YtggdpgaedmegbaaGreatDoorJPBlE
import Derived.Test.YtggdpgaedmegbaaGreatDoorJTSameZ
namespace Go.Proofs.YtggdpgaedmegbaaGreatDoor
open Go.RowKit

theorem shift_alike (d : Nat) : ∀ l : List Tok, Alike l (l.map (Tok.shift d))
  | [] => .nil
  | _ :: l => .cons ⟨rfl, rfl, rfl⟩ (shift_alike d l)
theorem shift_pos (d : Nat) : ∀ (l : List Tok) (i : Nat), i < l.length → (hd ((l.map (Tok.shift d)).drop i)).pos = (hd (l.drop i)).pos + d
  | [], _, h => absurd h (Nat.not_lt_zero _)
  | _ :: _, 0, _ => rfl
  | _ :: l, i + 1, h => shift_pos d l i (Nat.lt_of_succ_lt_succ h)
theorem parse_good {s : ByteArray} {x : So5} {r : List Tok} (h : parseR s = .ok x r) : ∃ ts, lexL (bs s) = .good ts := by
  unfold parseR at h
  cases hl : lexL (bs s) with
  | bad e q => rw [hl] at h; cases h
  | good ts => exact ⟨ts, rfl⟩

theorem glue_plain {a b c : ByteArray} (ha : a.size ≤ 3000) (hb : b.size ≤ 3000) (hc : bs c = bs a ++ 10 :: bs b) {x : So5} {r : List Tok} (hp : parseR a = .ok x r) {tb : List Tok} (hl : lexL (bs b) = .good tb) :
    match parseR b, parseR c with
    | .ok y _, .ok z _ => npSo (joinS x y) = npSo z
    | .no f k, .no g k' => f = g ∧ k' = a.size + 1 + k ∧ k ≤ 65536
    | _, _ => False := by
  obtain ⟨ta, hla⟩ := parse_good hp
  obtain ⟨-, la⟩ := lexL_good hla
  obtain ⟨-, lb⟩ := lexL_good hl
  have hcs : c.size = a.size + 1 + b.size := by
    rw [← bs_size c, hc, List.length_append, List.length_cons, bs_size, bs_size]; omega
  have hlc : lexL (bs c) = .good (ta ++ tb.map (Tok.shift (a.size + 1))) := by
    unfold lexL
    rw [if_pos (by rw [bs_size]; omega), hc, lexT_glue, la]
    simp only
    rw [show 0 + (bs a).length + 1 = 0 + (a.size + 1) by rw [bs_size]; omega, lexT_shift, lb]
    rfl
  obtain ⟨Q, hQ⟩ : ∃ Q, Q = tb ++ [endTok b] := ⟨_, rfl⟩
  have hend : endTok c = Tok.shift (a.size + 1) (endTok b) := by
    show (⟨0, [], 0, c.size⟩ : Tok) = ⟨0, [], 0, b.size + (a.size + 1)⟩
    rw [hcs, show a.size + 1 + b.size = b.size + (a.size + 1) by omega]
  have hq : tb.map (Tok.shift (a.size + 1)) ++ [endTok c] = Q.map (Tok.shift (a.size + 1)) := by
    rw [hend, hQ, List.map_append]; rfl
  have kb := lexT_nk lb
  have ka := lexT_nk la
  have hcl : Clean (Q.map (Tok.shift (a.size + 1))) := ⟨tb.map (Tok.shift (a.size + 1)), endTok c, hq.symm, dead_end c, fun t ht => by
    obtain ⟨u, hu, rfl⟩ := List.mem_map.1 ht
    exact (kb u hu).1⟩
  have e1 : parseR b = sourceR Q := by unfold parseR; rw [hl, hQ]
  have e0 : parseR a = itemsR (ta ++ [endTok a]).length (ta ++ [endTok a]) := by unfold parseR; rw [hla]; rfl
  have e2 : parseR c = glueS x (sourceR (Q.map (Tok.shift (a.size + 1)))) := by
    have h1 : parseR c = sourceR (ta ++ Q.map (Tok.shift (a.size + 1))) := by
      unfold parseR
      rw [hlc]
      simp only
      rw [List.append_assoc, hq]
    have hcl2 : Clean (ta ++ Q.map (Tok.shift (a.size + 1))) := by
      obtain ⟨p, e, h2, h3, h4⟩ := hcl
      refine ⟨ta ++ p, e, by rw [h2, List.append_assoc], h3, fun t ht => ?_⟩
      rcases List.mem_append.1 ht with h | h
      · exact (ka t h).1
      · exact h4 t h
    rw [h1, ← source_fuel hcl2 (k := ta.length + (Q.map (Tok.shift (a.size + 1))).length + 1) (by rw [List.length_append]; omega)]
    rw [e0] at hp
    rw [items_glue ta.length ta (endTok a) _ x r (Nat.le_refl _) (fun t ht => (ka t ht).1) (dead_end a) hp _ _ hcl.good (by omega)]
    rw [source_fuel hcl (by omega)]
  have hz := sim_source _ _ (shift_alike (a.size + 1) Q) ⟨tb, endTok b, hQ, dead_end b⟩
  rw [← e1] at hz
  rw [e2]
  cases hp : parseR b with
  | ok y r1 =>
    rw [hp] at hz
    cases hm : sourceR (Q.map (Tok.shift (a.size + 1))) with
    | no f q => rw [hm] at hz; exact hz
    | ok z r2 =>
      rw [hm] at hz
      have h1 : npSo y = npSo z := hz.1
      show npSo (joinS x y) = npSo (joinS x z)
      cases y with | mk h1s s1 h1e en1 h1f f1 =>
      cases z with | mk h2s s2 h2e en2 h2f f2 =>
      simp only [npSo, joinS, So5.mk.injEq, List.map_append] at h1 ⊢
      obtain ⟨g1, g2, g3, g4, g5, g6⟩ := h1
      exact ⟨g1, by rw [g2], g3, by rw [g4], g5, by rw [g6]⟩
  | no f k =>
    rw [hp] at hz
    cases hm : sourceR (Q.map (Tok.shift (a.size + 1))) with
    | ok z r2 => rw [hm] at hz; exact hz
    | no g k' =>
      rw [hm] at hz
      obtain ⟨h1, i, h2, h3, h4⟩ := hz
      have h5 : k ≤ 65536 := by
        rw [h3]
        have hQ2 : (Q.drop i) ≠ [] := by simp; omega
        have hm : hd (Q.drop i) ∈ Q := by
          cases hd' : Q.drop i with
          | nil => exact absurd hd' hQ2
          | cons u m => exact List.mem_of_mem_drop (hd' ▸ List.mem_cons_self)
        rw [hQ] at hm ⊢
        rcases List.mem_append.1 hm with hm | hm
        · have := lexT_pos lb _ hm
          rw [bs_size] at this
          omega
        · obtain h6 := List.mem_singleton.1 hm
          rw [h6]
          show b.size ≤ _
          omega
      refine ⟨h1, ?_, h5⟩
      show k' = _
      rw [h4, shift_pos _ _ _ h2, ← h3]
      omega
/-- how many items there are -/
theorem items_count : ∀ (k : Nat) (l r : List Tok) (x : So5), itemsR k l = .ok x r → x.structs.length + x.enums.length + x.fns.length ≤ l.length
  | 0, l, r, x, h => by cases h
  | k + 1, l, r, x, h => by
    rw [items_eq] at h
    unfold isR at h
    split at h
    · cases h
      exact Nat.zero_le _
    · obtain ⟨a, m, h1, h2⟩ := bindR_ok h
      obtain ⟨y, h3, h4⟩ := mapR_ok h2
      have h5 := item_two _ _ _ h1
      have h6 := items_count k m r y h3
      subst h4
      cases a <;> simp [addI] <;> omega
theorem parse_count {s : ByteArray} (hs : s.size ≤ 7000) {x : So5} {r : List Tok} (h : parseR s = .ok x r) : x.structs.length ≤ 7001 ∧ x.enums.length ≤ 7001 ∧ x.fns.length ≤ 7001 := by
  obtain ⟨ts, hl⟩ := parse_good h
  have h1 := lexT_len (lexL_good hl).2
  rw [bs_size] at h1
  unfold parseR at h
  rw [hl] at h
  have h2 := items_count _ _ _ _ (show itemsR (ts ++ [endTok s]).length (ts ++ [endTok s]) = .ok x r from h)
  rw [List.length_append, List.length_singleton] at h2
  omega
end Go.Proofs.YtggdpgaedmegbaaGreatDoor

namespace Go.Proofs.YtggdpgaedmegbaaGreatDoor
open Go.RowKit

theorem run_append_owned_zero {P : Program} {w : World} (base t ty e : TypeId) (i : TypeInfo) (size : Nat) (ht : P.underlying t = some (.slice e)) (hi : P.info? e = some i)
    (v : Value) (n : Nat) (xs : List Value) (hown : w.ownsRow base e size v n xs) (oa : Option Addr) (c : Nat) :
    (Builtin.append_ #[t, t] ty #[v, .slice oa 0 c]).run P w = .ok v w := by
  have hf : ∀ W : World, (Builtin.firstCells i.size 0 (.slice oa 0 c)).run P W = .ok #[] W := fun W => by
    cases oa with
    | none => simp [Builtin.firstCells]
    | some a => exact run_firstCells_some W i.size 0 a 0 c [] (by simp) (by simp)
  rcases hown.2 with ⟨rfl, rfl⟩ | ⟨g, cap, cur, rfl, _, _, hnc, _⟩
  · simp [Builtin.append_, run_underlying ht, sizeOf, typeInfo, hi, Builtin.lenOf, hf]
  · simp [Builtin.append_, run_underlying ht, sizeOf, typeInfo, hi, Builtin.lenOf, hf, hnc, storeCells]
theorem addr_add0 (g o j : Nat) : ((⟨g, o, none⟩ : Addr).add j) = ⟨g, o + j, none⟩ := by unfold Addr.add; split <;> simp_all
theorem flat_len {α : Type} {C : α → List Value} {sz : Nat} (hC : ∀ x, (C x).length = sz) : ∀ l : List α, (l.flatMap C).length = l.length * sz
  | [] => by simp
  | x :: l => by rw [List.flatMap_cons, List.length_append, hC, flat_len hC l, List.length_cons, Nat.add_mul, Nat.one_mul]; omega
theorem row_news {α : Type} {w : World} {h : Hd} {sz : Nat} {l : List α} {C : α → List Value} {Q : α → Prop} (r : Row w h sz l C Q) (hC : ∀ x, (C x).length = sz) (hl : 0 < l.length) :
    ∃ a, h.oa = some a ∧ ∀ j u, (l.flatMap C)[j]? = some u → w.cell? (a.add j) = some u := by
  obtain ⟨b, off, h1, _, h3⟩ := r.2.2.1 hl
  refine ⟨_, h1, fun j u hu => ?_⟩
  rw [addr_add0]
  have hlen : (l.flatMap C).length = l.length * sz := flat_len hC l
  have hj := (List.getElem?_eq_some_iff.1 hu).1
  rw [hlen] at hj
  have hsz : 0 < sz := by
    rcases Nat.eq_zero_or_pos sz with h | h
    · rw [h] at hj; omega
    · exact h
  have hi : j / sz < l.length := (Nat.div_lt_iff_lt_mul hsz).2 hj
  have hx : l[j / sz]? = some l[j / sz] := List.getElem?_eq_getElem hi
  have hm : j % sz < sz := Nat.mod_lt _ hsz
  have hfl := flat_get C sz hC l (j / sz) (j % sz) _ hx hm
  have e1 : j / sz * sz + j % sz = j := Nat.div_add_mod' j sz
  rw [e1, hu] at hfl
  have := h3 (j / sz) _ hx (j % sz) u hfl.symm
  rw [Nat.add_assoc, e1] at this
  exact this
/-- At the operation. -/
theorem wp_append_row {α : Type} {P : Program} {w : World} {o : Oper} {a : Act} {K : Act → World → Prop} {Q : Exit → Act → World → Prop} (s x : Operand) (t : TypeId)
    (ho : o.op = .call { callee := .builtin .append, args := #[s, x], argTypes := #[t, t] })
    (base : Nat) (e : TypeId) (i : TypeInfo) (z : Value) (size bytes : Nat) (ht : P.underlying t = some (.slice e)) (hi : P.info? e = some i) (hz : i.zero = some z)
    (hsize : i.size = size) (hby : i.bytes = bytes) (hzs : z.cells.size = size) (hsz : 0 < size)
    (v : Value) (n : Nat) (xs : List Value) (hs : a.eval s = v) (hown : w.ownsRow base e size v n xs)
    {h : Hd} {l : List α} {C : α → List Value} {R : α → Prop} (oa : Option Addr) (k c m : Nat) (hx : a.eval x = .slice oa k c) (hoa : oa = h.oa) (hl : l.length = k) (hm : n + k = m) (hr : Row w h size l C R) (hC : ∀ x, (C x).length = size) (h1 : ∀ x, ∀ u ∈ C x, u.oneCell' = true)
    (h63 : m ≤ maxLen) (hbytes : m * bytes ≤ 140737488355328) (hbase : base ≤ w.heap.size)
    (hk : ∀ oa' c' w', w'.ownsRow base e size (.slice oa' m c') m (xs ++ l.flatMap C) → w.grownBy w' v.ownBlock → (∀ b, (Value.slice oa' m c').ownBlock = some b → v.ownBlock = some b ∨ w.heap.size ≤ b) → K (a.put o.dst (.slice oa' m c')) w') : o.wp P a w K Q := by
  subst hoa hl hm
  rcases Nat.eq_zero_or_pos l.length with hl | hl
  · obtain rfl : l = [] := List.length_eq_zero_iff.1 hl
    have hrun := run_append_owned_zero (P := P) (w := w) base t o.type e i size ht hi v n xs hown h.oa c
    unfold Oper.wp execOp
    rw [List.length_nil] at hx
    simp only [ho, resolve, invoke, builtin, Sem.run_bind, Sem.run_pure, Result.andThen_ok, List.map_toArray, List.map_cons, List.map_nil, hs, hx, hrun]
    have hv : ∃ oa' c', v = .slice oa' n c' := by
      rcases hown.2 with ⟨rfl, rfl⟩ | ⟨g, cap, cur, rfl, _⟩
      · exact ⟨_, _, rfl⟩
      · exact ⟨_, _, rfl⟩
    obtain ⟨oa', c', rfl⟩ := hv
    exact hk oa' c' w (by simpa using hown) ⟨rfl, rfl, rfl, Nat.le_refl _, fun _ _ _ => rfl⟩ fun b hb => .inl hb
  · obtain ⟨ad, had, hnews⟩ := row_news hr hC hl
    rw [had] at hx
    refine wp_append_lies w s x t ho base e i z size bytes ht hi hz hsize hby hzs hsz v n xs hs hown ad l.length c (l.flatMap C) hx ?_ hnews (fun u hu => ?_) hl h63 hbytes hbase _ rfl fun g cap w' h2 h3 h4 _ => hk _ _ w' h2 h3 fun b hb => ?_
    · exact flat_len hC l
    · obtain ⟨y, _, hy⟩ := List.mem_flatMap.1 hu
      exact h1 y u hy
    · have hgb : g = b := by simpa [Value.ownBlock] using hb
      rw [← hgb]
      rcases h4 with h4 | h4
      · exact .inl h4
      · exact .inr (by omega)
theorem wpList_append_row {α : Type} {P : Program} {w : World} {ops : Array Oper} {rest : List Oper} {o : Oper} {a : Act} {Q : Exit → Act → World → Prop} (hgd : o.guard = none) (s x : Operand) (t : TypeId)
    (ho : o.op = .call { callee := .builtin .append, args := #[s, x], argTypes := #[t, t] })
    (base : Nat) (e : TypeId) (i : TypeInfo) (z : Value) (size bytes : Nat) (ht : P.underlying t = some (.slice e)) (hi : P.info? e = some i) (hz : i.zero = some z)
    (hsize : i.size = size) (hby : i.bytes = bytes) (hzs : z.cells.size = size) (hsz : 0 < size)
    (v : Value) (n : Nat) (xs : List Value) (hs : a.eval s = v) (hown : w.ownsRow base e size v n xs)
    {h : Hd} {l : List α} {C : α → List Value} {R : α → Prop} (oa : Option Addr) (k c m : Nat) (hx : a.eval x = .slice oa k c) (hoa : oa = h.oa) (hl : l.length = k) (hm : n + k = m) (hr : Row w h size l C R) (hC : ∀ x, (C x).length = size) (h1 : ∀ x, ∀ u ∈ C x, u.oneCell' = true)
    (h63 : m ≤ maxLen) (hbytes : m * bytes ≤ 140737488355328) (hbase : base ≤ w.heap.size)
    (hk : ∀ oa' c' w', w'.ownsRow base e size (.slice oa' m c') m (xs ++ l.flatMap C) → w.grownBy w' v.ownBlock → (∀ b, (Value.slice oa' m c').ownBlock = some b → v.ownBlock = some b ∨ w.heap.size ≤ b) → wpList P ops Q rest (a.put o.dst (.slice oa' m c')) w') : wpList P ops Q (o :: rest) a w :=
  wpList_plain hgd fun _ hK => wp_append_row s x t ho base e i z size bytes ht hi hz hsize hby hzs hsz v n xs hs hown oa k c m hx hoa hl hm hr hC h1 h63 hbytes hbase fun oa' c' w' h2 h3 h4 => hK _ _ (hk oa' c' w' h2 h3 h4)
/-- a row of the call's own, read -/
theorem row_of_own {α : Type} {w : World} {B e sz : Nat} {v : Value} {C : α → List Value} {Q : α → Prop} {xs : List α} (ho : w.ownsRow B e sz v xs.length (xs.flatMap C)) (hC : ∀ x, (C x).length = sz) (hq : ∀ x ∈ xs, Q x) :
    ∃ h : Hd, v = .slice h.oa xs.length h.cap ∧ Row w h sz xs C Q := by
  rcases ho.2 with ⟨rfl, hz0⟩ | ⟨g, cap, cur, rfl, hbb, hgg, h1, h2, h3, h4⟩
  · obtain rfl : xs = [] := List.length_eq_zero_iff.1 hz0
    exact ⟨h0, rfl, Row.nil _ _ _ _⟩
  · refine ⟨⟨some ⟨g, 0, none⟩, cap⟩, rfl, h1, h2, fun _ => ⟨g, 0, rfl, (Array.getElem?_eq_some_iff.1 hgg).1, fun i x hx j u hu => ?_⟩, hq⟩
    have hj : j < sz := by rw [← hC x]; exact (List.getElem?_eq_some_iff.1 hu).1
    have hfl := flat_get C sz hC xs i j x hx hj
    rw [hu] at hfl
    have hc := ho.cells (g := g) rfl (i * sz + j) u hfl
    rw [addr_add0] at hc
    rw [Nat.zero_add] at hc ⊢
    exact hc
/-- a source that is put together out of rows -/
structure StG (K : Nat) (w0 w : World) (v1 v2 v3 : Value) (l1 : List Su5) (l2 : List En5) (l3 : List Fn5) : Prop where
  bel : Below K w0 w
  box : w.heap[K]? = some (.cells #[v1, v2, v3] 27)
  o1 : w.ownsRow (K + 1) 47 4 v1 l1.length (l1.flatMap suC)
  o2 : w.ownsRow (K + 1) 62 3 v2 l2.length (l2.flatMap enC)
  o3 : w.ownsRow (K + 1) 68 4 v3 l3.length (l3.flatMap fnC)
theorem own_types {a b : Value} {w : World} {B e e' n n' s s' : Nat} {xs ys : List Value} (h : w.ownsRow B e s a n xs) (h' : w.ownsRow B e' s' b n' ys) (hne : e ≠ e') : a.ownBlock = none ∨ a.ownBlock ≠ b.ownBlock := by
  cases hx : a.ownBlock with
  | none => exact .inl rfl
  | some x =>
    refine .inr fun hy => ?_
    obtain ⟨c1, h1⟩ := own_blk h hx
    obtain ⟨c2, h2⟩ := own_blk h' hy.symm
    rw [h1] at h2
    simp only [Option.some.injEq, Obj.cells.injEq] at h2
    exact hne h2.2.1
section
variable {K : Nat} {w0 w w' : World} {v1 v2 v3 v' : Value} {l1 l : List Su5} {l2 le : List En5} {l3 lf : List Fn5}
theorem StG.lt (h : StG K w0 w v1 v2 v3 l1 l2 l3) : K < w.heap.size := (Array.getElem?_eq_some_iff.1 h.box).1
theorem below_grown_set {row : Option Nat} (hb : Below K w0 w) (hk : K < w.heap.size) (hg : w.grownBy w' row) (hr : ∀ b, row = some b → K + 1 ≤ b) (j : Nat) : Below K w0 (w'.setCell ⟨K, j, none⟩ v') := by
  exact (hb.grown hg (by omega) fun b hb => by have := hr b hb; omega).setCell (p := ⟨K, j, none⟩) (Nat.le_refl _) v'
theorem own_set {e sz n : Nat} {v : Value} {ys : List Value} (h : w'.ownsRow (K + 1) e sz v n ys) (j : Nat) (u : Value) : (w'.setCell ⟨K, j, none⟩ u).ownsRow (K + 1) e sz v n ys :=
  own_keep h fun b hb => Below.heap_setCell _ _ _ _ (show b ≠ K by have := (own_lt h hb).1; omega)
theorem box_set {row : Option Nat} {c : Array Value} {T : TypeId} (hb : w.heap[K]? = some (.cells c T)) (hg : w.grownBy w' row) (hr : ∀ b, row = some b → K + 1 ≤ b) (j : Nat) (u : Value) : (w'.setCell ⟨K, j, none⟩ u).heap[K]? = some (.cells (c.setIfInBounds j u) T) := by
  have h1 : w'.heap[K]? = some (.cells c T) := (hg.block K (Array.getElem?_eq_some_iff.1 hb).1 fun e => by have := hr K e.symm; omega).trans hb
  have := heap_setCell_same w' K j _ _ u h1
  simpa using this
theorem StG.s1 (h : StG K w0 w v1 v2 v3 l1 l2 l3) {m : Nat} (hm : (l1 ++ l).length = m) (ho : w'.ownsRow (K + 1) 47 4 v' m (l1.flatMap suC ++ l.flatMap suC)) (hg : w.grownBy w' v1.ownBlock) : StG K w0 (w'.setCell ⟨K, 0, none⟩ v') v' v2 v3 (l1 ++ l) l2 l3 := by
  have hr : ∀ b, v1.ownBlock = some b → K + 1 ≤ b := fun b hb => (own_lt h.o1 hb).1
  refine ⟨below_grown_set h.bel h.lt hg hr 0, by simpa using box_set h.box hg hr 0 v', own_set (by rw [hm, List.flatMap_append]; exact ho) _ _, own_set (h.o2.kept hg (own_types h.o2 h.o1 (by decide))) _ _, own_set (h.o3.kept hg (own_types h.o3 h.o1 (by decide))) _ _⟩
theorem StG.s2 (h : StG K w0 w v1 v2 v3 l1 l2 l3) {m : Nat} (hm : (l2 ++ le).length = m) (ho : w'.ownsRow (K + 1) 62 3 v' m (l2.flatMap enC ++ le.flatMap enC)) (hg : w.grownBy w' v2.ownBlock) : StG K w0 (w'.setCell ⟨K, 1, none⟩ v') v1 v' v3 l1 (l2 ++ le) l3 := by
  have hr : ∀ b, v2.ownBlock = some b → K + 1 ≤ b := fun b hb => (own_lt h.o2 hb).1
  refine ⟨below_grown_set h.bel h.lt hg hr 1, by simpa using box_set h.box hg hr 1 v', own_set (h.o1.kept hg (own_types h.o1 h.o2 (by decide))) _ _, own_set (by rw [hm, List.flatMap_append]; exact ho) _ _, own_set (h.o3.kept hg (own_types h.o3 h.o2 (by decide))) _ _⟩
theorem StG.s3 (h : StG K w0 w v1 v2 v3 l1 l2 l3) {m : Nat} (hm : (l3 ++ lf).length = m) (ho : w'.ownsRow (K + 1) 68 4 v' m (l3.flatMap fnC ++ lf.flatMap fnC)) (hg : w.grownBy w' v3.ownBlock) : StG K w0 (w'.setCell ⟨K, 2, none⟩ v') v1 v2 v' l1 l2 (l3 ++ lf) := by
  have hr : ∀ b, v3.ownBlock = some b → K + 1 ≤ b := fun b hb => (own_lt h.o3 hb).1
  refine ⟨below_grown_set h.bel h.lt hg hr 2, by simpa using box_set h.box hg hr 2 v', own_set (h.o1.kept hg (own_types h.o1 h.o3 (by decide))) _ _, own_set (h.o2.kept hg (own_types h.o2 h.o3 (by decide))) _ _, own_set (by rw [hm, List.flatMap_append]; exact ho) _ _⟩
end
end Go.Proofs.YtggdpgaedmegbaaGreatDoor

namespace Go.Proofs.YtggdpgaedmegbaaGreatDoor
open Go.RowKit

theorem parse_some (s : ByteArray) (w : World) (hV : Vars w) : Calls Tryz.prog 15 #[.string s] w fun e w' => Below w.heap.size w w' ∧ ∃ o1 n1 c1 o2 n2 c2 o3 n3 c3 er q, e = .returned (.tuple #[.agg #[.slice o1 n1 c1, .slice o2 n2 c2, .slice o3 n3 c3], .int .i64 er, .int .i64 q]) := by
  refine (parse_any s w hV).mono ?_
  rintro e w' ⟨hb, h⟩
  refine ⟨hb, ?_⟩
  unfold ReadOut at h
  cases hp : parseR s with
  | ok x r =>
    rw [hp] at h
    obtain ⟨⟨y1, x1, y2, x2, y3, x3⟩, rfl, -, -⟩ := h
    exact ⟨_, _, _, _, _, _, _, _, _, _, _, rfl⟩
  | no f p =>
    rw [hp] at h
    exact ⟨_, _, _, _, _, _, _, _, _, _, _, h⟩
theorem lex_some (s : ByteArray) (w : World) (hV : Vars w) : Calls Tryz.prog 18 #[.string s] w fun e w' => Below w.heap.size w w' ∧ ∃ o n c er q, e = .returned (.tuple #[.slice o n c, .int .i64 er, .int .i64 q]) := by
  refine (lex_any s w hV).mono ?_
  rintro e w' ⟨h, hb⟩
  refine ⟨hb, ?_⟩
  unfold LexOut at h
  cases hp : lexL (bs s) with
  | bad er q => rw [hp] at h; exact ⟨_, _, _, _, _, h⟩
  | good ts =>
    rw [hp] at h
    obtain ⟨g, cap, h, -, -⟩ := h
    exact ⟨_, _, _, _, _, h⟩
theorem bs_glue (a b : ByteArray) : bs (a ++ ⟨#[10]⟩ ++ b) = bs a ++ 10 :: bs b := by simp [bs]
theorem suC_one : ∀ x, ∀ u ∈ suC x, u.oneCell' = true := fun x u hu => by
  simp [suC] at hu
  rcases hu with rfl | rfl | rfl | rfl <;> rfl
theorem enC_one : ∀ x, ∀ u ∈ enC x, u.oneCell' = true := fun x u hu => by
  simp [enC] at hu
  rcases hu with rfl | rfl | rfl <;> rfl
theorem fnC_one : ∀ x, ∀ u ∈ fnC x, u.oneCell' = true := fun x u hu => by
  simp [fnC] at hu
  rcases hu with rfl | rfl | rfl | rfl <;> rfl
set_option maxRecDepth 100000 in
set_option maxHeartbeats 40000000 in
theorem glue_long1 (a b : ByteArray) (w : World) (hV : Vars w) (ha : ¬ a.size ≤ 3000) : Calls Tryz.prog 4 #[.string a, .string b] w fun e w' => e = .returned (.bool true) ∧ Below w.heap.size w w' := by
  have t1 : decide ((a.size : Int) > 3000) = true := by simp; omega
  have HV := Lib.hid hV
  clear hV ha
  go_enter Tryz.func4, Tryz.ntmps4
  go_wp2_with (go_at_call 14; refine (works_any w HV.out).mono ?_; rintro e W1 ⟨rfl, hb1⟩; have HB1 := Lib.hid hb1; clear hb1)
  go_ret
  exact ⟨rfl, HB1.out⟩
set_option maxRecDepth 100000 in
set_option maxHeartbeats 40000000 in
theorem glue_long2 (a b : ByteArray) (w : World) (hV : Vars w) (ha : a.size ≤ 3000) (hb : ¬ b.size ≤ 3000) : Calls Tryz.prog 4 #[.string a, .string b] w fun e w' => e = .returned (.bool true) ∧ Below w.heap.size w w' := by
  have t1 : decide ((a.size : Int) > 3000) = false := by simp; omega
  have t2 : decide ((b.size : Int) > 3000) = true := by simp; omega
  have HV := Lib.hid hV
  clear hV ha hb
  go_enter Tryz.func4, Tryz.ntmps4
  go_wp2_with (go_at_call 14; refine (works_any w HV.out).mono ?_; rintro e W1 ⟨rfl, hb1⟩; have HB1 := Lib.hid hb1; clear hb1)
  go_ret
  exact ⟨rfl, HB1.out⟩
end Go.Proofs.YtggdpgaedmegbaaGreatDoor

namespace Go.Proofs.YtggdpgaedmegbaaGreatDoor
open Go.RowKit

set_option maxRecDepth 100000 in
set_option maxHeartbeats 40000000 in
theorem glue_noa (a b : ByteArray) (w : World) (hV : Vars w) (ha : a.size ≤ 3000) (hb : b.size ≤ 3000) {f : Int} {q : Nat} (hpa : parseR a = .no f q) : Calls Tryz.prog 4 #[.string a, .string b] w fun e w' => e = .returned (.bool true) ∧ Below w.heap.size w w' := by
  have t1 : decide ((a.size : Int) > 3000) = false := by simp; omega
  have t2 : decide ((b.size : Int) > 3000) = false := by simp; omega
  have has : (a ++ ⟨#[10]⟩ : ByteArray).size = a.size + 1 := by simp; rfl
  have z1 : ¬ 9223372036854775807 < a.size + 1 := by omega
  have z2 : ¬ 9223372036854775807 < (a ++ ⟨#[10]⟩ : ByteArray).size + b.size := by omega
  have z3 : ¬ 9223372036854775807 < a.size + 1 + b.size := by omega
  have HV := Lib.hid hV
  obtain ⟨c, hcc⟩ : ∃ c, (a ++ ⟨#[10]⟩ ++ b : ByteArray) = c := ⟨_, rfl⟩
  have HCC := Lib.hid hcc
  have hne : (f != 0) = true := by simpa using parse_nz hpa
  have HPA := Lib.hid hpa
  clear hV ha hb hpa has hcc
  go_enter Tryz.func4, Tryz.ntmps4
  go_upto_region 7 with
    (first
      | (go_at_call 14; refine (works_any w HV.out).mono ?_; rintro e W1 ⟨rfl, hb1⟩; have HB1 := Lib.hid hb1; clear hb1)
      | (go_at_call 15; refine (parse_any a W1 (HV.out.b HB1.out)).mono ?_; rintro e0 W2 ⟨hb1, h1⟩; unfold ReadOut at h1; rw [HPA.out] at h1; simp only at h1; subst h1; have HB2 := Lib.hid (HB1.out.trans (hb1.mono HB1.out.size)); clear hb1)
      | (refine wpList_store_box rfl 27 (.tmp 6) (.tmp 34) rfl W2.heap.size 0 rfl (.agg #[.slice none 0 0, .slice none 0 0, .slice none 0 0]) rfl [.slice none 0 0, .slice none 0 0, .slice none 0 0] rfl [.slice none 0 0, .slice none 0 0, .slice none 0 0] 27 (heap_alloc_new W2 (.cells #[.slice none 0 0, .slice none 0 0, .slice none 0 0] 27)) (Nat.le_refl _) (show (Tryz.prog.info? 27).map (·.size) = some 3 by kernel_rfl) ?c2 W2.heap.size (Nat.le_refl _) (W2.alloc (.cells #[.slice none 0 0, .slice none 0 0, .slice none 0 0] 27)) (Below.refl _ _) ?_; rotate_left; intro W3 hb hbx hoth))
  case c2 => first | exact ⟨rfl, rfl, rfl⟩ | (intro v hv; simp at hv; first | (rcases hv with rfl | rfl | rfl <;> rfl) | (subst hv; rfl))
  obtain ⟨N6, hN⟩ : ∃ N, N = W2.heap.size := ⟨_, rfl⟩
  have hb1 : Below W2.heap.size W2 W3 := (alloc_below W2 (.cells #[.slice none 0 0, .slice none 0 0, .slice none 0 0] 27)).trans hb
  have HB3 := Lib.hid (HB2.out.trans (hb1.mono HB2.out.size))
  have HX6 := Lib.hid (show W3.heap[N6]? = some (.cells #[.slice none 0 0, .slice none 0 0, .slice none 0 0] 27) by rw [hN]; exact hbx)
  have HC3_3 := Lib.hid (Below.refl W3.heap.size W3)
  simp only [← hN]
  clear hb hbx hoth hb1 hN
  go_upto_region 8 with
    (first
      | (go_at_call 15; refine (parse_some b W3 (HV.out.b HB3.out)).mono ?_; rintro e0 W4 ⟨hb1, o31, n31, c31, o32, n32, c32, o33, n33, c33, er3, at3, rfl⟩; have HB4 := Lib.hid (HB3.out.trans (hb1.mono HB3.out.size)); have HC3_4 := Lib.hid (HC3_3.out.trans (hb1.mono HC3_3.out.size)); clear hb1)
      | (refine wpList_store_box rfl 27 (.tmp 9) (.tmp 40) rfl W4.heap.size 0 rfl (.agg #[.slice o31 n31 c31, .slice o32 n32 c32, .slice o33 n33 c33]) rfl [.slice o31 n31 c31, .slice o32 n32 c32, .slice o33 n33 c33] rfl [.slice none 0 0, .slice none 0 0, .slice none 0 0] 27 (heap_alloc_new W4 (.cells #[.slice none 0 0, .slice none 0 0, .slice none 0 0] 27)) (Nat.le_refl _) (show (Tryz.prog.info? 27).map (·.size) = some 3 by kernel_rfl) ?c4 W4.heap.size (Nat.le_refl _) (W4.alloc (.cells #[.slice none 0 0, .slice none 0 0, .slice none 0 0] 27)) (Below.refl _ _) ?_; rotate_left; intro W5 hb hbx hoth))
  case c4 => first | exact ⟨rfl, rfl, rfl⟩ | (intro v hv; simp at hv; first | (rcases hv with rfl | rfl | rfl <;> rfl) | (subst hv; rfl))
  obtain ⟨N9, hN⟩ : ∃ N, N = W4.heap.size := ⟨_, rfl⟩
  have hb1 : Below W4.heap.size W4 W5 := (alloc_below W4 (.cells #[.slice none 0 0, .slice none 0 0, .slice none 0 0] 27)).trans hb
  have HB5 := Lib.hid (HB4.out.trans (hb1.mono HB4.out.size))
  have HC3_5 := Lib.hid (HC3_4.out.trans (hb1.mono HC3_4.out.size))
  have HX9 := Lib.hid (show W5.heap[N9]? = some (.cells #[.slice o31 n31 c31, .slice o32 n32 c32, .slice o33 n33 c33] 27) by rw [hN]; exact hbx)
  have HC5_5 := Lib.hid (Below.refl W5.heap.size W5)
  simp only [← hN]
  clear hb hbx hoth hb1 hN
  go_upto_region 9 with (go_at_call 18; refine (lex_some b W5 (HV.out.b HB5.out)).mono ?_; rintro e0 W6 ⟨hb1, ol, nl, cl, el, ql, rfl⟩; have HB6 := Lib.hid (HB5.out.trans (hb1.mono HB5.out.size)); have HC3_6 := Lib.hid (HC3_5.out.trans (hb1.mono HC3_5.out.size)); have HC5_6 := Lib.hid (HC5_5.out.trans (hb1.mono HC5_5.out.size)); clear hb1)
  go_upto_region 10 with
    (first
      | (go_at_call 15; rw [HCC.out]; refine (parse_some c W6 (HV.out.b HB6.out)).mono ?_; rintro e0 W7 ⟨hb1, o61, n61, c61, o62, n62, c62, o63, n63, c63, er6, at6, rfl⟩; have HB7 := Lib.hid (HB6.out.trans (hb1.mono HB6.out.size)); have HC3_7 := Lib.hid (HC3_6.out.trans (hb1.mono HC3_6.out.size)); have HC5_7 := Lib.hid (HC5_6.out.trans (hb1.mono HC5_6.out.size)); clear hb1)
      | (refine wpList_store_box rfl 27 (.tmp 15) (.tmp 55) rfl W7.heap.size 0 rfl (.agg #[.slice o61 n61 c61, .slice o62 n62 c62, .slice o63 n63 c63]) rfl [.slice o61 n61 c61, .slice o62 n62 c62, .slice o63 n63 c63] rfl [.slice none 0 0, .slice none 0 0, .slice none 0 0] 27 (heap_alloc_new W7 (.cells #[.slice none 0 0, .slice none 0 0, .slice none 0 0] 27)) (Nat.le_refl _) (show (Tryz.prog.info? 27).map (·.size) = some 3 by kernel_rfl) ?c7 W7.heap.size (Nat.le_refl _) (W7.alloc (.cells #[.slice none 0 0, .slice none 0 0, .slice none 0 0] 27)) (Below.refl _ _) ?_; rotate_left; intro W8 hb hbx hoth))
  case c7 => first | exact ⟨rfl, rfl, rfl⟩ | (intro v hv; simp at hv; first | (rcases hv with rfl | rfl | rfl <;> rfl) | (subst hv; rfl))
  obtain ⟨N15, hN⟩ : ∃ N, N = W7.heap.size := ⟨_, rfl⟩
  have hb1 : Below W7.heap.size W7 W8 := (alloc_below W7 (.cells #[.slice none 0 0, .slice none 0 0, .slice none 0 0] 27)).trans hb
  have HB8 := Lib.hid (HB7.out.trans (hb1.mono HB7.out.size))
  have HC3_8 := Lib.hid (HC3_7.out.trans (hb1.mono HC3_7.out.size))
  have HC5_8 := Lib.hid (HC5_7.out.trans (hb1.mono HC5_7.out.size))
  have HX15 := Lib.hid (show W8.heap[N15]? = some (.cells #[.slice o61 n61 c61, .slice o62 n62 c62, .slice o63 n63 c63] 27) by rw [hN]; exact hbx)
  have HC8_8 := Lib.hid (Below.refl W8.heap.size W8)
  simp only [← hN]
  clear hb hbx hoth hb1 hN
  go_wp2
  go_ret
  exact ⟨rfl, HB8.out⟩
end Go.Proofs.YtggdpgaedmegbaaGreatDoor
