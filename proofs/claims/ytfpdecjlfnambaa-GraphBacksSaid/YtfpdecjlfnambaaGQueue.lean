/-
  Graph: the queue, and settle. Conditions: the queue lies in blocks of its own; looks keep what is handed in.
-/
import Derived.Test.YtfpdecjlfnambaaGRows
import Derived.ArgAppend
namespace Go.Proofs.Ytfpdecjlfnambaa
open Go Go.RowKit

/-- The slice value v holds the places l, in a block of its own, from somewhere on. -/
def QRow (w : World) (v : Value) (l : List Nat) : Prop := (v = .slice none 0 0 ∧ l = []) ∨ ∃ g off cap cur, v = .slice (some ⟨g, off, none⟩) l.length cap ∧ Bx w g 3 cur ∧ off + cap ≤ cur.length ∧ l.length ≤ cap ∧ ∀ j, j < l.length → cur[off + j]? = some (.int .i64 ((l[j]?.getD 0 : Nat) : Int))
/-- A queue in a box. -/
structure QAt (n1 : Nat) (w : World) (qb : Nat) (v : Value) (l : List Nat) : Prop where
  box : Bx w qb 109 [v]
  row : QRow w v l
  qn : n1 ≤ qb
  vn : ∀ b, v.ownBlock = some b → n1 ≤ b

set_option maxRecDepth 100000 in
set_option maxHeartbeats 4000000 in
theorem take_any (n1 qb x : Nat) (v : Value) (l : List Nat) (hl : l.length ≤ 100000) (w : World) (hn : n1 ≤ w.heap.size) (h : QAt n1 w qb v (x :: l)) : Calls Try.prog 56 #[.pointer (some ⟨qb, 0, none⟩)] w fun e w' =>
    e = .returned (.int .i64 (x : Int)) ∧ Below n1 w w' ∧ ∃ v', QAt n1 w' qb v' l := by
  obtain ⟨h1, h2, h3, h4⟩ := h
  rcases h2 with ⟨-, h2⟩ | ⟨g, off, cap, cur, rfl, h5, h6, h7, h8⟩
  · cases h2
  · have e0 := h8 0 (by simp)
    simp at e0 h7
    have c1 := h1.cell 0
    have f1 := h1.frozen 0
    have c2 := h5.cell off
    rw [e0] at c2
    simp at c1
    obtain ⟨m, hm⟩ : ∃ m, m = l.length := ⟨_, rfl⟩
    rw [← hm] at c1 h7
    have HA := Lib.hid (And.intro h1 (And.intro h3 (And.intro h4 (And.intro h5 (And.intro h6 (And.intro h8 hm))))))
    rw [← hm] at hl
    clear h1 h3 h4 h5 h6 h8 hm e0
    go_enter Try.func56, Try.ntmps56
    go_wp2
    all_goals go_ret
    all_goals obtain ⟨h1, h3, h4, h5, h6, h8, hm⟩ := HA.out
    · refine ⟨rfl, (Below.refl _ _).setCell h3 _, _, ⟨h1.set 0 _, .inr ⟨g, off, 0, cur, by rw [← hm], h5.far (bx_ne h1 h5 (by decide)) _, by omega, by omega, fun j hj => by omega⟩, h3, fun b hb => h4 b hb⟩⟩
    · refine ⟨rfl, (Below.refl _ _).setCell h3 _, _, ⟨h1.set 0 _, .inr ⟨g, off + 1, cap - 1, cur, by rw [← hm], h5.far (bx_ne h1 h5 (by decide)) _, by omega, by omega, fun j hj => ?_⟩, h3, fun b hb => h4 b hb⟩⟩
      have := h8 (j + 1) (by simp; omega)
      rw [show off + 1 + j = off + (j + 1) by omega, this]
      simp

theorem own_qrow {w : World} {base : Nat} {v : Value} {l : List Nat} (h : w.ownsRow base 3 1 v l.length (nC l)) : QRow w v l := by
  rcases h.2 with ⟨rfl, h0⟩ | ⟨g, cap, cur, rfl, hb, hg, h1, h2, h3, h4⟩
  · exact .inl ⟨rfl, List.eq_nil_of_length_eq_zero h0⟩
  · refine .inr ⟨g, 0, cap, cur.toList, rfl, by rw [Bx]; simpa using hg, by simp; omega, h1, fun j hj => ?_⟩
    have e : (cur.toList.take (l.length * 1))[j]? = (nC l)[j]? := by rw [h4]
    rw [List.getElem?_take_of_lt (by omega)] at e
    rw [Nat.zero_add, e]
    simp [List.getElem?_eq_getElem hj]

set_option maxRecDepth 100000 in
set_option maxHeartbeats 4000000 in
theorem put_any (n1 qb x : Nat) (v : Value) (l : List Nat) (hl : l.length ≤ 100000) (w : World) (hn : n1 ≤ w.heap.size) (h : QAt n1 w qb v l) : Calls Try.prog 57 #[.pointer (some ⟨qb, 0, none⟩), .int .i64 (x : Int)] w fun e w' =>
    (∃ u, e = .returned u) ∧ Below n1 w w' ∧ Kep (fun k => k = qb ∨ v.ownBlock = some k) w w' ∧ ∃ v', QAt n1 w' qb v' (l ++ [x]) ∧ (∀ b, v'.ownBlock = some b → v.ownBlock = some b ∨ w.heap.size ≤ b) := by
  obtain ⟨h1, h2, h3, h4⟩ := h
  have c1 := h1.cell 0
  have f1 := h1.frozen 0
  simp at c1
  obtain ⟨i3, hi3, hz3, hs3, hb3⟩ := info_parts infoInt
  have HI := Lib.hid (And.intro hi3 (And.intro hz3 (And.intro hs3 hb3)))
  clear hi3 hz3 hs3 hb3
  have hql := h1.lt
  rcases h2 with ⟨rfl, rfl⟩ | ⟨g, off, cap, cur, rfl, h5, h6, h7, h8⟩
  · have HA := Lib.hid (And.intro h1 (And.intro h3 hn))
    clear h1 h3 h4 hn
    go_enter Try.func57, Try.ntmps57
    go_wp2_with (at_builtin; refine wpList_append_own_at _ rfl (.tmp 8) (.tmp 10) 42 rfl w.heap.size 3 i3 _ 1 8 Try.underlying42 HI.out.1 HI.out.2.1 HI.out.2.2.1 HI.out.2.2.2 rfl (by decide) _ _ _ rfl (World.ownsRow_nil _ _ _ _) ⟨_, 0, none⟩ 1 1 [.int .i64 (x : Int)] rfl rfl ?c1 ?c2 ?c3 ?c4 ?c5 ?_)
    case c1 => exact new_cells _ [.int .i64 (x : Int)] _
    case c2 => intro u hu; simp at hu; subst hu; rfl
    case c3 => unfold maxLen; omega
    case c4 => omega
    case c5 => simp
    intro v' w1 hown hg _ hvb
    obtain ⟨oa, na, ca, hv⟩ := own_slice hown
    subst hv
    have hk : Kep (fun _ => False) w w1 := ((Kep.refl _ w).alloc _).grown hg (fun q hq => by cases hq)
    have c1' := (HA.out.1.kep hk (fun h => h)).cell 0
    have f1' := (HA.out.1.kep hk (fun h => h)).frozen 0
    simp at c1'
    have HP := Lib.hid (And.intro hown (And.intro hk hvb))
    clear hown hk hvb hg c1 f1
    go_wp2
    go_end0
    obtain ⟨h1, h3, hn⟩ := HA.out
    obtain ⟨hown, hk, hvb⟩ := HP.out
    have hb1 := h1.kep hk (fun h => h)
    have hvn : ∀ b, (Value.slice oa na ca).ownBlock = some b → w.heap.size ≤ b := fun b hb => (own_lt hown hb).2
    have hq : w1.ownsRow w.heap.size 3 1 (.slice oa na ca) [x].length (nC [x]) := by simpa using hown
    refine ⟨⟨_, rfl⟩, (hk.to_below hn (fun _ _ h => h)).setCell h3 _, (hk.mono (fun _ _ h => h.elim)).setCell (.inr (.inl rfl)) _, _, ⟨hb1.set 0 _, ?_, h3, fun b hb => by have := hvn b hb; omega⟩, fun b hb => .inr (hvn b hb)⟩
    rcases own_qrow hq with ⟨e1, e2⟩ | ⟨g, off, cap, cur, e, e1, e2, e3, e4⟩
    · cases e2
    · exact .inr ⟨g, off, cap, cur, e, e1.far (bx_ne hb1 e1 (by decide)) _, e2, e3, e4⟩
  · obtain ⟨m, hm⟩ : ∃ m, m = l.length := ⟨_, rfl⟩
    rw [← hm] at c1
    have HA := Lib.hid (And.intro h1 (And.intro h3 (And.intro h4 (And.intro h5 (And.intro h6 (And.intro h7 (And.intro h8 (And.intro hm hn))))))))
    rw [← hm] at hl
    have hgl := h5.lt
    clear h1 h3 h4 h5 h6 h7 h8 hm hn
    go_enter Try.func57, Try.ntmps57
    go_wp2_with (at_builtin; refine wpList_append_arg _ rfl (.tmp 8) (.tmp 10) 42 rfl 3 i3 _ 1 8 Try.underlying42 HI.out.1 HI.out.2.1 HI.out.2.2.1 HI.out.2.2.2 rfl (by decide) g off m cap (nC l) rfl ?lo ?olds ⟨_, 0, none⟩ 1 1 [.int .i64 (x : Int)] rfl rfl ?c1 ?c2 ?spare ?c3 ?c4 ?room ?grow)
    case lo => simp [HA.out.2.2.2.2.2.2.2.1]
    case olds =>
      intro j u hj
      obtain ⟨h1, h3, h4, h5, h6, h7, h8, hm, hn⟩ := HA.out
      have hjl : j < l.length := by
        have := (List.getElem?_eq_some_iff.1 hj).1
        simpa using this
      rw [(h5.alloc _).cell, h8 j hjl]
      simp [List.getElem?_eq_getElem hjl] at hj ⊢
      exact hj
    case c1 => exact new_cells _ [.int .i64 (x : Int)] _
    case c2 => intro u hu; simp at hu; subst hu; rfl
    case spare =>
      intro hc j hj
      obtain ⟨h1, h3, h4, h5, h6, h7, h8, hm, hn⟩ := HA.out
      simp at hj
      refine ⟨?_, (h5.alloc _).frozen _⟩
      rw [(h5.alloc _).cell, List.getElem?_eq_getElem (by omega)]
      rfl
    case c3 => unfold maxLen; omega
    case c4 => omega
    case room =>
      intro hc
      obtain ⟨h1, h3, h4, h5, h6, h7, h8, hm, hn⟩ := HA.out
      obtain ⟨W, hW⟩ : ∃ W, W = (w.alloc (.cells #[.int .i64 (x : Int)] 3)).setCell ⟨g, off + m, none⟩ (.int .i64 (x : Int)) := ⟨_, rfl⟩
      have hne : qb ≠ g := bx_ne h1 h5 (by decide)
      have b1 : Bx W qb 109 [.slice (some ⟨g, off, none⟩) l.length cap] := by
        rw [hW]
        exact (h1.alloc _).far (by exact hne.symm) _
      have b2 : Bx W g 3 (cur.set (off + m) (.int .i64 (x : Int))) := by
        rw [hW]
        exact (h5.alloc _).set _ _
      have hkk : Kep (fun k => k = qb ∨ (Value.slice (some ⟨g, off, none⟩) l.length cap).ownBlock = some k) w W := by
        rw [hW]
        exact ((Kep.refl _ w).alloc _).setCell (.inr (.inr rfl)) _
      have hk : Below n1 w W := by
        rw [hW]
        exact ((Below.refl _ w).alloc hn _).setCell (h4 g rfl) _
      have c1' := b1.cell 0
      have f1' := b1.frozen 0
      simp at c1'
      rw [← hm] at c1'
      have eW : (w.alloc (.cells #[.int .i64 (x : Int)] 3)).setCells g (off + m) [.int .i64 (x : Int)] = W := by
        rw [hW]
        rfl
      rw [eW]
      have HP := Lib.hid (And.intro b1 (And.intro b2 (And.intro hk (And.intro hne hkk))))
      clear h1 h3 h4 h5 h6 h7 h8 hm hn hW b1 b2 hk hne hkk c1 f1 eW
      go_wp2
      go_end0
      obtain ⟨h1, h3, h4, h5, h6, h7, h8, hm, hn⟩ := HA.out
      obtain ⟨b1, b2, hk, hne, hkk⟩ := HP.out
      refine ⟨⟨_, rfl⟩, hk.setCell h3 _, hkk.setCell (.inr (.inl rfl)) _, _, ⟨b1.set 0 _, .inr ⟨g, off, cap, _, by rw [List.length_append, ← hm]; rfl, b2.far hne _, by rw [List.length_set]; exact h6, by rw [List.length_append, ← hm]; exact hc, fun j hj => ?_⟩, h3, fun b hb => h4 b hb⟩, fun b hb => .inl hb⟩
      rw [List.length_append, List.length_singleton, ← hm] at hj
      rw [List.getElem?_set]
      by_cases e : j = m
      · subst e
        rw [if_pos rfl, if_pos (by omega), hm]
        simp
      · rw [if_neg (by omega), h8 j (by omega), List.getElem?_append_left (by omega)]
    case grow =>
      intro hc v' w1 hown hg
      obtain ⟨h1, h3, h4, h5, h6, h7, h8, hm, hn⟩ := HA.out
      obtain ⟨oa, na, ca, hv⟩ := own_slice hown
      subst hv
      have hk : Kep (fun _ => False) w w1 := ((Kep.refl _ w).alloc _).grown hg (fun q hq => by cases hq)
      have b1 := h1.kep hk (fun h => h)
      have c1' := b1.cell 0
      have f1' := b1.frozen 0
      simp at c1'
      rw [← hm] at c1'
      have HP := Lib.hid (And.intro hown (And.intro hk b1))
      clear h1 h3 h4 h5 h6 h7 h8 hm hn hown hg hk b1 c1 f1
      go_wp2
      go_end0
      obtain ⟨h1, h3, h4, h5, h6, h7, h8, hm, hn⟩ := HA.out
      obtain ⟨hown, hk, b1⟩ := HP.out
      have hvn : ∀ b, (Value.slice oa na ca).ownBlock = some b → w.heap.size ≤ b := fun b hb => by
        have := (own_lt hown hb).2
        omega
      have hq : w1.ownsRow (w.heap.size + 1) 3 1 (.slice oa na ca) (l ++ [x]).length (nC (l ++ [x])) := by
        rw [List.length_append, ← hm, nC, List.map_append]
        exact hown
      refine ⟨⟨_, rfl⟩, (hk.to_below hn (fun _ _ h => h)).setCell h3 _, (hk.mono (fun _ _ h => h.elim)).setCell (.inr (.inl rfl)) _, _, ⟨b1.set 0 _, ?_, h3, fun b hb => by have := hvn b hb; omega⟩, fun b hb => .inr (hvn b hb)⟩
      rcases own_qrow hq with ⟨e1, e2⟩ | ⟨g, off, cap, cur, e, e1, e2, e3, e4⟩
      · simp at e2
      · exact .inr ⟨g, off, cap, cur, e, e1.far (bx_ne b1 e1 (by decide)) _, e2, e3, e4⟩

theorem QRow.own {w : World} {v : Value} {l : List Nat} (h : QRow w v l) {b : Nat} (hb : v.ownBlock = some b) : ∃ cs, Bx w b 3 cs := by
  rcases h with ⟨rfl, -⟩ | ⟨g, off, cap, cur, rfl, h5, -⟩
  · cases hb
  · simp [Value.ownBlock] at hb
    subst hb
    exact ⟨cur, h5⟩
theorem QRow.of {w w' : World} {v : Value} {l : List Nat} (h : QRow w v l) (hh : ∀ b, v.ownBlock = some b → w'.heap[b]? = w.heap[b]?) : QRow w' v l := by
  rcases h with h | ⟨g, off, cap, cur, rfl, h5, h6⟩
  · exact .inl h
  · exact .inr ⟨g, off, cap, cur, rfl, h5.of_heap (hh g rfl), h6⟩
theorem QAt.of {n1 qb : Nat} {w w' : World} {v : Value} {l : List Nat} (h : QAt n1 w qb v l) (hq : w'.heap[qb]? = w.heap[qb]?) (hh : ∀ b, v.ownBlock = some b → w'.heap[b]? = w.heap[b]?) : QAt n1 w' qb v l := ⟨h.box.of_heap hq, h.row.of hh, h.qn, h.vn⟩
theorem QAt.put {n1 qb : Nat} {w : World} {v : Value} {l : List Nat} (h : QAt n1 w qb v l) {r : Nat} {o : Obj} (o' : Obj) (hr : w.heap[r]? = some o) (ho : o.isCells = false) : QAt n1 (w.putObj r o') qb v l := by
  have key : ∀ {b : Nat} {t : TypeId} {cs : List Value}, Bx w b t cs → (w.putObj r o').heap[b]? = w.heap[b]? := fun hb => World.putObj_heap_other (fun e => by
    subst e
    rw [show w.heap[_]? = _ from hb] at hr
    cases hr
    cases ho)
  exact h.of (key h.box) (fun b hb => by obtain ⟨cs, hc⟩ := h.row.own hb; exact key hc)
theorem QAt.below {n1 qb : Nat} {w w' : World} {v : Value} {l : List Nat} (h : QAt n1 w qb v l) (hB : Below w.heap.size w w') : QAt n1 w' qb v l :=
  h.of (hB.block _ h.box.lt) (fun b hb => by obtain ⟨cs, hc⟩ := h.row.own hb; exact hB.block _ hc.lt)

end Go.Proofs.Ytfpdecjlfnambaa
