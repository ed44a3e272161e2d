/-
  Several texts of the proof in one: PItem, PRes, PStm. No conditions of their own: each lemma states its own.
-/
import Derived.Test.YtggdpgaedmegbaaGreatDoorJPRepR
import Derived.Test.YtggdpgaedmegbaaGreatDoorJPEnum
import Derived.Test.YtggdpgaedmegbaaGreatDoorJPBox
import Derived.Test.YtggdpgaedmegbaaGreatDoorJPRowF
namespace Go.Proofs.YtggdpgaedmegbaaGreatDoor

/-- an item of any kind -/
inductive It5 where
  | s (x : Su5)
  | e (x : En5)
  | f (x : Fn5)
def addI : It5 → So5 → So5
  | .s x, y => { y with structs := x :: y.structs }
  | .e x, y => { y with enums := x :: y.enums }
  | .f x, y => { y with fns := x :: y.fns }
def itemR : Rd It5 := atR fun q => optR wEnum (mapR (enumR q) .e) (optR wCo (mapR (fnR q) .f) (mapR structR .s))
theorem items_eq (k : Nat) : itemsR (k + 1) = isR endB (pureR so0) (bindR itemR fun x => mapR (itemsR k) (addI x)) := by
  unfold itemR
  rw [bind_at, itemsR]
  simp only [bind_opt, bind_map]
  rfl
theorem ru_item : Ru1 true true itemR := Ru1.at fun q =>
  Ru1.opt (by decide) ((ru_enum q).map _).rep ((ru_enum q).map _).con.len (Ru1.opt (by decide) ((ru_fn q).map _).rep ((ru_fn q).map _).con.len (ru_struct.map _))

/-- it takes two at least -/
def Con2 {α : Type} (R : Rd α) : Prop := ∀ l a r, R l = .ok a r → r.length + 2 ≤ l.length
theorem con2_bind {α β : Type} {R : Rd α} {F : α → Rd β} (h : Con R) (hF : ∀ a, Con (F a)) : Con2 (bindR R F) := fun l a r e => by
  unfold bindR at e
  cases h1 : R l with
  | no _ _ => rw [h1] at e; cases e
  | ok a1 r1 =>
    rw [h1] at e
    have := hF a1 _ _ _ e
    have := h _ _ _ h1
    omega
theorem con2_bindL {α β : Type} {R : Rd α} {F : α → Rd β} (h : Len R) (hF : ∀ a, Con2 (F a)) : Con2 (bindR R F) := fun l a r e => by
  unfold bindR at e
  cases h1 : R l with
  | no _ _ => rw [h1] at e; cases e
  | ok a1 r1 =>
    rw [h1] at e
    have := hF a1 _ _ _ e
    have := h _ _ _ h1
    omega
theorem con2_opt {α : Type} {w : List UInt8} {yes no : Rd α} (hw : w ≠ []) (hy : Con yes) (hn : Con2 no) : Con2 (optR w yes no) := fun l a r e => by
  unfold optR at e
  split at e
  · rename_i h
    have := hy _ _ _ e
    cases l with
    | nil => exact absurd h.symm (by simpa [hd, lastT] using hw)
    | cons t l => simp at *; omega
  · exact hn _ _ _ e
theorem con2_map {α β : Type} {R : Rd α} (f : α → β) (h : Con2 R) : Con2 (mapR R f) := fun l a r e => by
  unfold mapR bindR at e
  cases h1 : R l with
  | no _ _ => rw [h1] at e; cases e
  | ok a1 r1 => rw [h1] at e; cases e; exact h _ _ _ h1
theorem item_two : Con2 itemR := fun l a r e => by
  unfold itemR atR at e
  refine con2_opt (by decide) ((ru_enum _).map _).con (con2_opt (by decide) ((ru_fn _).map _).con (con2_map _ fun l a r e => ?_)) l a r e
  unfold structR atR at e
  refine con2_bindL (len_opt (len_pure _) (len_pure _)) (fun d => con2_bind (ru_need (by decide)).con fun _ => ?_) l a r e
  exact (ru_great.bindL fun _ => (ru_need (by decide)).bindL fun _ => (ru_rowL (by decide) (ru_sep ru_field.any)).map _).con

/-- what is read of a good row leaves a good one -/
theorem Ru1.rest {α : Type} {c s : Bool} {R : Rd α} (h : Ru1 c s R) {l r : List Tok} {a : α} (hg : Good l) (e : R l = .ok a r) : Good r ∧ ∃ b, b ≠ [] ∧ l = b ++ r := by
  have hc := h.con _ _ _ e
  rcases h.rep.rep [] l a r hg e with ⟨b, l2, e1, e2, _⟩ | ⟨b, e1, e2, e3, _⟩
  · obtain ⟨rfl, rfl⟩ : b = [] ∧ l2 = [] := by simpa using e1.symm
    simp only [List.nil_append] at e2
    subst e2
    exact absurd hc (Nat.lt_irrefl _)
  · exact ⟨e3, b, e1, e2⟩
/-- what it takes ends with a word -/
def EndW {α : Type} (w : List UInt8) (R : Rd α) : Prop := ∀ l a r, Good l → R l = .ok a r → ∃ b x, l = b ++ x :: r ∧ x.text = w
theorem endW_bind {α β : Type} {c s : Bool} {w : List UInt8} {R : Rd α} {F : α → Rd β} (h : Ru1 c s R) (hF : ∀ a, EndW w (F a)) : EndW w (bindR R F) := fun l a r hg e => by
  unfold bindR at e
  cases h1 : R l with
  | no _ _ => rw [h1] at e; cases e
  | ok a1 r1 =>
    rw [h1] at e
    obtain ⟨h2, b, _, rfl⟩ := h.rest hg h1
    obtain ⟨b2, x, rfl, hx⟩ := hF a1 _ _ _ h2 e
    exact ⟨b ++ b2, x, by simp, hx⟩
theorem endW_map {α β : Type} {w : List UInt8} {R : Rd α} (f : α → β) (h : EndW w R) : EndW w (mapR R f) := fun l a r hg e => by
  unfold mapR bindR at e
  cases h1 : R l with
  | no _ _ => rw [h1] at e; cases e
  | ok a1 r1 => rw [h1] at e; cases e; exact h _ _ _ hg h1
theorem endW_opt {α : Type} {w v : List UInt8} {yes no : Rd α} (hv : v ≠ []) (hy : EndW w yes) (hn : EndW w no) : EndW w (optR v yes no) := fun l a r hg e => by
  unfold optR at e
  split at e
  · rename_i ht
    cases l with
    | nil => exact absurd rfl hg.ne
    | cons t l =>
      obtain ⟨b, x, h1, hx⟩ := hy _ _ _ (hg.tail (not_dead hv ht)) e
      exact ⟨t :: b, x, by simpa using h1, hx⟩
  · exact hn _ _ _ hg e
theorem endW_row {α : Type} {w : List UInt8} (hw : w ≠ []) {f : Bool → Rd α} (hf : ∀ b, Ru1 false false (f b)) : ∀ k b, EndW w (rowR w f k b)
  | 0, _ => fun l a r _ e => by cases e
  | k + 1, b => fun l a r hg e => by
    rw [rowR] at e
    unfold optR at e
    split at e
    · rename_i ht
      cases l with
      | nil => exact absurd rfl hg.ne
      | cons t l =>
        cases e
        exact ⟨[], t, rfl, ht⟩
    · exact endW_bind (hf b) (fun _ => endW_map _ (endW_row hw hf k false)) _ _ _ hg e
theorem endW_rowL {α : Type} {w : List UInt8} (hw : w ≠ []) {f : Bool → Rd α} (hf : ∀ b, Ru1 false false (f b)) : EndW w (rowL w f) := fun l a r hg e => endW_row hw hf l.length true l a r hg e
theorem endW_block : ∀ n, EndW wRB (blockD n)
  | 0 => fun l a r _ e => absurd e (never_block l a r)
  | n + 1 => endW_bind (ru_need (by decide)) fun _ => endW_rowL (by decide) fun _ => ru_stmt (ru_block n)
theorem endW_item : EndW wRB itemR := fun l a r hg e => by
  unfold itemR atR at e
  refine endW_opt (by decide) (endW_map _ ?_) (endW_opt (by decide) (endW_map _ ?_) (endW_map _ fun l a r hg e => ?_)) l a r hg e
  · exact endW_bind ru_great fun _ => endW_bind (ru_need (by decide)) fun _ => endW_map _ (endW_rowL (by decide) (ru_sep ru_variant))
  · exact endW_bind ru_small fun _ => endW_bind (ru_need (by decide)) fun _ => endW_bind (ru_rowL (by decide) (ru_sep ru_field.any)) fun _ => endW_map _ (endW_block 60)
  · have h2 : ∀ d, EndW wRB (bindR (needR wStruct) fun _ => bindR greatR fun s => bindR (needR wLB) fun _ => mapR (rowL wRB (sepR fieldR)) fun l' => (⟨s, d, h0, l', (hd l).pos⟩ : Su5)) := fun d =>
      endW_bind (ru_need (by decide)) fun _ => endW_bind ru_great fun _ => endW_bind (ru_need (by decide)) fun _ => endW_map _ (endW_rowL (by decide) (ru_sep ru_field.any))
    unfold structR atR at e
    dsimp only at e
    rw [bind_opt, bind_pure, bind_pure] at e
    exact endW_opt (by decide) (h2 true) (h2 false) l a r hg e

theorem bindR_ok {α β : Type} {R : Rd α} {F : α → Rd β} {l r : List Tok} {b : β} (h : bindR R F l = .ok b r) : ∃ a m, R l = .ok a m ∧ F a m = .ok b r := by
  unfold bindR at h
  cases h1 : R l with
  | no _ _ => rw [h1] at h; cases h
  | ok a m => rw [h1] at h; exact ⟨a, m, rfl, h⟩
theorem mapR_ok {α β : Type} {R : Rd α} {f : α → β} {l r : List Tok} {b : β} (h : mapR R f l = .ok b r) : ∃ a, R l = .ok a r ∧ f a = b := by
  obtain ⟨a, m, h1, h2⟩ := bindR_ok h
  cases h2
  exact ⟨a, h1, rfl⟩
theorem bindR_of {α β : Type} {R : Rd α} {F : α → Rd β} {l m : List Tok} {a : α} (h : R l = .ok a m) : bindR R F l = F a m := by
  unfold bindR; rw [h]
theorem bindR_no {α β : Type} {R : Rd α} {F : α → Rd β} {l : List Tok} {e : Int} {p : Nat} (h : R l = .no e p) : bindR R F l = .no e p := by
  unfold bindR; rw [h]
theorem items_end {k : Nat} {e : Tok} {l : List Tok} (he : endB e = true) : itemsR (k + 1) (e :: l) = .ok so0 (e :: l) := by
  rw [items_eq, is_cons, if_pos he]
  rfl
theorem items_on {k : Nat} {t : Tok} {l : List Tok} (ht : ¬ endB t = true) : itemsR (k + 1) (t :: l) = bindR itemR (fun x => mapR (itemsR k) (addI x)) (t :: l) := by
  rw [items_eq, is_cons, if_neg ht]
/-- how much fuel does not matter -/
theorem items_fuel : ∀ (k k' : Nat) (l : List Tok), l.length < k → l.length < k' → itemsR k l = itemsR k' l
  | 0, _, _, h, _ => absurd h (Nat.not_lt_zero _)
  | _, 0, _, _, h => absurd h (Nat.not_lt_zero _)
  | k + 1, k' + 1, l, h, h' => by
    rw [items_eq, items_eq]
    unfold isR
    split
    · rfl
    · unfold bindR
      cases h1 : itemR l with
      | no _ _ => rfl
      | ok a m =>
        have := item_two _ _ _ h1
        simp only
        unfold mapR bindR
        rw [items_fuel k k' m (by omega) (by omega)]
/-- all but the last one are none -/
def Clean (l : List Tok) : Prop := ∃ p e, l = p ++ [e] ∧ dead e ∧ ∀ t ∈ p, t.k ≠ 0
theorem Clean.good {l : List Tok} (h : Clean l) : Good l := by obtain ⟨p, e, h1, h2, _⟩ := h; exact ⟨p, e, h1, h2⟩
theorem endB_of {t : Tok} (h : t.k ≠ 0) : ¬ endB t = true := by unfold endB; simpa using h
theorem endB_dead {t : Tok} (h : dead t) : endB t = true := by unfold endB; simpa using h.1
theorem source_fuel {l : List Tok} (hg : Clean l) {k : Nat} (hk : l.length ≤ k) : itemsR k l = sourceR l := by
  obtain ⟨p, e, rfl, he, hp⟩ := hg
  unfold sourceR
  cases p with
  | nil =>
    cases k with
    | zero => simp at hk
    | succ k =>
      show itemsR (k + 1) [e] = itemsR 1 [e]
      rw [items_end (endB_dead he), items_end (endB_dead he)]
  | cons t p =>
    cases k with
    | zero => simp at hk
    | succ k =>
      have ht := endB_of (hp t (by simp))
      show itemsR (k + 1) (t :: (p ++ [e])) = itemsR ((p ++ [e]).length + 1) (t :: (p ++ [e]))
      rw [items_on ht, items_on ht]
      unfold bindR
      cases h1 : itemR (t :: (p ++ [e])) with
      | no _ _ => rfl
      | ok a m =>
        have h2 := item_two _ _ _ h1
        simp only
        unfold mapR bindR
        simp only [List.cons_append, List.length_cons] at hk h2
        rw [items_fuel k (p ++ [e]).length m (by omega) (by omega)]
/-- a text that is cut off ahead of its last token -/
theorem items_cut : ∀ (n : Nat) (p : List Tok) (x e : Tok) (k : Nat) (s : So5) (r : List Tok), p.length ≤ n → (∀ t ∈ p ++ [x], t.k ≠ 0) → dead e → itemsR k (p ++ [x, e]) = .ok s r →
    x.text = wRB ∧ ∀ e' k', dead e' → p.length + 1 ≤ k' → itemsR k' (p ++ [e']) = .no 60 e'.pos := by
  intro n
  induction n with
  | zero =>
    intro p x e k s r hn hk he h
    obtain rfl : p = [] := List.length_eq_zero_iff.1 (by omega)
    cases k with
    | zero => cases h
    | succ k =>
      rw [List.nil_append, items_on (endB_of (hk x (by simp)))] at h
      obtain ⟨a, m, h1, h2⟩ := bindR_ok h
      have h3 := item_two _ _ _ h1
      have h4 : Good m := (ru_item.rest ⟨[x], e, rfl, he⟩ h1).1
      have := h4.pos
      simp only [List.nil_append, List.length_cons, List.length_nil] at h3
      omega
  | succ n ih =>
    intro p x e k s r hn hk he h
    have hg : Good (p ++ [x, e]) := ⟨p ++ [x], e, by simp, he⟩
    have hxe : Good [x, e] := ⟨[x], e, rfl, he⟩
    cases k with
    | zero => cases h
    | succ k =>
      obtain ⟨t, q, hq⟩ : ∃ t q, p ++ [x, e] = t :: q := by cases p with | nil => exact ⟨x, [e], rfl⟩ | cons t p => exact ⟨t, p ++ [x, e], rfl⟩
      have ht : t.k ≠ 0 := hk t (by
        have : p ++ [x] ++ [e] = t :: q := by rw [← hq]; simp
        cases p with
        | nil => simp at this; simp [this.1]
        | cons u p => simp at this; simp [this.1])
      rw [hq, items_on (endB_of ht), ← hq] at h
      obtain ⟨a, m, h1, h2⟩ := bindR_ok h
      obtain ⟨s', h3, _⟩ := mapR_ok h2
      have h4 := item_two _ _ _ h1
      rcases ru_item.rep.rep p [x, e] a m hxe h1 with ⟨b, l2, rfl, rfl, e3⟩ | ⟨b, e1, e2, e3, e4⟩
      · have hlt : l2.length < (b ++ l2).length := by simp at h4 ⊢; omega
        obtain ⟨i1, i2⟩ := ih l2 x e k s' r (by omega) (fun t ht => hk t (by
          rw [List.append_assoc]
          exact List.mem_append_right _ ht)) he h3
        refine ⟨i1, fun e' k' he' hk' => ?_⟩
        obtain ⟨k'', rfl⟩ : ∃ k'', k' = k'' + 1 := ⟨k' - 1, by omega⟩
        have h5 := e3 [e'] (Good.one he') (.inr (.inr rfl))
        have h6 := i2 e' k'' he' (by omega)
        obtain ⟨u, bb, rfl⟩ : ∃ u bb, b = u :: bb := by
          cases b with
          | nil => simp at hlt
          | cons u bb => exact ⟨u, bb, rfl⟩
        have h7 : ¬ endB u = true := endB_of (hk u (by simp))
        rw [show u :: bb ++ l2 ++ [e'] = u :: (bb ++ l2 ++ [e']) by simp, items_on h7]
        rw [show u :: bb ++ l2 ++ [e'] = u :: (bb ++ l2 ++ [e']) by simp] at h5
        rw [bindR_of h5]
        exact bindR_no h6
      · obtain ⟨bx, x', hbx, hx'⟩ := endW_item _ _ _ hg h1
        have hm : m = [e] := by
          have h5 := e3.pos
          cases b with
          | nil => exact absurd rfl e1
          | cons u b =>
            simp at e2
            cases b with
            | nil => simpa using e2.2.symm
            | cons v b =>
              have := congrArg List.length e2.2
              simp only [List.length_cons, List.length_append, List.length_nil] at this
              omega
        subst hm
        have hpx : p ++ [x] = bx ++ [x'] := by
          have : (p ++ [x]) ++ [e] = (bx ++ [x']) ++ [e] := by simpa using hbx
          exact List.append_cancel_right this
        have hxx : x = x' := by
          have := congrArg List.getLast? hpx
          simpa using this
        refine ⟨hxx ▸ hx', fun e' k' he' hk' => ?_⟩
        obtain ⟨k'', rfl⟩ : ∃ k'', k' = k'' + 1 := ⟨k' - 1, by omega⟩
        cases p with
        | nil => simp at h4
        | cons u p =>
          rcases e4 e' he' with h5 | ⟨h5, _⟩
          · rw [List.cons_append, items_on (endB_of (hk u (by simp)))]
            exact bindR_no h5
          · cases h5
/-- two texts one behind the other -/
def joinS (x y : So5) : So5 := { y with structs := x.structs ++ y.structs, enums := x.enums ++ y.enums, fns := x.fns ++ y.fns }
def glueS (x : So5) : Rs So5 → Rs So5
  | .ok y r => .ok (joinS x y) r
  | .no e p => .no e p
theorem items_glue : ∀ (n : Nat) (p : List Tok) (e : Tok) (k : Nat) (x : So5) (r : List Tok), p.length ≤ n → (∀ t ∈ p, t.k ≠ 0) → dead e → itemsR k (p ++ [e]) = .ok x r →
    ∀ q k', Good q → p.length + q.length < k' → itemsR k' (p ++ q) = glueS x (itemsR k' q) := by
  intro n
  induction n with
  | zero =>
    intro p e k x r hn hk he h q k' hq hk'
    obtain rfl : p = [] := List.length_eq_zero_iff.1 (by omega)
    cases k with
    | zero => cases h
    | succ k =>
      rw [List.nil_append, items_end (endB_dead he)] at h
      cases h
      rw [List.nil_append]
      cases itemsR k' q with
      | no _ _ => rfl
      | ok y r => cases y; rfl
  | succ n ih =>
    intro p e k x r hn hk he h q k' hq hk'
    cases k with
    | zero => cases h
    | succ k =>
      cases p with
      | nil =>
        rw [List.nil_append, items_end (endB_dead he)] at h
        cases h
        rw [List.nil_append]
        cases itemsR k' q with
        | no _ _ => rfl
        | ok y r => cases y; rfl
      | cons t p =>
        have ht := endB_of (hk t (by simp))
        rw [List.cons_append, items_on ht, ← List.cons_append] at h
        obtain ⟨a, m, h1, h2⟩ := bindR_ok h
        obtain ⟨s', h3, h3'⟩ := mapR_ok h2
        have h4 := item_two _ _ _ h1
        rcases ru_item.rep.rep (t :: p) [e] a m (Good.one he) h1 with ⟨b, l2, e1, rfl, e3⟩ | ⟨b, e1, e2, e3, e4⟩
        · have h5 := e3 q hq (.inr (.inr rfl))
          obtain ⟨k'', rfl⟩ : ∃ k'', k' = k'' + 1 := ⟨k' - 1, by omega⟩
          have hlen : (t :: p).length = b.length + l2.length := by rw [e1]; simp
          have hl2 : l2.length < (t :: p).length := by simp at h4 ⊢; omega
          have h6 := ih l2 e k s' r (by simp at hn hl2; omega) (fun u hu => hk u (by rw [e1]; exact List.mem_append_right _ hu)) he h3 q k'' hq (by simp at hk' hl2; omega)
          have h7 : itemsR (k'' + 1) q = itemsR k'' q := items_fuel _ _ _ (by omega) (by simp at hk'; omega)
          rw [List.cons_append, items_on ht, ← List.cons_append, bindR_of h5, h7]
          unfold mapR bindR
          rw [h6]
          subst h3'
          cases itemsR k'' q with
          | no _ _ => rfl
          | ok y r => cases a <;> rfl
        · have := e3.pos
          cases b with
          | nil => exact absurd rfl e1
          | cons u b =>
            have h9 := congrArg List.length e2
            simp only [List.length_cons, List.length_append, List.length_nil] at h9
            omega
end Go.Proofs.YtggdpgaedmegbaaGreatDoor

namespace Go.Proofs.YtggdpgaedmegbaaGreatDoor
open Go.RowKit

theorem results_one {P : Program} {fn : Func} {tmps : Array Value} {a : Tmp} {t : TypeId} {w : World} {b : Nat} {cs : List Value} {d : TypeDesc} (hf : fn.results = #[.cell a t]) (ha : tmps.getD a undef = .pointer (some ⟨b, 0, none⟩)) (hc : w.rangeAt b 0 cs)
    (hu : P.underlying t = some d) (hd : d.isRow = true) (hi : (P.info? t).map (·.size) = some cs.length) : (results fn tmps).run P w = .ok (.agg cs.toArray) w := by
  unfold results
  rw [hf]
  have h := run_loadVar_mid (P := P) w b 0 t cs d hc hu hd hi
  have ha' : tmps[a]?.getD undef = .pointer (some ⟨b, 0, none⟩) := by simpa using ha
  simp [asAddr, ha', h, Sem.run_bind, Result.andThen]
theorem results_two {P : Program} {fn : Func} {tmps : Array Value} {a c : Tmp} {t : TypeId} {w : World} {b : Nat} {v : Value} {cs : List Value} {d : TypeDesc} (hf : fn.results = #[.cell a t, .tmp c]) (ha : tmps.getD a undef = .pointer (some ⟨b, 0, none⟩)) (hv : tmps.getD c undef = v) (hc : w.rangeAt b 0 cs)
    (hu : P.underlying t = some d) (hd : d.isRow = true) (hi : (P.info? t).map (·.size) = some cs.length) : (results fn tmps).run P w = .ok (.tuple #[.agg cs.toArray, v]) w := by
  unfold results
  rw [hf]
  have h := run_loadVar_mid (P := P) w b 0 t cs d hc hu hd hi
  have ha' : tmps[a]?.getD undef = .pointer (some ⟨b, 0, none⟩) := by simpa using ha
  have hv' : tmps[c]?.getD undef = v := by simpa using hv
  simp [asAddr, ha', h, hv', Sem.run_bind, Result.andThen]
/-- A store of many cells, as one operation. -/
theorem wp_store_box {P : Program} {op : Oper} {a : Act} {w : World} {K : Act → World → Prop} {Q : Exit → Act → World → Prop} (ty : TypeId) (x y : Operand) (ho : op.op = .store ty x y) (b o : Nat)
    (hx : a.eval x = .pointer (some ⟨b, o, none⟩)) (v : Value) (hy : a.eval y = v) (vs : List Value) (hv : v.cells = vs.toArray) (cs : List Value) (t : TypeId) (hbox : w.heap[b]? = some (.cells cs.toArray t)) (hlen : o + vs.length ≤ cs.length)
    (hi : (P.info? ty).map (·.size) = some vs.length) (h1 : ∀ v ∈ vs, v.oneCell' = true) (B : Nat) (hB : B ≤ b) (w0 : World) (hb0 : Below B w0 w)
    (h : ∀ W, Below B w0 W → W.heap[b]? = some (.cells (splL cs o vs).toArray t) → (∀ k, k ≠ b → W.heap[k]? = w.heap[k]?) → K (a.put op.dst undef) W) : op.wp P a w K Q := by
  unfold Oper.wp execOp
  have hr := run_storeVar_box (P := P) w b o ty v vs hv (there_box hbox o _ hlen) hi h1
  simp only [ho, hx, hy, Instr.storeAt, Instr.sureAddr, Sem.run_bind, Sem.run_pure, Result.andThen_ok, hr]
  exact h _ (below_setCells B b hB _ _ _ _ hb0) (heap_setCells b t vs o w cs hbox) (fun k hk => heap_setCells_other b k hk vs o w)
theorem RdAt.dr {w : World} {b g cap : Nat} {ts : List Tok} {i dp : Nat} (h : RdAt w b g cap ts i dp) : RdAt w.drew b g cap ts i dp := h.under ⟨rfl, rfl, rfl, Nat.le_refl _, fun _ _ => rfl⟩
end Go.Proofs.YtggdpgaedmegbaaGreatDoor

namespace Go.Proofs.YtggdpgaedmegbaaGreatDoor
open Go.RowKit

def setPos (q : Int) : St5 → St5
  | .mk k _ nm ty p rv op ht th he el ha ar => .mk k q nm ty p rv op ht th he el ha ar
def ofBlocksR (blk : Rd (List St5)) : Rd (Option St5) :=
  optR wIf (bindR operR fun o => bindR blk fun th => optR wElse (mapR blk fun el => some (st5 2 0 nil5 ty0 pl0 rv0 o th el [])) (pureR (some (st5 2 0 nil5 ty0 pl0 rv0 o th [] []))))
  (optR wWhile (bindR operR fun o => mapR blk fun th => some (st5 3 0 nil5 ty0 pl0 rv0 o th [] []))
  (optR wMatch (bindR aloneR fun p => bindR (needR wLB) fun _ => mapR (rowL wRB fun _ => armR blk) fun l => some (st5 4 0 nil5 ty0 p rv0 op0 [] [] l))
  (pureR none)))
theorem plain_pos (q : Int) : plainR q = mapR (plainR 0) (setPos q) := by
  simp only [plainR, mapR, bind_opt, bind_bind, bind_pure]
  rfl
/-- the second half of a statement -/
def restR (q : Int) : Option St5 → Rd St5
  | some s => pureR (setPos q s)
  | none => bindR (plainR 0) fun s => mapR (needR wSemi) fun _ => setPos q s
theorem stmt_eq (blk : Rd (List St5)) : stmtR blk = atR fun q => bindR (ofBlocksR blk) (restR q) := by
  unfold stmtR ofBlocksR
  congr 1
  funext q
  rw [plain_pos]
  simp only [mapR, bind_opt, bind_bind, bind_pure, restR]
  rfl
theorem erSt_pos (q : Int) (x : St5) : erSt (setPos q x) = setPos q (erSt x) := by
  cases x
  rw [setPos, erSt, erSt, setPos]
theorem StH.setPos {n : Nat} {w : World} {x : St5} (h : StH n w x) (q : Int) : StH n w (Go.Proofs.YtggdpgaedmegbaaGreatDoor.setPos q x) := by
  cases n with
  | zero => unfold StH at h; exact h.elim
  | succ n => cases x; unfold Go.Proofs.YtggdpgaedmegbaaGreatDoor.setPos StH at *; exact h
theorem th_of {α : Type} {F b g cap : Nat} {ts : List Tok} {dp : Nat} {R : Rd α} {val : α → Value} {er : α → α} {P : World → α → Prop}
    (h : ∀ (w : World) (i : Nat), RdAt w b g cap ts i dp → Calls Tryz.prog F #[.pointer (some ⟨b, 0, none⟩)] w (RPost w b g cap ts i dp (R (ts.drop i)) (VOf val er P))) :
    ThC F #[.pointer (some ⟨b, 0, none⟩)] b g cap ts dp none (fun _ _ => True) (fun _ => R) val er P := fun fl w i H _ => by
  refine (h w i H).mono ?_
  rintro e w' ⟨hk, h2⟩
  refine ⟨Ko.of hk, ?_⟩
  show match R (ts.drop i) with
    | .ok a l => ∃ j v, e = .returned v ∧ l = ts.drop j ∧ RdAt w' b g cap ts j dp ∧ True ∧ VOf val er P w' w.heap.size v a
    | .no er p => e = faultE er p
  revert h2
  cases R (ts.drop i) with
  | ok a l => exact fun ⟨j, v, h1, h2, _, h4, h5⟩ => ⟨j, v, h1, h2, h4, trivial, h5⟩
  | no e p => exact id
theorem RPost.of_row {α : Type} {w w' : World} {b g cap : Nat} {ts : List Tok} {i dp : Nat} {S : Bool → World → Prop} {sz : Nat} {C : α → List Value} {er : α → α} {P : World → α → Prop} {r : Rs (List α)} {e : Ending}
    (hi : i < ts.length) (hN : ∀ a l, r = .ok a l → l.length ≤ (ts.drop i).length) (h : RowPost w b g cap ts dp none S sz C er P r e w') : RPost w b g cap ts i dp r (VRow sz C er P) e w' := by
  obtain ⟨hk, h2⟩ := h
  refine ⟨hk.kb, ?_⟩
  cases r with
  | no er p => exact h2
  | ok a l =>
    obtain ⟨j, v, fl, h1, rfl, h3, _, h5⟩ := h2
    refine ⟨j, v, h1, rfl, ?_, h3, h5⟩
    have := hN _ _ rfl
    rw [List.length_drop, List.length_drop] at this
    have := h3.lt
    omega
/-- what ofBlocks hands back -/
def VOB (n : Nat) (w : World) (B : Nat) (v : Value) : Option St5 → Prop
  | some s => ∃ x, v = .tuple #[stV x, .bool true] ∧ erSt x = s ∧ StH n (eb w B none) x
  | none => ∃ x, v = .tuple #[stV x, .bool false] ∧ x = St5.mk 0 0 nil5 ty0 pl0 rv0 op0 h0 [] h0 [] h0 []
theorem arms_row {w : World} {b g cap : Nat} {ts : List Tok} {i dp n : Nat} (H : RdAt w b g cap ts i dp) (R : Rd Ar5) (hc : Con R)
    (h : ∀ (w : World) (i : Nat), RdAt w b g cap ts i dp → Calls Tryz.prog 330 #[.pointer (some ⟨b, 0, none⟩)] w (RPost w b g cap ts i dp (R (ts.drop i)) (VAr n))) :
    Calls Tryz.prog 329 #[.pointer (some ⟨b, 0, none⟩), .string (strB wRB), (.func (.func 330) #[.pointer (some ⟨b, 0, none⟩)] #[])] w (RPost w b g cap ts i dp (rowL wRB (fun _ => R) (ts.drop i)) (VRow 3 arC erAr (ArH n))) :=
  (row_Arm H wRB (by decide) (o := none) (S := fun _ _ => True) (fun _ => R) (th_of h) trivial (fun _ e => by cases e) (fun _ _ _ _ _ _ => trivial) (fun _ => hc)).mono fun e w' hp =>
    RPost.of_row H.lt (fun a l h => Nat.le_of_lt (con_row (by decide) (fun _ => hc) _ _ _ _ _ h)) hp
end Go.Proofs.YtggdpgaedmegbaaGreatDoor
