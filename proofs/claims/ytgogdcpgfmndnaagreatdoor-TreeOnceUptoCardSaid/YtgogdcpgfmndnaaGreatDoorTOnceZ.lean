/-
  TreeOnce: what is valid is told by its text, and the law's own walk. Plain lemmas beside the walk.
-/
import Derived.Test.YtgogdcpgfmndnaaGreatDoorTTextA
import Derived.Test.YtgogdcpgfmndnaaGreatDoorTSize
import Derived.Test.YtgogdcpgfmndnaaGreatDoorTLarge
import Derived.Test.YtgogdcpgfmndnaaGreatDoorTSameA
import Derived.Test.YtgogdcpgfmndnaaGreatDoorTLargeB
import Derived.Test.YtgogdcpgfmndnaaGreatDoorTWorks
namespace Go.Proofs.YtgogdcpgfmndnaaGreatDoor
open Go.RowKit

/-- No newline in it. -/
def nl0 (l : List UInt8) : Prop := ∀ c, c ∈ l → c ≠ 10
theorem nl0_app {a b : List UInt8} (ha : nl0 a) (hb : nl0 b) : nl0 (a ++ b) := fun c hc => (List.mem_append.1 hc).elim (ha c) (hb c)
theorem nl0_flat {α : Type} {T : α → List UInt8} {l : List α} (h : ∀ x, x ∈ l → nl0 (T x)) : nl0 (l.flatMap T) := fun c hc => by
  obtain ⟨x, hx, hcx⟩ := List.mem_flatMap.1 hc
  exact h x hx c hcx
theorem name_nl {c : UInt8} (h : nameB c = true) : c ≠ 10 := by
  intro e
  subst e
  revert h
  decide
theorem letter_nl {c : UInt8} (h : letterB c = true) : c ≠ 10 := by
  intro e
  subst e
  revert h
  decide
theorem span_all (f : UInt8 → Bool) : ∀ l, spanN f l = l.length → ∀ c, c ∈ l → f c = true
  | [], _, _, hc => by cases hc
  | x :: r, h, c, hc => by
    rw [spanN] at h
    by_cases hf : f x = true
    · rw [if_pos hf] at h
      cases List.mem_cons.1 hc with
      | inl e => rw [e]; exact hf
      | inr e => exact span_all f r (by simpa using h) c e
    · rw [if_neg hf] at h
      simp at h
theorem word_nl {l : List UInt8} (h : wordB l = true) : nl0 l := by
  cases l with
  | nil => cases h
  | cons x r =>
    simp only [wordB, Bool.and_eq_true, decide_eq_true_eq] at h
    intro c hc
    cases List.mem_cons.1 hc with
    | inl e => rw [e]; exact letter_nl h.1.2
    | inr e => exact name_nl (span_all nameB r h.2 c e)
theorem free_nl {s : ByteArray} (h : freeN s = true) : nl0 (bs s) := by
  simp only [freeN, Bool.and_eq_true] at h
  exact word_nl h.1
theorem small_nl {s : ByteArray} (h : smallN s = true) : nl0 (bs s) := by
  simp only [smallN, Bool.and_eq_true] at h
  exact free_nl h.1
theorem great_nl {s : ByteArray} (h : greatN s = true) : nl0 (bs s) := by
  simp only [greatN, Bool.and_eq_true] at h
  exact free_nl h.1
theorem empty_nl {s : ByteArray} (h : emptyN s = true) : nl0 (bs s) := by
  have := empty_of h
  subst this
  intro c hc
  cases hc
theorem lit_nl {l : List UInt8} (h : (l.all fun c => c != 10) = true) : nl0 l := fun c hc e => by
  have := List.all_eq_true.1 h c hc
  subst e
  cases this
theorem around_nl (k : Int) : nl0 (bs (aroundS k)) := by
  rw [aroundS]
  split
  · exact lit_nl rfl
  · split
    · exact lit_nl rfl
    · split
      · exact lit_nl rfl
      · exact lit_nl rfl
theorem inner_nl {k : Int} {nm : ByteArray} {h : Hd} {l : List Ty5} (hv : innerOk (.mk k nm h l) = true) : nl0 (innT (.mk k nm h l)) := by
  rw [innerOk] at hv
  simp only [Bool.and_eq_true] at hv
  have h2 := hv.2
  rw [innT]
  by_cases k1 : k = 1
  · rw [if_pos k1]; exact lit_nl rfl
  · rw [if_neg k1] at h2 ⊢
    by_cases k2 : k = 2
    · rw [if_pos k2] at h2
      rw [if_pos (Or.inl k2)]
      exact great_nl h2
    · rw [if_neg k2] at h2
      by_cases k7 : k = 7
      · rw [if_pos k7] at h2
        have k3 : ¬ k = 3 := by omega
        rw [if_neg (by simp [k2, k3]), if_pos k7]
        exact nl0_app (lit_nl rfl) (small_nl h2)
      · rw [if_neg k7] at h2
        cases h2
theorem ty_nl : ∀ (t : Ty5) (d : Nat), tyOk d t = true → nl0 (tyT t)
  | .mk k nm h [t], d, hv => by
    cases hk : aroundB k with
    | true =>
      rw [tyT_one hk]
      refine nl0_app (around_nl k) ?_
      cases d with
      | zero => rw [tyOk_zero hk] at hv; cases hv
      | succ d =>
        rw [tyOk_one d hk] at hv
        simp only [Bool.and_eq_true] at hv
        exact ty_nl t d hv.2
    | false =>
      rw [tyT_no hk]
      exact inner_nl (by rw [tyOk_no d hk] at hv; exact hv)
  | .mk k nm h [], d, hv => by
    rw [tyT_len (by simp)]
    cases hk : aroundB k with
    | true =>
      cases d with
      | zero => rw [tyOk_zero hk] at hv; cases hv
      | succ d => rw [tyOk_len d hk (by simp)] at hv; cases hv
    | false => exact inner_nl (by rw [tyOk_no d hk] at hv; exact hv)
  | .mk k nm h (a :: b :: r), d, hv => by
    rw [tyT_len (by simp)]
    cases hk : aroundB k with
    | true =>
      cases d with
      | zero => rw [tyOk_zero hk] at hv; cases hv
      | succ d => rw [tyOk_len d hk (by simp)] at hv; cases hv
    | false => exact inner_nl (by rw [tyOk_no d hk] at hv; exact hv)
theorem pl_nl {p : Pl5} (h : plOk p = true) : nl0 (plT p) := by
  simp only [plOk, Bool.and_eq_true] at h
  refine nl0_app (small_nl h.1) (nl0_flat fun f hf => ?_)
  have h2 := List.all_eq_true.1 h.2 f hf
  simp only [stepOk, Bool.or_eq_true] at h2
  rw [stepT]
  cases he : emptyN f with
  | true => exact lit_nl rfl
  | false =>
    rw [he] at h2
    have := small_nl (h2.resolve_left (by decide))
    intro c hc
    cases List.mem_cons.1 hc with
    | inl e => rw [e]; decide
    | inr e => exact this c (by simpa using e)
theorem alone_nl {p : Pl5} (h : aloneB p = true) : nl0 (plT p) := by
  simp only [aloneB, Bool.and_eq_true, decide_eq_true_eq] at h
  rw [plT, List.eq_nil_of_length_eq_zero h.2]
  exact nl0_app (small_nl h.1) (lit_nl rfl)
theorem dec_nl (n : Nat) : nl0 (Lib.decDigits n) := by
  induction n using Nat.strongRecOn with
  | _ n ih =>
    have hd : ∀ u, u < 10 → UInt8.ofNat (48 + u) ≠ 10 := by decide
    rw [Lib.decDigits]
    split
    · rename_i h
      intro c hc
      rw [List.mem_singleton.1 hc]
      exact hd n h
    · refine nl0_app (ih (n / 10) (by omega)) fun c hc => ?_
      rw [List.mem_singleton.1 hc]
      exact hd _ (by omega)

theorem itoa_nl (n : Int) : nl0 (Lib.itoa n) := by
  unfold Lib.itoa
  split
  · intro c hc
    cases List.mem_cons.1 hc with
    | inl e => rw [e]; decide
    | inr e => exact dec_nl _ c e
  · exact dec_nl _
theorem op_nl {o : Op5} (h : opOk o = true) : nl0 (opT o) := by
  rw [opOk] at h
  rw [opT]
  split
  · exact itoa_nl _
  · rename_i hn
    rw [if_neg hn] at h
    simp only [Bool.and_eq_true] at h
    exact pl_nl h.2
theorem operand_nl {v : Rv5} (h : v.ops.all opOk = true) (i : Nat) : nl0 (operandT v i) := by
  rw [operandT]
  split
  · rename_i o ho
    exact op_nl (List.all_eq_true.1 h o (List.mem_of_getElem? ho))
  · exact lit_nl rfl
theorem list_nl {α : Type} {T : α → List UInt8} {l : List α} (h : ∀ x, x ∈ l → nl0 (T x)) : nl0 (listT T l) := by
  cases l with
  | nil => exact lit_nl rfl
  | cons x r =>
    rw [listT]
    exact nl0_app (h x (by simp)) (nl0_flat fun y hy => nl0_app (lit_nl rfl) (h y (by simp [hy])))
theorem args_nl {v : Rv5} (h : v.ops.all opOk = true) : nl0 (argsT v) :=
  nl0_app (nl0_app (lit_nl rfl) (list_nl fun o ho => op_nl (List.all_eq_true.1 h o ho))) (lit_nl rfl)
theorem sign_nl (k : Int) : nl0 (signT k) := by
  rw [signT]
  split
  · exact lit_nl rfl
  · split
    · exact lit_nl rfl
    · split
      · exact lit_nl rfl
      · split
        · exact lit_nl rfl
        · exact lit_nl rfl
theorem nl0_ite {c : Prop} [Decidable c] {a b : List UInt8} (h1 : c → nl0 a) (h2 : ¬ c → nl0 b) : nl0 (if c then a else b) := by
  by_cases h : c
  · rw [if_pos h]; exact h1 h
  · rw [if_neg h]; exact h2 h
theorem set_nl {v : Rv5} (h : rvOk v = true) : nl0 (setT v) := by
  simp only [rvOk, Bool.and_eq_true] at h
  obtain ⟨⟨⟨hn, hp⟩, ho⟩, hc⟩ := h
  have p1 : (v.k = 6 ∨ v.k = 7) → nl0 (plT v.p) := fun hk => pl_nl (by rw [placeOk, if_pos hk] at hp; exact hp)
  have p2 : (v.k = 9 ∨ v.k = 13 ∨ v.k = 14) → nl0 (plT v.p) := fun hk => alone_nl (by rw [placeOk, if_neg (by omega), if_pos hk] at hp; exact hp)
  have o0 := operand_nl ho 0
  have o1 := operand_nl ho 1
  have ar := args_nl ho
  rw [setT]
  refine nl0_ite (fun _ => o0) fun _ => ?_
  refine nl0_ite (fun _ => nl0_app (nl0_app o0 (sign_nl _)) o1) fun _ => ?_
  refine nl0_ite (fun hk => nl0_app (lit_nl rfl) (p1 (Or.inl hk))) fun _ => ?_
  refine nl0_ite (fun hk => nl0_app (lit_nl rfl) (p1 (Or.inr hk))) fun _ => ?_
  refine nl0_ite (fun _ => nl0_app (lit_nl rfl) o0) fun _ => ?_
  refine nl0_ite (fun hk => nl0_app (lit_nl rfl) (p2 (Or.inl hk))) fun _ => ?_
  refine nl0_ite (fun hk => ?_) fun hk0 => ?_
  · rw [namesOk, if_pos hk] at hn
    simp only [Bool.and_eq_true] at hn
    exact nl0_app (great_nl hn.1) ar
  refine nl0_ite (fun hk => ?_) fun hk1 => ?_
  · rw [namesOk, if_neg hk0, if_pos hk] at hn
    simp only [Bool.and_eq_true] at hn
    rw [variantT]
    exact nl0_app (nl0_app (nl0_app (great_nl hn.1) (lit_nl rfl)) (great_nl hn.2)) (nl0_ite (fun _ => ar) fun _ => lit_nl rfl)
  refine nl0_ite (fun hk => ?_) fun hk2 => ?_
  · rw [namesOk, if_neg hk0, if_neg hk1, if_pos hk] at hn
    simp only [Bool.and_eq_true] at hn
    exact nl0_app (nl0_app (lit_nl rfl) (small_nl hn.1)) ar
  refine nl0_ite (fun hk => nl0_app (lit_nl rfl) (p2 (Or.inr (Or.inl hk)))) fun _ => ?_
  refine nl0_ite (fun hk => nl0_app (lit_nl rfl) (p2 (Or.inr (Or.inr hk)))) fun _ => ?_
  exact nl0_ite (fun _ => nl0_app (lit_nl rfl) o0) fun _ => lit_nl rfl

theorem box_two (w : World) (A B : Array Value) (s t : TypeId) : Below w.heap.size w ((w.alloc (.cells A s)).alloc (.cells B t)) ∧ ((w.alloc (.cells A s)).alloc (.cells B t)).heap[w.heap.size]? = some (.cells A s) ∧ ((w.alloc (.cells A s)).alloc (.cells B t)).heap[w.heap.size + 1]? = some (.cells B t) := by
  refine ⟨((Below.refl _ _).alloc (Nat.le_refl _) _).alloc (by simp) _, ?_, ?_⟩
  · rw [heap_alloc_old _ _ (by simp), heap_alloc_new]
  · have := heap_alloc_new (w.alloc (.cells A s)) (.cells B t)
    simpa using this

theorem all_eq {α : Type} {g : α → α → Bool} {T : α → List UInt8} : ∀ {a b : List α}, (∀ x y, x ∈ a → g x y = true → T x = T y) → eqL g a b = true → a.map T = b.map T
  | [], [], _, _ => rfl
  | [], _ :: _, _, h => by cases h
  | _ :: _, [], _, h => by cases h
  | x :: a, y :: b, hg, h => by
    rw [eqL] at h
    simp only [Bool.and_eq_true] at h
    rw [List.map_cons, List.map_cons, hg x y (by simp) h.1, all_eq (fun x y hx => hg x y (by simp [hx])) h.2]
theorem flat_eq {α : Type} {T : α → List UInt8} {a b : List α} (h : a.map T = b.map T) : a.flatMap T = b.flatMap T := by
  rw [List.flatMap_def, List.flatMap_def, h]
theorem listT_eq {α : Type} {T : α → List UInt8} : ∀ {a b : List α}, a.map T = b.map T → listT T a = listT T b
  | [], [], _ => rfl
  | [], _ :: _, h => by cases h
  | _ :: _, [], h => by cases h
  | x :: a, y :: b, h => by
    have h1 : T x = T y := (List.cons.inj h).1
    have h2 : a.map T = b.map T := (List.cons.inj h).2
    have e : ∀ l : List α, l.flatMap (fun y => [44, 32] ++ T y) = (l.map T).flatMap fun t => [44, 32] ++ t := fun l => by rw [List.flatMap_map]
    rw [listT, listT, h1, e, e, h2]
theorem step_eq {a b : List ByteArray} (h : eqL stepEq a b = true) : a = b := by
  have : ∀ (a b : List ByteArray), eqL stepEq a b = true → a = b := by
    intro a
    induction a with
    | nil => intro b h; cases b with
      | nil => rfl
      | cons y b => cases h
    | cons x a ih => intro b h; cases b with
      | nil => cases h
      | cons y b =>
        rw [eqL] at h
        simp only [Bool.and_eq_true, stepEq, decide_eq_true_eq] at h
        rw [h.1, ih b h.2]
  exact this a b h
theorem plT_same {a b : Pl5} (h : plEq a b = true) : plT a = plT b := by
  simp only [plEq, Bool.and_eq_true, decide_eq_true_eq] at h
  rw [plT, plT, h.1, step_eq h.2]
theorem eqL_length {α : Type} {g : α → α → Bool} {a b : List α} (h : eqL g a b = true) : a.length = b.length := by
  rcases Nat.decEq a.length b.length with h1 | h1
  · rw [eqL_len g h1] at h
    cases h
  · exact h1
theorem tyT_same : ∀ (a b : Ty5), tyEq a b = true → tyT a = tyT b
  | .mk k nm h l, .mk k' nm' h' l', he => by
    rw [tyEq, tysEq_eq] at he
    simp only [Bool.and_eq_true, decide_eq_true_eq] at he
    obtain ⟨⟨rfl, rfl⟩, he⟩ := he
    have hl := eqL_length he
    have hi : innT (.mk k nm h l) = innT (.mk k nm h' l') := by rw [innT, innT]
    match l, l', hl, he with
    | [], [], _, _ => rw [tyT_len (by simp), tyT_len (by simp)]; rfl
    | [t], [t'], _, he =>
      rw [eqL, eqL, Bool.and_true] at he
      cases hk : aroundB k with
      | true => rw [tyT_one hk, tyT_one hk, tyT_same t t' he]
      | false => rw [tyT_no hk, tyT_no hk]; rfl
    | x :: y :: r, x' :: y' :: r', _, _ => rw [tyT_len (by simp), tyT_len (by simp)]; rfl
theorem opT_same {a b : Op5} (h : opEq a b = true) : opT a = opT b := by
  simp only [opEq, Bool.and_eq_true, decide_eq_true_eq] at h
  obtain ⟨⟨h1, h2⟩, h3⟩ := h
  rw [opT, opT, h1, h2, plT_same h3]
theorem operandT_same {a b : Rv5} (h : eqL opEq a.ops b.ops = true) (i : Nat) : operandT a i = operandT b i := by
  have hm := all_eq (T := opT) (fun x y _ h => opT_same h) h
  have h1 : (a.ops[i]?).map opT = (b.ops[i]?).map opT := by rw [← List.getElem?_map, ← List.getElem?_map, hm]
  rw [operandT, operandT]
  cases ha : a.ops[i]? with
  | none =>
    cases hb : b.ops[i]? with
    | none => rfl
    | some y => rw [ha, hb] at h1; cases h1
  | some x =>
    cases hb : b.ops[i]? with
    | none => rw [ha, hb] at h1; cases h1
    | some y => rw [ha, hb] at h1; exact Option.some.inj h1
theorem setT_same {a b : Rv5} (h : rvEq a b = true) : setT a = setT b := by
  simp only [rvEq, Bool.and_eq_true, decide_eq_true_eq] at h
  obtain ⟨⟨⟨⟨hk, hn⟩, hr⟩, hp⟩, ho⟩ := h
  have e1 := operandT_same ho 0
  have e2 := operandT_same ho 1
  have e3 : argsT a = argsT b := by rw [argsT, argsT, listT_eq (all_eq (fun x y _ h => opT_same h) ho)]
  have e4 := plT_same hp
  have e5 : variantT a = variantT b := by rw [variantT, variantT, hn, hr, eqL_length ho, e3]
  rw [setT, setT, hk, hn, e1, e2, e3, e4, e5]
theorem fieldT_same {a b : Fd5} (h : fdEq a b = true) : fieldT a = fieldT b := by
  simp only [fdEq, Bool.and_eq_true, decide_eq_true_eq] at h
  rw [fieldT, fieldT, h.1, tyT_same _ _ h.2]
theorem tyK_same {a b : Ty5} (h : tyEq a b = true) : tyK a = tyK b := by
  obtain ⟨k, nm, hh, l⟩ := a
  obtain ⟨k', nm', hh', l'⟩ := b
  rw [tyEq] at h
  simp only [Bool.and_eq_true, decide_eq_true_eq] at h
  exact h.1.1
theorem vaT_same {a b : Fd5} (h : fdEq a b = true) : vaT a = vaT b := by
  simp only [fdEq, Bool.and_eq_true, decide_eq_true_eq] at h
  rw [vaT, vaT, h.1, tyT_same _ _ h.2, tyK_same h.2]
theorem bracesT_same {T : Fd5 → List UInt8} (hT : ∀ a b, fdEq a b = true → T a = T b) {a b : List Fd5} (h : eqL fdEq a b = true) : bracesT T a = bracesT T b := by
  rw [bracesT, bracesT, eqL_length h, listT_eq (all_eq (fun x y _ h => hT x y h) h)]
theorem structT_same {a b : Su5} (h : suEq a b = true) : structT a = structT b := by
  simp only [suEq, Bool.and_eq_true, decide_eq_true_eq] at h
  rw [structT, structT, h.1.1, h.1.2, bracesT_same (fun _ _ => fieldT_same) h.2]
theorem enumT_same {a b : En5} (h : enEq a b = true) : enumT a = enumT b := by
  simp only [enEq, Bool.and_eq_true, decide_eq_true_eq] at h
  rw [enumT, enumT, h.1, bracesT_same (fun _ _ => vaT_same) h.2]
mutual
theorem stT_same : ∀ (a b : St5) (t : Nat), stEq a b = true → stT t a = stT t b
  | .mk k _ nm ty p rv op _ th _ el _ ar, .mk k' _ nm' ty' p' rv' op' _ th' _ el' _ ar', t, h => by
    rw [stEq] at h
    simp only [Bool.and_eq_true, decide_eq_true_eq] at h
    obtain ⟨⟨⟨⟨⟨⟨⟨⟨h1, h2⟩, h3⟩, h4⟩, h5⟩, h6⟩, h7⟩, h8⟩, h9⟩ := h
    have e8 : el.length = el'.length := by rw [stsEq_eq] at h8; exact eqL_length h8
    rw [stT, stT, h1, h2, tyT_same _ _ h3, plT_same h4, setT_same h5, opT_same h6, stsT_same th th' (t + 1) h7, stsT_same el el' (t + 1) h8, arsT_same ar ar' (t + 1) h9, e8]
theorem stsT_same : ∀ (a b : List St5) (t : Nat), stsEq a b = true → stsT t a = stsT t b
  | [], [], _, _ => rfl
  | [], y :: b, _, h => by rw [stsEq_eq] at h; cases h
  | x :: a, [], _, h => by rw [stsEq_eq] at h; cases h
  | x :: a, y :: b, t, h => by
    rw [stsEq] at h
    simp only [Bool.and_eq_true] at h
    rw [stsT, stsT, stT_same x y t h.1, stsT_same a b t h.2]
theorem arT_same : ∀ (a b : Ar5) (t : Nat), arEq a b = true → arT t a = arT t b
  | .mk vr bi _ body, .mk vr' bi' _ body', t, h => by
    rw [arEq] at h
    simp only [Bool.and_eq_true, decide_eq_true_eq] at h
    rw [arT, arT, h.1.1, h.1.2, stsT_same body body' (t + 1) h.2]
theorem arsT_same : ∀ (a b : List Ar5) (t : Nat), arsEq a b = true → arsT t a = arsT t b
  | [], [], _, _ => rfl
  | [], y :: b, _, h => by rw [arsEq_eq] at h; cases h
  | x :: a, [], _, h => by rw [arsEq_eq] at h; cases h
  | x :: a, y :: b, t, h => by
    rw [arsEq] at h
    simp only [Bool.and_eq_true] at h
    rw [arsT, arsT, arT_same x y t h.1, arsT_same a b t h.2]
end
theorem fnT_same {a b : Fn5} (h : fnEq a b = true) : fnT stT parT a = fnT stT parT b := by
  simp only [fnEq, Bool.and_eq_true, decide_eq_true_eq] at h
  have e1 : parT a = parT b := by rw [parT, parT, listT_eq (all_eq (fun x y _ h => fieldT_same h) h.1.2)]
  have e2 : rowT stT 1 a.body = rowT stT 1 b.body := by
    have := stsT_same a.body b.body 1 (by rw [stsEq_eq]; exact h.2)
    rwa [stsT_eq, stsT_eq] at this
  rw [fnT, fnT, h.1.1, e1, e2]
/-- What is the same has the same text. -/
theorem textT_same {a b : So5} (h : soEq a b = true) : textT a = textT b := by
  simp only [soEq, Bool.and_eq_true] at h
  rw [textT, textT, flat_eq (all_eq (fun x y _ h => structT_same h) h.1.1), flat_eq (all_eq (fun x y _ h => enumT_same h) h.1.2), flat_eq (all_eq (fun x y _ h => fnT_same h) h.2)]

set_option maxRecDepth 100000 in
set_option maxHeartbeats 16000000 in
theorem treeOnce_walk (n : Nat) (a b : So5) (w : World) (hA : SoH n w a) (hB : SoH n w b) (hV : Vz w) (hla : (textT a).length ≤ 100000000000000) (hlb : (textT b).length ≤ 100000000000000) (hOnce : textT a = textT b → soOk a = true → soOk b = true → soEq a b = true) :
    Calls Tryz.prog 4 #[soV a, soV b] w fun e w' => e = .returned (.bool true) ∧ Below w.heap.size w w' := by
  have hSame := @textT_same a b
  obtain ⟨⟨sa1, sc1⟩, ss1, ⟨ea1, ec1⟩, es1, ⟨fa1, fc1⟩, fs1⟩ := a
  obtain ⟨⟨sa2, sc2⟩, ss2, ⟨ea2, ec2⟩, es2, ⟨fa2, fc2⟩, fs2⟩ := b
  obtain ⟨W0, hW0⟩ : ∃ W, W = (w.alloc (.cells #[.slice sa1 ss1.length sc1, .slice ea1 es1.length ec1, .slice fa1 fs1.length fc1] 26)).alloc (.cells #[.slice sa2 ss2.length sc2, .slice ea2 es2.length ec2, .slice fa2 fs2.length fc2] 26) := ⟨_, rfl⟩
  have hbx := box_two w #[.slice sa1 ss1.length sc1, .slice ea1 es1.length ec1, .slice fa1 fs1.length fc1] #[.slice sa2 ss2.length sc2, .slice ea2 es2.length ec2, .slice fa2 fs2.length fc2] 26 26
  rw [← hW0] at hbx
  have HW0 := Lib.hid hbx.1
  have HZ := Lib.hid (show ∀ w', Below W0.heap.size W0 w' → w'.cell? ⟨w.heap.size, 0, none⟩ = some (.slice sa1 ss1.length sc1) ∧ w'.cell? ⟨w.heap.size, 1, none⟩ = some (.slice ea1 es1.length ec1) ∧ w'.cell? ⟨w.heap.size, 2, none⟩ = some (.slice fa1 fs1.length fc1) ∧ w'.cell? ⟨w.heap.size + 1, 0, none⟩ = some (.slice sa2 ss2.length sc2) ∧ w'.cell? ⟨w.heap.size + 1, 1, none⟩ = some (.slice ea2 es2.length ec2) ∧ w'.cell? ⟨w.heap.size + 1, 2, none⟩ = some (.slice fa2 fs2.length fc2) from fun w' hb => by
    obtain ⟨x0, x1, x2, -⟩ := cells3 (keepB hbx.2.1 hb)
    obtain ⟨y0, y1, y2, -⟩ := cells3 (keepB hbx.2.2 hb)
    exact ⟨x0, x1, x2, y0, y1, y2⟩)
  clear hbx
  have hb (W : World) (h : Below W0.heap.size W0 W) : Below w.heap.size w W := HW0.out.trans (h.mono HW0.out.size)
  have h8 := works_any W0 (hV.b HW0.out)
  have h91 := fun W (h : Below W0.heap.size W0 W) => large_any n ⟨⟨sa1, sc1⟩, ss1, ⟨ea1, ec1⟩, es1, ⟨fa1, fc1⟩, fs1⟩ 400 W (hA.below (hb W h))
  have h92 := fun W (h : Below W0.heap.size W0 W) => large_any n ⟨⟨sa2, sc2⟩, ss2, ⟨ea2, ec2⟩, es2, ⟨fa2, fc2⟩, fs2⟩ 400 W (hB.below (hb W h))
  have hta := fun W (h : Below W0.heap.size W0 W) => text_any n ⟨⟨sa1, sc1⟩, ss1, ⟨ea1, ec1⟩, es1, ⟨fa1, fc1⟩, fs1⟩ W (hA.below (hb W h)) (hV.b (hb W h)) hla
  have htb := fun W (h : Below W0.heap.size W0 W) => text_any n ⟨⟨sa2, sc2⟩, ss2, ⟨ea2, ec2⟩, es2, ⟨fa2, fc2⟩, fs2⟩ W (hB.below (hb W h)) (hV.b (hb W h)) hlb
  have hab := fun W (h : Below W0.heap.size W0 W) => same_any n ⟨⟨sa1, sc1⟩, ss1, ⟨ea1, ec1⟩, es1, ⟨fa1, fc1⟩, fs1⟩ ⟨⟨sa2, sc2⟩, ss2, ⟨ea2, ec2⟩, es2, ⟨fa2, fc2⟩, fs2⟩ W (hA.below (hb W h)) (hB.below (hb W h))
  have hva := fun W (h : Below W0.heap.size W0 W) => valid_any n ⟨⟨sa1, sc1⟩, ss1, ⟨ea1, ec1⟩, es1, ⟨fa1, fc1⟩, fs1⟩ W (hA.below (hb W h)) (hV.b (hb W h))
  have hvb := fun W (h : Below W0.heap.size W0 W) => valid_any n ⟨⟨sa2, sc2⟩, ss2, ⟨ea2, ec2⟩, es2, ⟨fa2, fc2⟩, fs2⟩ W (hB.below (hb W h)) (hV.b (hb W h))
  clear hA hB hV hla hlb
  generalize soEq ⟨⟨sa1, sc1⟩, ss1, ⟨ea1, ec1⟩, es1, ⟨fa1, fc1⟩, fs1⟩ ⟨⟨sa2, sc2⟩, ss2, ⟨ea2, ec2⟩, es2, ⟨fa2, fc2⟩, fs2⟩ = S at hab hSame hOnce
  generalize soOk ⟨⟨sa1, sc1⟩, ss1, ⟨ea1, ec1⟩, es1, ⟨fa1, fc1⟩, fs1⟩ = Va at hva hOnce
  generalize soOk ⟨⟨sa2, sc2⟩, ss2, ⟨ea2, ec2⟩, es2, ⟨fa2, fc2⟩, fs2⟩ = Vb at hvb hOnce
  generalize textT ⟨⟨sa1, sc1⟩, ss1, ⟨ea1, ec1⟩, es1, ⟨fa1, fc1⟩, fs1⟩ = TA at hta hSame hOnce
  generalize textT ⟨⟨sa2, sc2⟩, ss2, ⟨ea2, ec2⟩, es2, ⟨fa2, fc2⟩, fs2⟩ = TB at htb hSame hOnce
  simp only [soV] at h91 h92 hta htb hab hva hvb ⊢
  have hq : ((strB TA).toList == (strB TB).toList) = decide (TA = TB) := by
    rw [Bool.eq_iff_iff]
    simp only [beq_iff_eq, decide_eq_true_eq]
    constructor
    · intro h
      exact strB_inj (by
        have h2 : (strB TA).data.toList = (strB TB).data.toList := by simpa [ByteArray.toList_eq] using h
        simpa [strB] using h2)
    · rintro rfl
      rfl
  obtain ⟨Q, hQ⟩ : ∃ q, q = decide (TA = TB) := ⟨_, rfl⟩
  rw [← hQ] at hq
  have HS1 := Lib.hid (show S = true → Q = true from fun h => by rw [hQ]; exact decide_eq_true (hSame h))
  have HO1 := Lib.hid (show Q = true → Va = true → Vb = true → S = true from fun h => by rw [hQ] at h; exact hOnce (of_decide_eq_true h))
  clear hSame hOnce hQ
  replace h8 := Lib.hid h8
  replace h91 := Lib.hid h91
  replace h92 := Lib.hid h92
  replace hta := Lib.hid hta
  replace htb := Lib.hid htb
  replace hab := Lib.hid hab
  replace hva := Lib.hid hva
  replace hvb := Lib.hid hvb
  replace hb := Lib.hid hb
  go_enter Tryz.func4, Tryz.ntmps4
  go_wp2_with fail
  rw [← hW0]
  clear hW0
  refine (h8.out).mono ?_
  rintro e v1 ⟨rfl, hq1⟩
  have K1 := Lib.hid hq1
  clear hq1
  obtain ⟨x10, x11, x12, x13, x14, x15⟩ := HZ.out v1 K1.out
  go_wp2_with fail
  refine (h91.out v1 K1.out).mono ?_
  rintro e v2 ⟨⟨m1, rfl⟩, hq1⟩
  have K2 := Lib.hid (K1.out.trans (hq1.mono K1.out.size))
  clear hq1
  obtain ⟨x20, x21, x22, x23, x24, x25⟩ := HZ.out v2 K2.out
  go_wp2_with fail
  refine (h92.out v2 K2.out).mono ?_
  rintro e v3 ⟨⟨m2, rfl⟩, hq1⟩
  have K3 := Lib.hid (K2.out.trans (hq1.mono K2.out.size))
  clear hq1
  obtain ⟨x30, x31, x32, x33, x34, x35⟩ := HZ.out v3 K3.out
  cases m1 with
  | true =>
    go_wp2
    go_ret
    exact ⟨rfl, hb.out _ K3.out⟩
  | false =>
  cases m2 with
  | true =>
    go_wp2
    go_ret
    exact ⟨rfl, hb.out _ K3.out⟩
  | false =>
  go_upto_region 8 with fail
  go_region_held3 (fun w' => w'.cell? ⟨w.heap.size, 0, none⟩ = some (.slice sa1 ss1.length sc1) ∧ w'.cell? ⟨w.heap.size, 1, none⟩ = some (.slice ea1 es1.length ec1) ∧ w'.cell? ⟨w.heap.size, 2, none⟩ = some (.slice fa1 fs1.length fc1) ∧ w'.cell? ⟨w.heap.size + 1, 0, none⟩ = some (.slice sa2 ss2.length sc2) ∧ w'.cell? ⟨w.heap.size + 1, 1, none⟩ = some (.slice ea2 es2.length ec2) ∧ w'.cell? ⟨w.heap.size + 1, 2, none⟩ = some (.slice fa2 fs2.length fc2)) (first | (refine ⟨?_, ?_, ?_, ?_, ?_, ?_⟩ <;> assumption) | go_keep)
    (first
      | (go_at_call_of 14 (Value.agg #[Value.slice sa1 ss1.length sc1, Value.slice ea1 es1.length ec1, Value.slice fa1 fs1.length fc1]); refine (hta.out v3.drew K3.out.drew).mono ?_; rintro e v4 ⟨rfl, hq'⟩; have hq1 := below_undrew hq'; have K4 := Lib.hid (K3.out.trans (hq1.mono K3.out.size)); obtain ⟨x40, x41, x42, x43, x44, x45⟩ := HZ.out v4 K4.out; clear hq1 hq')
      | (go_at_call_of 14 (Value.agg #[Value.slice sa2 ss2.length sc2, Value.slice ea2 es2.length ec2, Value.slice fa2 fs2.length fc2]); refine (htb.out v4 K4.out).mono ?_; rintro e v5 ⟨rfl, hq1⟩; have K5 := Lib.hid (K4.out.trans (hq1.mono K4.out.size)); obtain ⟨x50, x51, x52, x53, x54, x55⟩ := HZ.out v5 K5.out; clear hq1))
  go_wp2_with fail
  refine (hab.out v5 K5.out).mono ?_
  rintro e v6 ⟨rfl, hq1⟩
  have K6 := Lib.hid (K5.out.trans (hq1.mono K5.out.size))
  clear hq1
  obtain ⟨x60, x61, x62, x63, x64, x65⟩ := HZ.out v6 K6.out
  cases Q with
  | false =>
    cases S with
    | true => exact absurd (HS1.out rfl) (by decide)
    | false =>
      go_wp2_with fail
      go_ret
      exact ⟨by first | done | rfl, hb.out _ K6.out⟩
  | true =>
    cases S with
    | true =>
      go_wp2_with fail
      go_ret
      exact ⟨by first | done | rfl, hb.out _ K6.out⟩
    | false =>
      go_wp2_with fail
      refine (hva.out v6 K6.out).mono ?_
      rintro e v7 ⟨rfl, hq1⟩
      have K7 := Lib.hid (K6.out.trans (hq1.mono K6.out.size))
      clear hq1
      obtain ⟨x70, x71, x72, x73, x74, x75⟩ := HZ.out v7 K7.out
      cases Va with
      | false =>
        go_wp2_with fail
        go_ret
        exact ⟨by first | done | rfl, hb.out _ K7.out⟩
      | true =>
        go_wp2_with fail
        refine (hvb.out v7 K7.out).mono ?_
        rintro e v8 ⟨rfl, hq1⟩
        have K8 := Lib.hid (K7.out.trans (hq1.mono K7.out.size))
        clear hq1
        obtain ⟨x80, x81, x82, x83, x84, x85⟩ := HZ.out v8 K8.out
        cases Vb with
        | false =>
          go_wp2_with fail
          go_ret
          exact ⟨by first | done | rfl, hb.out _ K8.out⟩
        | true =>
          have h := HO1.out
          simp at h

/-- A letter that does not stand in it. -/
def no (c : UInt8) (l : List UInt8) : Prop := ∀ x, x ∈ l → x ≠ c
theorem no_app {c : UInt8} {a b : List UInt8} (ha : no c a) (hb : no c b) : no c (a ++ b) := fun x hx => (List.mem_append.1 hx).elim (ha x) (hb x)
theorem no_tail {c x : UInt8} {a : List UInt8} (h : no c (x :: a)) : no c a := fun y hy => h y (by simp [hy])
theorem no_lit {c : UInt8} {l : List UInt8} (h : (l.all fun x => x != c) = true) : no c l := fun x hx e => by
  have := List.all_eq_true.1 h x hx
  subst e
  simp at this
theorem split_at {c : UInt8} : ∀ {a a' r r' : List UInt8}, no c a → no c a' → a ++ c :: r = a' ++ c :: r' → a = a' ∧ r = r'
  | [], [], _, _, _, _, h => ⟨rfl, (List.cons.inj h).2⟩
  | [], y :: a', _, _, _, h2, h => absurd (List.cons.inj h).1.symm (h2 y (by simp))
  | x :: a, [], _, _, h1, _, h => absurd (List.cons.inj h).1 (h1 x (by simp))
  | x :: a, y :: a', _, _, h1, h2, h => by
    obtain ⟨e1, e2⟩ := List.cons.inj h
    obtain ⟨e3, e4⟩ := split_at (no_tail h1) (no_tail h2) e2
    exact ⟨by rw [e1, e3], e4⟩
/-- A rest that is none, or begins with this letter. -/
def rest (c : UInt8) (r : List UInt8) : Prop := r = [] ∨ ∃ t, r = c :: t
theorem split_rest {c : UInt8} : ∀ {a a' r r' : List UInt8}, no c a → no c a' → rest c r → rest c r' → a ++ r = a' ++ r' → a = a' ∧ r = r'
  | [], [], _, _, _, _, _, _, h => ⟨rfl, h⟩
  | [], y :: a', r, _, _, h2, hr, _, h => by
    rcases hr with rfl | ⟨t, rfl⟩
    · cases h
    · exact absurd (List.cons.inj h).1.symm (h2 y (by simp))
  | x :: a, [], _, r', h1, _, _, hr, h => by
    rcases hr with rfl | ⟨t, rfl⟩
    · cases h
    · exact absurd (List.cons.inj h).1 (h1 x (by simp))
  | x :: a, y :: a', _, _, h1, h2, hr, hr', h => by
    obtain ⟨e1, e2⟩ := List.cons.inj h
    obtain ⟨e3, e4⟩ := split_rest (no_tail h1) (no_tail h2) hr hr' e2
    exact ⟨by rw [e1, e3], e4⟩
theorem name_ne {c d : UInt8} (h : nameB c = true) (hd : nameB d = false) : c ≠ d := fun e => by
  rw [e, hd] at h
  cases h
theorem word_name {l : List UInt8} (h : wordB l = true) : ∀ c, c ∈ l → nameB c = true := by
  cases l with
  | nil => cases h
  | cons x r =>
    simp only [wordB, Bool.and_eq_true, decide_eq_true_eq] at h
    intro c hc
    cases List.mem_cons.1 hc with
    | inl e => rw [e, nameB, h.1.2]; rfl
    | inr e => exact span_all nameB r h.2 c e
theorem word_head {l : List UInt8} (h : wordB l = true) : ∃ c r, l = c :: r ∧ letterB c = true := by
  cases l with
  | nil => cases h
  | cons x r =>
    simp only [wordB, Bool.and_eq_true, decide_eq_true_eq] at h
    exact ⟨x, r, rfl, h.1.2⟩
theorem small_word {s : ByteArray} (h : smallN s = true) : wordB (bs s) = true := by
  simp only [smallN, freeN, Bool.and_eq_true] at h
  exact h.1.1
theorem great_word {s : ByteArray} (h : greatN s = true) : wordB (bs s) = true := by
  simp only [greatN, freeN, Bool.and_eq_true] at h
  exact h.1.1
theorem word_no {l : List UInt8} (h : wordB l = true) {d : UInt8} (hd : nameB d = false) : no d l := fun c hc => name_ne (word_name h c hc) hd
theorem small_no {s : ByteArray} (h : smallN s = true) {d : UInt8} (hd : nameB d = false) : no d (bs s) := word_no (small_word h) hd
theorem great_no {s : ByteArray} (h : greatN s = true) {d : UInt8} (hd : nameB d = false) : no d (bs s) := word_no (great_word h) hd
theorem bs_inj {a b : ByteArray} (h : bs a = bs b) : a = b := by rw [← strB_of a, ← strB_of b, h]

/-! ### Places -/
def segT (f : ByteArray) : List UInt8 := if emptyN f then [42] else bs f
theorem stepT_seg (f : ByteArray) : stepT f = 46 :: segT f := rfl
theorem seg_no {f : ByteArray} (h : stepOk f = true) : no 46 (segT f) := by
  rw [segT]
  cases he : emptyN f with
  | true => exact no_lit rfl
  | false =>
    rw [stepOk, he, Bool.false_or] at h
    exact small_no h rfl
theorem seg_inj {f g : ByteArray} (hf : stepOk f = true) (hg : stepOk g = true) (h : segT f = segT g) : f = g := by
  rw [segT, segT] at h
  cases he : emptyN f with
  | true =>
    cases hg' : emptyN g with
    | true => rw [empty_of he, empty_of hg']
    | false =>
      rw [he, hg', if_pos rfl, if_neg (by decide)] at h
      rw [stepOk, hg', Bool.false_or] at hg
      have := word_name (small_word hg) 42 (by rw [← h]; simp)
      cases this
  | false =>
    cases hg' : emptyN g with
    | true =>
      rw [he, hg', if_neg (by decide), if_pos rfl] at h
      rw [stepOk, he, Bool.false_or] at hf
      have := word_name (small_word hf) 42 (by rw [h]; simp)
      cases this
    | false =>
      rw [he, hg', if_neg (by decide), if_neg (by decide)] at h
      exact bs_inj h
theorem path_rest (l : List ByteArray) : rest 46 (l.flatMap stepT) := by
  cases l with
  | nil => exact .inl rfl
  | cons x r => exact .inr ⟨segT x ++ r.flatMap stepT, by rw [List.flatMap_cons, stepT_seg]; rfl⟩
theorem path_inj : ∀ {a b : List ByteArray}, a.all stepOk = true → b.all stepOk = true → a.flatMap stepT = b.flatMap stepT → a = b
  | [], [], _, _, _ => rfl
  | [], y :: b, _, _, h => by rw [List.flatMap_cons, stepT_seg] at h; cases h
  | x :: a, [], _, _, h => by rw [List.flatMap_cons, stepT_seg] at h; cases h
  | x :: a, y :: b, ha, hb, h => by
    simp only [List.all_cons, Bool.and_eq_true] at ha hb
    rw [List.flatMap_cons, List.flatMap_cons, stepT_seg, stepT_seg] at h
    obtain ⟨e1, e2⟩ := split_rest (seg_no ha.1) (seg_no hb.1) (path_rest a) (path_rest b) (List.cons.inj h).2
    rw [seg_inj ha.1 hb.1 e1, path_inj ha.2 hb.2 e2]
theorem steps_refl (l : List ByteArray) : eqL stepEq l l = true := by
  induction l with
  | nil => rfl
  | cons x r ih => rw [eqL, ih]; simp [stepEq]
theorem plT_inj {p q : Pl5} (hp : plOk p = true) (hq : plOk q = true) (h : plT p = plT q) : plEq p q = true := by
  simp only [plOk, Bool.and_eq_true] at hp hq
  rw [plT, plT] at h
  obtain ⟨e1, e2⟩ := split_rest (small_no hp.1 rfl) (small_no hq.1 rfl) (path_rest _) (path_rest _) h
  rw [plEq, bs_inj e1, path_inj hp.2 hq.2 e2, steps_refl]
  simp
theorem noPl_same {p q : Pl5} (hp : noPl p = true) (hq : noPl q = true) : plEq p q = true := by
  simp only [noPl, plEq, plZ, Bool.and_eq_true] at hp hq
  have e1 := eqL_length hp.2
  have e2 := eqL_length hq.2
  rw [plEq, of_decide_eq_true hp.1, of_decide_eq_true hq.1, List.eq_nil_of_length_eq_zero e1, List.eq_nil_of_length_eq_zero e2]
  rfl
theorem alone_plOk {p : Pl5} (h : aloneB p = true) : plOk p = true := by
  simp only [aloneB, Bool.and_eq_true, decide_eq_true_eq] at h
  rw [plOk, h.1, List.eq_nil_of_length_eq_zero h.2]
  rfl
theorem pl_chars {p : Pl5} (h : plOk p = true) : ∀ c, c ∈ plT p → nameB c = true ∨ c = 46 ∨ c = 42 := by
  simp only [plOk, Bool.and_eq_true] at h
  intro c hc
  rw [plT] at hc
  rcases List.mem_append.1 hc with h1 | h1
  · exact .inl (word_name (small_word h.1) c h1)
  · obtain ⟨f, hf, hcf⟩ := List.mem_flatMap.1 h1
    rw [stepT_seg] at hcf
    cases List.mem_cons.1 hcf with
    | inl e => exact .inr (.inl e)
    | inr e =>
      have h2 := List.all_eq_true.1 h.2 f hf
      rw [segT] at e
      cases he : emptyN f with
      | true =>
        rw [he, if_pos rfl] at e
        exact .inr (.inr (by simpa using e))
      | false =>
        rw [he, if_neg (by decide)] at e
        rw [stepOk, he, Bool.false_or] at h2
        exact .inl (word_name (small_word h2) c e)
theorem pl_no {p : Pl5} (h : plOk p = true) {d : UInt8} (hd : nameB d = false) (h1 : d ≠ 46) (h2 : d ≠ 42) : no d (plT p) := fun c hc e => by
  subst e
  rcases pl_chars h c hc with h3 | h3 | h3
  · rw [hd] at h3; cases h3
  · exact h1 h3
  · exact h2 h3
theorem small_head {s : ByteArray} (h : smallN s = true) : ∃ c r, bs s = c :: r ∧ 97 ≤ c.toNat ∧ c.toNat ≤ 122 := by
  obtain ⟨c, r, e, hl⟩ := word_head (small_word h)
  have h2 := h
  simp only [smallN, Bool.and_eq_true, Bool.not_eq_true', upperB, e, greatB] at h2
  have h3 := h2.2
  rw [← e, small_word h, Bool.true_and] at h3
  simp only [letterB, Bool.or_eq_true, decide_eq_true_eq, decide_eq_false_iff_not] at hl h3
  exact ⟨c, r, e, by omega⟩
theorem great_head {s : ByteArray} (h : greatN s = true) : ∃ c r, bs s = c :: r ∧ 65 ≤ c.toNat ∧ c.toNat ≤ 90 := by
  obtain ⟨c, r, e, hl⟩ := word_head (great_word h)
  have h2 := h
  simp only [greatN, Bool.and_eq_true, upperB, e, greatB] at h2
  have h3 := h2.2
  simp only [decide_eq_true_eq] at h3
  exact ⟨c, r, e, h3.2⟩
theorem pl_head {p : Pl5} (h : plOk p = true) : ∃ c r, plT p = c :: r ∧ 97 ≤ c.toNat ∧ c.toNat ≤ 122 := by
  simp only [plOk, Bool.and_eq_true] at h
  obtain ⟨c, r, e, hc⟩ := small_head h.1
  exact ⟨c, r ++ p.path.flatMap stepT, by rw [plT, e]; rfl, hc⟩

/-! ### Numbers -/
def valL (l : List UInt8) : Nat := l.foldl (fun a c => a * 10 + (c.toNat - 48)) 0
theorem dig_nat {u : Nat} (h : u < 10) : (UInt8.ofNat (48 + u)).toNat = 48 + u := by
  have : ∀ u, u < 10 → (UInt8.ofNat (48 + u)).toNat = 48 + u := by decide
  exact this u h
theorem valL_dec (n : Nat) : valL (Lib.decDigits n) = n := by
  induction n using Nat.strongRecOn with
  | _ n ih =>
    rw [Lib.decDigits]
    split
    · rename_i h
      rw [valL, List.foldl_cons, List.foldl_nil, dig_nat h]
      omega
    · have h1 := ih (n / 10) (by omega)
      have h2 := dig_nat (show n % 10 < 10 by omega)
      rw [valL] at h1 ⊢
      rw [List.foldl_append, h1, List.foldl_cons, List.foldl_nil, h2]
      omega
theorem dec_digits (n : Nat) : ∀ c, c ∈ Lib.decDigits n → 48 ≤ c.toNat ∧ c.toNat ≤ 57 := by
  induction n using Nat.strongRecOn with
  | _ n ih =>
    rw [Lib.decDigits]
    split
    · rename_i h
      intro c hc
      rw [List.mem_singleton.1 hc, dig_nat h]
      omega
    · intro c hc
      rcases List.mem_append.1 hc with h1 | h1
      · exact ih (n / 10) (by omega) c h1
      · rw [List.mem_singleton.1 h1, dig_nat (by omega)]
        omega
theorem dec_ne (n : Nat) : Lib.decDigits n ≠ [] := by
  rw [Lib.decDigits]
  split <;> simp
theorem itoa_inj {a b : Int} (h : Lib.itoa a = Lib.itoa b) : a = b := by
  unfold Lib.itoa at h
  split at h
  · split at h
    · have := congrArg valL (List.cons.inj h).2
      rw [valL_dec, valL_dec] at this
      omega
    · exfalso
      have h1 := dec_digits b.toNat 45 (by rw [← h]; simp)
      revert h1
      decide
  · split at h
    · exfalso
      have h1 := dec_digits a.toNat 45 (by rw [h]; simp)
      revert h1
      decide
    · have := congrArg valL h
      rw [valL_dec, valL_dec] at this
      omega
theorem itoa_chars (n : Int) : ∀ c, c ∈ Lib.itoa n → c = 45 ∨ (48 ≤ c.toNat ∧ c.toNat ≤ 57) := by
  intro c hc
  unfold Lib.itoa at hc
  split at hc
  · cases List.mem_cons.1 hc with
    | inl e => exact .inl e
    | inr e => exact .inr (dec_digits _ c e)
  · exact .inr (dec_digits _ c hc)
theorem itoa_ne (n : Int) : Lib.itoa n ≠ [] := by
  unfold Lib.itoa
  split
  · simp
  · exact dec_ne _
theorem op_cases {o : Op5} (h : opOk o = true) : (o.num = true ∧ noPl o.p = true ∧ opT o = Lib.itoa o.n) ∨ (o.num = false ∧ o.n = 0 ∧ plOk o.p = true ∧ opT o = plT o.p) := by
  rw [opOk] at h
  cases hn : o.num with
  | true =>
    rw [hn, if_pos rfl] at h
    simp only [Bool.and_eq_true] at h
    exact .inl ⟨rfl, h.2, by rw [opT, hn, if_pos rfl]⟩
  | false =>
    rw [hn, if_neg (by decide)] at h
    simp only [Bool.and_eq_true, decide_eq_true_eq] at h
    exact .inr ⟨rfl, h.1, h.2, by rw [opT, hn, if_neg (by decide)]⟩
theorem itoa_pl {n : Int} {p : Pl5} (hp : plOk p = true) : Lib.itoa n ≠ plT p := fun h => by
  obtain ⟨c, r, e, hc⟩ := pl_head hp
  rcases itoa_chars n c (by rw [h, e]; simp) with h1 | h1
  · subst h1
    revert hc
    decide
  · omega
theorem opT_inj {a b : Op5} (ha : opOk a = true) (hb : opOk b = true) (h : opT a = opT b) : opEq a b = true := by
  rcases op_cases ha with ⟨n1, p1, t1⟩ | ⟨n1, z1, p1, t1⟩
  · rcases op_cases hb with ⟨n2, p2, t2⟩ | ⟨n2, z2, p2, t2⟩
    · rw [t1, t2] at h
      rw [opEq, n1, n2, itoa_inj h, noPl_same p1 p2]
      simp
    · rw [t1, t2] at h
      exact absurd h (itoa_pl p2)
  · rcases op_cases hb with ⟨n2, p2, t2⟩ | ⟨n2, z2, p2, t2⟩
    · rw [t1, t2] at h
      exact absurd h.symm (itoa_pl p1)
    · rw [t1, t2] at h
      rw [opEq, n1, n2, z1, z2, plT_inj p1 p2 h]
      simp
theorem op_chars {o : Op5} (h : opOk o = true) : ∀ c, c ∈ opT o → nameB c = true ∨ c = 45 ∨ c = 46 ∨ c = 42 := by
  intro c hc
  rcases op_cases h with ⟨n1, p1, t1⟩ | ⟨n1, z1, p1, t1⟩
  · rw [t1] at hc
    rcases itoa_chars _ c hc with h1 | h1
    · exact .inr (.inl h1)
    · refine .inl ?_
      have : digitB c = true := by simp only [digitB, decide_eq_true_eq]; exact h1
      rw [nameB, this]
      simp
  · rw [t1] at hc
    rcases pl_chars p1 c hc with h1 | h1
    · exact .inl h1
    · exact .inr (.inr h1)
theorem op_no {o : Op5} (h : opOk o = true) {d : UInt8} (hd : nameB d = false) (h0 : d ≠ 45) (h1 : d ≠ 46) (h2 : d ≠ 42) : no d (opT o) := fun c hc e => by
  subst e
  rcases op_chars h c hc with h3 | h3 | h3 | h3
  · rw [hd] at h3; cases h3
  · exact h0 h3
  · exact h1 h3
  · exact h2 h3
theorem op_ne {o : Op5} (h : opOk o = true) : opT o ≠ [] := by
  rcases op_cases h with ⟨n1, p1, t1⟩ | ⟨n1, z1, p1, t1⟩
  · rw [t1]; exact itoa_ne _
  · obtain ⟨c, r, e, _⟩ := pl_head p1
    rw [t1, e]
    simp

/-! ### Rows with a comma between -/
theorem list_inj {α : Type} {T : α → List UInt8} {ok : α → Bool} {g : α → α → Bool} (hno : ∀ x, ok x = true → no 44 (T x)) (hne : ∀ x, ok x = true → T x ≠ []) (hinj : ∀ x y, ok x = true → ok y = true → T x = T y → g x y = true) :
    ∀ {a b : List α}, a.all ok = true → b.all ok = true → listT T a = listT T b → eqL g a b = true := by
  have tail : ∀ {a b : List α}, a.all ok = true → b.all ok = true → (a.flatMap fun y => [44, 32] ++ T y) = (b.flatMap fun y => [44, 32] ++ T y) → eqL g a b = true := by
    intro a
    induction a with
    | nil =>
      intro b _ _ h
      cases b with
      | nil => rfl
      | cons y b => rw [List.flatMap_cons] at h; cases h
    | cons x a ih =>
      intro b ha hb h
      cases b with
      | nil => rw [List.flatMap_cons] at h; cases h
      | cons y b =>
        simp only [List.all_cons, Bool.and_eq_true] at ha hb
        rw [List.flatMap_cons, List.flatMap_cons] at h
        have h1 : T x ++ (a.flatMap fun y => [44, 32] ++ T y) = T y ++ (b.flatMap fun y => [44, 32] ++ T y) := by
          have := h
          simp only [List.cons_append, List.nil_append, List.cons.injEq, true_and] at this
          exact this
        have hr : ∀ l : List α, rest 44 (l.flatMap fun y => [44, 32] ++ T y) := fun l => by
          cases l with
          | nil => exact .inl rfl
          | cons z l => exact .inr ⟨_, by rw [List.flatMap_cons]; rfl⟩
        obtain ⟨e1, e2⟩ := split_rest (hno x ha.1) (hno y hb.1) (hr a) (hr b) h1
        rw [eqL, hinj x y ha.1 hb.1 e1, ih ha.2 hb.2 e2]
        rfl
  intro a b ha hb h
  have hr : ∀ l : List α, rest 44 (l.flatMap fun y => [44, 32] ++ T y) := fun l => by
    cases l with
    | nil => exact .inl rfl
    | cons z l => exact .inr ⟨_, by rw [List.flatMap_cons]; rfl⟩
  cases a with
  | nil =>
    cases b with
    | nil => rfl
    | cons y b =>
      simp only [List.all_cons, Bool.and_eq_true] at hb
      rw [listT, listT] at h
      exact absurd (List.append_eq_nil_iff.1 h.symm).1 (hne y hb.1)
  | cons x a =>
    simp only [List.all_cons, Bool.and_eq_true] at ha
    cases b with
    | nil =>
      rw [listT, listT] at h
      exact absurd (List.append_eq_nil_iff.1 h).1 (hne x ha.1)
    | cons y b =>
      simp only [List.all_cons, Bool.and_eq_true] at hb
      rw [listT, listT] at h
      obtain ⟨e1, e2⟩ := split_rest (hno x ha.1) (hno y hb.1) (hr a) (hr b) h
      rw [eqL, hinj x y ha.1 hb.1 e1, tail ha.2 hb.2 e2]
      rfl

/-! ### Types -/
inductive TyW : Ty5 → Prop
  | box (h : Hd) (t : Ty5) : TyW t → TyW (.mk 4 ⟨#[]⟩ h [t])
  | ref (h : Hd) (t : Ty5) : TyW t → TyW (.mk 5 ⟨#[]⟩ h [t])
  | mu (h : Hd) (t : Ty5) : TyW t → TyW (.mk 6 ⟨#[]⟩ h [t])
  | int (h : Hd) : TyW (.mk 1 ⟨#[]⟩ h [])
  | st (nm : ByteArray) (h : Hd) : greatN nm = true → TyW (.mk 2 nm h [])
  | co (nm : ByteArray) (h : Hd) : smallN nm = true → TyW (.mk 7 nm h [])
theorem tyW_inner {k : Int} {nm : ByteArray} {h : Hd} {l : List Ty5} (hv : innerOk (.mk k nm h l) = true) : TyW (.mk k nm h l) := by
  rw [innerOk] at hv
  simp only [Bool.and_eq_true, decide_eq_true_eq] at hv
  obtain ⟨hl, h2⟩ := hv
  obtain rfl := List.eq_nil_of_length_eq_zero hl
  by_cases k1 : k = 1
  · rw [if_pos k1] at h2
    obtain rfl := empty_of h2
    subst k1
    exact .int h
  rw [if_neg k1] at h2
  by_cases k2 : k = 2
  · rw [if_pos k2] at h2
    subst k2
    exact .st nm h h2
  rw [if_neg k2] at h2
  by_cases k7 : k = 7
  · rw [if_pos k7] at h2
    subst k7
    exact .co nm h h2
  rw [if_neg k7] at h2
  cases h2
theorem tyW_of : ∀ (t : Ty5) (d : Nat), tyOk d t = true → TyW t
  | .mk k nm h [t], d, hv => by
    cases hk : aroundB k with
    | true =>
      cases d with
      | zero => rw [tyOk_zero hk] at hv; cases hv
      | succ d =>
        rw [tyOk_one d hk] at hv
        simp only [Bool.and_eq_true] at hv
        obtain rfl := empty_of hv.1
        have ht := tyW_of t d hv.2
        have h456 : k = 4 ∨ k = 5 ∨ k = 6 := by simpa [aroundB, or_assoc] using hk
        rcases h456 with rfl | rfl | rfl
        · exact .box h t ht
        · exact .ref h t ht
        · exact .mu h t ht
    | false => exact tyW_inner (by rw [tyOk_no d hk] at hv; exact hv)
  | .mk k nm h [], d, hv => by
    cases hk : aroundB k with
    | true =>
      cases d with
      | zero => rw [tyOk_zero hk] at hv; cases hv
      | succ d => rw [tyOk_len d hk (by simp)] at hv; cases hv
    | false => exact tyW_inner (by rw [tyOk_no d hk] at hv; exact hv)
  | .mk k nm h (a :: b :: r), d, hv => by
    cases hk : aroundB k with
    | true =>
      cases d with
      | zero => rw [tyOk_zero hk] at hv; cases hv
      | succ d => rw [tyOk_len d hk (by simp)] at hv; cases hv
    | false => exact tyW_inner (by rw [tyOk_no d hk] at hv; exact hv)
theorem tx_box (h : Hd) (t : Ty5) : tyT (.mk 4 ⟨#[]⟩ h [t]) = 98 :: 111 :: 120 :: 32 :: tyT t := tyT_one rfl
theorem tx_ref (h : Hd) (t : Ty5) : tyT (.mk 5 ⟨#[]⟩ h [t]) = 38 :: tyT t := tyT_one rfl
theorem tx_mu (h : Hd) (t : Ty5) : tyT (.mk 6 ⟨#[]⟩ h [t]) = 38 :: 109 :: 117 :: 116 :: 32 :: tyT t := tyT_one rfl
theorem tx_int (h : Hd) : tyT (.mk 1 ⟨#[]⟩ h []) = [105, 110, 116] := tyT_no rfl
theorem tx_st (nm : ByteArray) (h : Hd) : tyT (.mk 2 nm h []) = bs nm := tyT_no rfl
theorem tx_co (nm : ByteArray) (h : Hd) : tyT (.mk 7 nm h []) = 99 :: 111 :: 32 :: bs nm := tyT_no rfl
/-- The first letter of a type, as a class. -/
def hdC (l : List UInt8) : Nat := match l with
  | [] => 0
  | c :: _ => if c = 98 then 4 else if c = 38 then 5 else if c = 105 then 1 else if c = 99 then 7 else if 65 ≤ c.toNat ∧ c.toNat ≤ 90 then 2 else 0
theorem hdC_st {nm : ByteArray} (h : greatN nm = true) : hdC (bs nm) = 2 := by
  obtain ⟨c, r, e, h1, h2⟩ := great_head h
  rw [e]
  have g : ∀ d : UInt8, 90 < d.toNat ∨ d.toNat < 65 → c ≠ d := fun d hd e => by subst e; omega
  simp only [hdC]
  rw [if_neg (g 98 (by decide)), if_neg (g 38 (by decide)), if_neg (g 105 (by decide)), if_neg (g 99 (by decide)), if_pos ⟨h1, h2⟩]
theorem ty_hd {t : Ty5} (h : TyW t) : hdC (tyT t) ≠ 0 ∧ (∃ c r, tyT t = c :: r ∧ c ≠ 109) := by
  cases h with
  | box h t ht => rw [tx_box]; exact ⟨by simp [hdC], _, _, rfl, by decide⟩
  | ref h t ht => rw [tx_ref]; exact ⟨by simp [hdC], _, _, rfl, by decide⟩
  | mu h t ht => rw [tx_mu]; exact ⟨by simp [hdC], _, _, rfl, by decide⟩
  | int h => rw [tx_int]; exact ⟨by decide, _, _, rfl, by decide⟩
  | st nm h hg =>
    rw [tx_st]
    obtain ⟨c, r, e, h1, h2⟩ := great_head hg
    exact ⟨by rw [hdC_st hg]; decide, c, r, e, fun e => by subst e; revert h2; decide⟩
  | co nm h hs => rw [tx_co]; exact ⟨by simp [hdC], _, _, rfl, by decide⟩
theorem tyT_inj {a : Ty5} (ha : TyW a) : ∀ {b : Ty5}, TyW b → tyT a = tyT b → tyEq a b = true := by
  induction ha with
  | box h t ht ih =>
    intro b hb e
    have hc := congrArg hdC e
    cases hb with
    | box h' t' ht' =>
      rw [tx_box, tx_box] at e
      simp only [List.cons.injEq, true_and] at e
      rw [tyEq, tysEq, tysEq, ih ht' e]
      rfl
    | ref h' t' ht' => rw [tx_box, tx_ref] at hc; exact absurd hc (by simp [hdC])
    | mu h' t' ht' => rw [tx_box, tx_mu] at hc; exact absurd hc (by simp [hdC])
    | int h' => rw [tx_box, tx_int] at hc; exact absurd hc (by simp [hdC])
    | st nm h' hg => rw [tx_box, tx_st, hdC_st hg] at hc; exact absurd hc (by simp [hdC])
    | co nm h' hs => rw [tx_box, tx_co] at hc; exact absurd hc (by simp [hdC])
  | ref h t ht ih =>
    intro b hb e
    have hc := congrArg hdC e
    cases hb with
    | box h' t' ht' => rw [tx_ref, tx_box] at hc; exact absurd hc (by simp [hdC])
    | ref h' t' ht' =>
      rw [tx_ref, tx_ref] at e
      simp only [List.cons.injEq, true_and] at e
      rw [tyEq, tysEq, tysEq, ih ht' e]
      rfl
    | mu h' t' ht' =>
      rw [tx_ref, tx_mu] at e
      simp only [List.cons.injEq, true_and] at e
      obtain ⟨c, r, e1, e2⟩ := (ty_hd ht).2
      rw [e1] at e
      exact absurd (List.cons.inj e).1 e2
    | int h' => rw [tx_ref, tx_int] at hc; exact absurd hc (by simp [hdC])
    | st nm h' hg => rw [tx_ref, tx_st, hdC_st hg] at hc; exact absurd hc (by simp [hdC])
    | co nm h' hs => rw [tx_ref, tx_co] at hc; exact absurd hc (by simp [hdC])
  | mu h t ht ih =>
    intro b hb e
    have hc := congrArg hdC e
    cases hb with
    | box h' t' ht' => rw [tx_mu, tx_box] at hc; exact absurd hc (by simp [hdC])
    | ref h' t' ht' =>
      rw [tx_mu, tx_ref] at e
      simp only [List.cons.injEq, true_and] at e
      obtain ⟨c, r, e1, e2⟩ := (ty_hd ht').2
      rw [e1] at e
      exact absurd (List.cons.inj e).1.symm e2
    | mu h' t' ht' =>
      rw [tx_mu, tx_mu] at e
      simp only [List.cons.injEq, true_and] at e
      rw [tyEq, tysEq, tysEq, ih ht' e]
      rfl
    | int h' => rw [tx_mu, tx_int] at hc; exact absurd hc (by simp [hdC])
    | st nm h' hg => rw [tx_mu, tx_st, hdC_st hg] at hc; exact absurd hc (by simp [hdC])
    | co nm h' hs => rw [tx_mu, tx_co] at hc; exact absurd hc (by simp [hdC])
  | int h =>
    intro b hb e
    have hc := congrArg hdC e
    cases hb with
    | box h' t' ht' => rw [tx_int, tx_box] at hc; exact absurd hc (by simp [hdC])
    | ref h' t' ht' => rw [tx_int, tx_ref] at hc; exact absurd hc (by simp [hdC])
    | mu h' t' ht' => rw [tx_int, tx_mu] at hc; exact absurd hc (by simp [hdC])
    | int h' => rfl
    | st nm h' hg => rw [tx_int, tx_st, hdC_st hg] at hc; exact absurd hc (by simp [hdC])
    | co nm h' hs => rw [tx_int, tx_co] at hc; exact absurd hc (by simp [hdC])
  | st nm h hg =>
    intro b hb e
    have hc := congrArg hdC e
    rw [tx_st, hdC_st hg] at hc
    cases hb with
    | box h' t' ht' => rw [tx_box] at hc; exact absurd hc (by simp [hdC])
    | ref h' t' ht' => rw [tx_ref] at hc; exact absurd hc (by simp [hdC])
    | mu h' t' ht' => rw [tx_mu] at hc; exact absurd hc (by simp [hdC])
    | int h' => rw [tx_int] at hc; exact absurd hc (by simp [hdC])
    | st nm' h' hg' =>
      rw [tx_st, tx_st] at e
      rw [tyEq, bs_inj e]
      simp [tysEq]
    | co nm' h' hs => rw [tx_co] at hc; exact absurd hc (by simp [hdC])
  | co nm h hs =>
    intro b hb e
    have hc := congrArg hdC e
    cases hb with
    | box h' t' ht' => rw [tx_co, tx_box] at hc; exact absurd hc (by simp [hdC])
    | ref h' t' ht' => rw [tx_co, tx_ref] at hc; exact absurd hc (by simp [hdC])
    | mu h' t' ht' => rw [tx_co, tx_mu] at hc; exact absurd hc (by simp [hdC])
    | int h' => rw [tx_co, tx_int] at hc; exact absurd hc (by simp [hdC])
    | st nm' h' hg => rw [tx_co, tx_st, hdC_st hg] at hc; exact absurd hc (by simp [hdC])
    | co nm' h' hs' =>
      rw [tx_co, tx_co] at e
      simp only [List.cons.injEq, true_and] at e
      rw [tyEq, bs_inj e]
      simp [tysEq]
theorem ty_chars {t : Ty5} (h : TyW t) : ∀ c, c ∈ tyT t → nameB c = true ∨ c = 32 ∨ c = 38 := by
  induction h with
  | box h t ht ih =>
    rw [tx_box]
    intro c hc
    simp only [List.mem_cons] at hc
    rcases hc with rfl | rfl | rfl | rfl | hc
    · exact .inl rfl
    · exact .inl rfl
    · exact .inl rfl
    · exact .inr (.inl rfl)
    · exact ih c hc
  | ref h t ht ih =>
    rw [tx_ref]
    intro c hc
    simp only [List.mem_cons] at hc
    rcases hc with rfl | hc
    · exact .inr (.inr rfl)
    · exact ih c hc
  | mu h t ht ih =>
    rw [tx_mu]
    intro c hc
    simp only [List.mem_cons] at hc
    rcases hc with rfl | rfl | rfl | rfl | rfl | hc
    · exact .inr (.inr rfl)
    · exact .inl rfl
    · exact .inl rfl
    · exact .inl rfl
    · exact .inr (.inl rfl)
    · exact ih c hc
  | int h =>
    rw [tx_int]
    intro c hc
    simp only [List.mem_cons, List.not_mem_nil, or_false] at hc
    rcases hc with rfl | rfl | rfl <;> exact .inl rfl
  | st nm h hg =>
    rw [tx_st]
    intro c hc
    exact .inl (word_name (great_word hg) c hc)
  | co nm h hs =>
    rw [tx_co]
    intro c hc
    simp only [List.mem_cons] at hc
    rcases hc with rfl | rfl | rfl | hc
    · exact .inl rfl
    · exact .inl rfl
    · exact .inr (.inl rfl)
    · exact .inl (word_name (small_word hs) c hc)
theorem ty_no {t : Ty5} (h : TyW t) {d : UInt8} (hd : nameB d = false) (h1 : d ≠ 32) (h2 : d ≠ 38) : no d (tyT t) := fun c hc e => by
  subst e
  rcases ty_chars h c hc with h3 | h3 | h3
  · rw [hd] at h3; cases h3
  · exact h1 h3
  · exact h2 h3

/-! ### Fields, variants, items but coroutines -/
theorem fieldT_inj {a b : Fd5} (ha : fdOk a = true) (hb : fdOk b = true) (h : fieldT a = fieldT b) : fdEq a b = true := by
  simp only [fdOk, Bool.and_eq_true] at ha hb
  rw [fieldT, fieldT] at h
  simp only [List.append_assoc, List.cons_append, List.nil_append] at h
  obtain ⟨e1, e2⟩ := split_at (small_no ha.1 rfl) (small_no hb.1 rfl) h
  rw [fdEq, bs_inj e1, tyT_inj (tyW_of _ _ ha.2) (tyW_of _ _ hb.2) (List.cons.inj e2).2]
  simp
theorem field_no {a : Fd5} (h : fdOk a = true) {d : UInt8} (hd : nameB d = false) (h1 : d ≠ 32) (h2 : d ≠ 38) (h3 : d ≠ 58) : no d (fieldT a) := by
  simp only [fdOk, Bool.and_eq_true] at h
  refine no_app (no_app (small_no h.1 hd) ?_) (ty_no (tyW_of _ _ h.2) hd h1 h2)
  intro x hx e
  subst e
  simp only [List.mem_cons, List.not_mem_nil, or_false] at hx
  rcases hx with hx | hx
  · exact h3 hx
  · exact h1 hx
theorem field_ne {a : Fd5} : fieldT a ≠ [] := by
  rw [fieldT]
  simp
theorem unit_same {a b : Ty5} (ha : tyEq a tyZ = true) (hb : tyEq b tyZ = true) : tyEq a b = true := by
  obtain ⟨k, nm, h, l⟩ := a
  obtain ⟨k', nm', h', l'⟩ := b
  rw [tyZ, tyEq, tysEq_eq] at ha hb
  simp only [Bool.and_eq_true, decide_eq_true_eq] at ha hb
  have e1 := eqL_length ha.2
  have e2 := eqL_length hb.2
  rw [tyEq, ha.1.1, ha.1.2, hb.1.1, hb.1.2, List.eq_nil_of_length_eq_zero e1, List.eq_nil_of_length_eq_zero e2]
  rfl
theorem tyK_W {t : Ty5} (h : TyW t) : tyK t ≠ 0 := by cases h <;> simp [tyK]
theorem tyK_unit {t : Ty5} (h : tyEq t tyZ = true) : tyK t = 0 := tyK_same h
theorem va_cases {a : Fd5} (h : vaOk a = true) : greatN a.nm = true ∧ ((tyEq a.ty tyZ = true ∧ vaT a = bs a.nm) ∨ (TyW a.ty ∧ vaT a = bs a.nm ++ 40 :: (tyT a.ty ++ [41]))) := by
  simp only [vaOk, Bool.and_eq_true, Bool.or_eq_true] at h
  refine ⟨h.1, h.2.imp (fun e => ⟨e, by rw [vaT, if_pos (tyK_unit e)]⟩) fun e => ?_⟩
  have := tyW_of _ _ e
  exact ⟨this, by rw [vaT, if_neg (tyK_W this)]; simp only [List.append_assoc, List.cons_append, List.nil_append]⟩
theorem vaT_inj {a b : Fd5} (ha : vaOk a = true) (hb : vaOk b = true) (h : vaT a = vaT b) : fdEq a b = true := by
  obtain ⟨g1, c1⟩ := va_cases ha
  obtain ⟨g2, c2⟩ := va_cases hb
  rcases c1 with ⟨u1, t1⟩ | ⟨u1, t1⟩
  · rcases c2 with ⟨u2, t2⟩ | ⟨u2, t2⟩
    · rw [t1, t2] at h
      rw [fdEq, bs_inj h, unit_same u1 u2]
      simp
    · rw [t1, t2] at h
      exact absurd rfl (great_no g1 rfl 40 (by rw [h]; simp))
  · rcases c2 with ⟨u2, t2⟩ | ⟨u2, t2⟩
    · rw [t1, t2] at h
      exact absurd rfl (great_no g2 rfl 40 (by rw [← h]; simp))
    · rw [t1, t2] at h
      obtain ⟨e1, e2⟩ := split_at (great_no g1 rfl) (great_no g2 rfl) h
      rw [fdEq, bs_inj e1, tyT_inj u1 u2 (List.append_cancel_right e2)]
      simp
theorem va_no {a : Fd5} (h : vaOk a = true) : no 44 (vaT a) := by
  obtain ⟨g, c⟩ := va_cases h
  rcases c with ⟨u, t⟩ | ⟨u, t⟩
  · rw [t]; exact great_no g rfl
  · rw [t]
    refine no_app (great_no g rfl) ?_
    intro x hx
    cases List.mem_cons.1 hx with
    | inl e => rw [e]; decide
    | inr e => exact no_app (ty_no u rfl (by decide) (by decide)) (no_lit rfl) x e
theorem va_ne {a : Fd5} (h : vaOk a = true) : vaT a ≠ [] := by
  obtain ⟨g, c⟩ := va_cases h
  obtain ⟨x, r, e, _⟩ := great_head g
  rcases c with ⟨u, t⟩ | ⟨u, t⟩ <;> (rw [t, e]; simp)
theorem braces_inj {T : Fd5 → List UInt8} {ok : Fd5 → Bool} (hno : ∀ x, ok x = true → no 44 (T x)) (hne : ∀ x, ok x = true → T x ≠ []) (hinj : ∀ x y, ok x = true → ok y = true → T x = T y → fdEq x y = true) {a b : List Fd5} (ha : a.all ok = true) (hb : b.all ok = true) (h : bracesT T a = bracesT T b) : eqL fdEq a b = true := by
  rw [bracesT, bracesT] at h
  by_cases h1 : a.length = 0
  · rw [if_pos h1] at h
    by_cases h2 : b.length = 0
    · rw [List.eq_nil_of_length_eq_zero h1, List.eq_nil_of_length_eq_zero h2]
      rfl
    · rw [if_neg h2] at h
      simp at h
  · rw [if_neg h1] at h
    by_cases h2 : b.length = 0
    · rw [if_pos h2] at h
      simp at h
    · rw [if_neg h2] at h
      exact list_inj hno hne hinj ha hb (List.append_cancel_left (List.append_cancel_right h))
theorem wordS (b : Bool) : bs (if b then (⟨#[100, 114, 111, 112, 32, 115, 116, 114, 117, 99, 116, 32]⟩ : ByteArray) else ⟨#[115, 116, 114, 117, 99, 116, 32]⟩) = if b then [100, 114, 111, 112, 32, 115, 116, 114, 117, 99, 116, 32] else [115, 116, 114, 117, 99, 116, 32] := by cases b <;> rfl
theorem braces_sp (T : Fd5 → List UInt8) (l : List Fd5) : ∃ r, bracesT T l = 32 :: r := by
  rw [bracesT]
  split
  · exact ⟨_, rfl⟩
  · exact ⟨123 :: 32 :: (listT T l ++ [32, 125]), rfl⟩
/-- What a struct's line holds. -/
def structC (s : Su5) : List UInt8 := (if s.drop then [100, 114, 111, 112, 32, 115, 116, 114, 117, 99, 116, 32] else [115, 116, 114, 117, 99, 116, 32]) ++ (bs s.nm ++ bracesT fieldT s.fields)
theorem structT_C (s : Su5) : structT s = structC s ++ [10] := by
  rw [structT, lineT, structC]
  simp only [List.replicate_zero, List.nil_append, List.flatMap_cons, List.flatMap_nil, List.append_nil, strB_bs, wordS]
def enumC (s : En5) : List UInt8 := [101, 110, 117, 109, 32] ++ (bs s.nm ++ bracesT vaT s.vars)
theorem enumT_C (s : En5) : enumT s = enumC s ++ [10] := by
  rw [enumT, lineT, enumC]
  simp only [List.replicate_zero, List.nil_append, List.flatMap_cons, List.flatMap_nil, List.append_nil, strB_bs]
  first | done | rfl
theorem named_inj {T : Fd5 → List UInt8} {a b : ByteArray} {l m : List Fd5} (ha : greatN a = true) (hb : greatN b = true) (h : bs a ++ bracesT T l = bs b ++ bracesT T m) : a = b ∧ bracesT T l = bracesT T m := by
  obtain ⟨r, hr⟩ := braces_sp T l
  obtain ⟨q, hq⟩ := braces_sp T m
  rw [hr, hq] at h
  obtain ⟨e1, e2⟩ := split_at (great_no ha rfl) (great_no hb rfl) h
  exact ⟨bs_inj e1, by rw [hr, hq, e2]⟩
theorem structC_inj {a b : Su5} (ha : suOk a = true) (hb : suOk b = true) (h : structC a = structC b) : suEq a b = true := by
  simp only [suOk, Bool.and_eq_true] at ha hb
  rw [structC, structC] at h
  have hd : a.drop = b.drop := by
    cases h1 : a.drop <;> cases h2 : b.drop <;> rw [h1, h2] at h <;> simp at h <;> rfl
  rw [hd] at h
  obtain ⟨e1, e2⟩ := named_inj ha.1 hb.1 (List.append_cancel_left h)
  rw [suEq, e1, hd, braces_inj (fun x hx => field_no hx rfl (by decide) (by decide) (by decide)) (fun _ _ => field_ne) (fun _ _ => fieldT_inj) ha.2 hb.2 e2]
  simp
theorem enumC_inj {a b : En5} (ha : enOk a = true) (hb : enOk b = true) (h : enumC a = enumC b) : enEq a b = true := by
  simp only [enOk, Bool.and_eq_true] at ha hb
  rw [enumC, enumC] at h
  obtain ⟨e1, e2⟩ := named_inj ha.1 hb.1 (List.append_cancel_left h)
  rw [enEq, e1, braces_inj (fun _ => va_no) (fun _ => va_ne) (fun _ _ => vaT_inj) ha.2 hb.2 e2]
  simp

/-! ### Sets -/
inductive SetW : Rv5 → Prop
  | one (k : Int) (hk : k = 0 ∨ k = 8 ∨ k = 15) (h : Hd) (o : Op5) (p : Pl5) : opOk o = true → noPl p = true → SetW ⟨k, h, [o], p, ⟨#[]⟩, ⟨#[]⟩⟩
  | two (k : Int) (hk : k = 1 ∨ k = 2 ∨ k = 3 ∨ k = 4 ∨ k = 5) (h : Hd) (o q : Op5) (p : Pl5) : opOk o = true → opOk q = true → noPl p = true → SetW ⟨k, h, [o, q], p, ⟨#[]⟩, ⟨#[]⟩⟩
  | pl (k : Int) (hk : k = 6 ∨ k = 7) (h : Hd) (p : Pl5) : plOk p = true → SetW ⟨k, h, [], p, ⟨#[]⟩, ⟨#[]⟩⟩
  | alo (k : Int) (hk : k = 9 ∨ k = 13 ∨ k = 14) (h : Hd) (p : Pl5) : plOk p = true → SetW ⟨k, h, [], p, ⟨#[]⟩, ⟨#[]⟩⟩
  | make (h : Hd) (l : List Op5) (p : Pl5) (nm : ByteArray) : greatN nm = true → l.all opOk = true → noPl p = true → SetW ⟨10, h, l, p, nm, ⟨#[]⟩⟩
  | var0 (h : Hd) (p : Pl5) (nm vr : ByteArray) : greatN nm = true → greatN vr = true → noPl p = true → SetW ⟨11, h, [], p, nm, vr⟩
  | var1 (h : Hd) (o : Op5) (p : Pl5) (nm vr : ByteArray) : greatN nm = true → greatN vr = true → opOk o = true → noPl p = true → SetW ⟨11, h, [o], p, nm, vr⟩
  | start (h : Hd) (l : List Op5) (p : Pl5) (nm : ByteArray) : smallN nm = true → l.all opOk = true → noPl p = true → SetW ⟨12, h, l, p, nm, ⟨#[]⟩⟩
theorem setW_of (v : Rv5) (hv : rvOk v = true) : SetW v := by
  obtain ⟨k, h, l, p, nm, vr⟩ := v
  simp only [rvOk, Bool.and_eq_true] at hv
  obtain ⟨⟨⟨hn, hp⟩, ho⟩, hc⟩ := hv
  simp only [namesOk] at hn
  simp only [placeOk] at hp
  simp only [countOk] at hc
  by_cases c1 : k = 0 ∨ k = 8 ∨ k = 15
  · rw [if_pos c1] at hc
    rw [if_neg (by omega), if_neg (by omega), if_neg (by omega)] at hn
    rw [if_neg (by omega), if_neg (by omega)] at hp
    simp only [Bool.and_eq_true, decide_eq_true_eq] at hn hc
    obtain ⟨o, rfl⟩ := List.length_eq_one_iff.1 hc
    obtain rfl := empty_of hn.1
    obtain rfl := empty_of hn.2
    exact .one k c1 h o p (by simpa using ho) hp
  rw [if_neg c1] at hc
  by_cases c2 : k = 1 ∨ k = 2 ∨ k = 3 ∨ k = 4 ∨ k = 5
  · rw [if_pos c2] at hc
    rw [if_neg (by omega), if_neg (by omega), if_neg (by omega)] at hn
    rw [if_neg (by omega), if_neg (by omega)] at hp
    simp only [Bool.and_eq_true, decide_eq_true_eq] at hn hc
    match l, hc with
    | [o, q], _ =>
      obtain rfl := empty_of hn.1
      obtain rfl := empty_of hn.2
      simp only [List.all_cons, List.all_nil, Bool.and_true, Bool.and_eq_true] at ho
      exact .two k c2 h o q p ho.1 ho.2 hp
  rw [if_neg c2] at hc
  by_cases c3 : k = 6 ∨ k = 7 ∨ k = 9 ∨ k = 13 ∨ k = 14
  · rw [if_pos c3] at hc
    rw [if_neg (by omega), if_neg (by omega), if_neg (by omega)] at hn
    simp only [Bool.and_eq_true, decide_eq_true_eq] at hn hc
    obtain rfl := List.eq_nil_of_length_eq_zero hc
    obtain rfl := empty_of hn.1
    obtain rfl := empty_of hn.2
    by_cases c4 : k = 6 ∨ k = 7
    · rw [if_pos c4] at hp
      exact .pl k c4 h p hp
    · rw [if_neg c4, if_pos (by omega)] at hp
      exact .alo k (by omega) h p (alone_plOk hp)
  rw [if_neg c3] at hc
  rw [if_neg (by omega), if_neg (by omega)] at hp
  by_cases c5 : k = 11
  · subst c5
    rw [if_pos rfl] at hc
    rw [if_neg (by decide), if_pos rfl] at hn
    simp only [Bool.and_eq_true, decide_eq_true_eq] at hn hc
    match l, hc with
    | [], _ => exact .var0 h p nm vr hn.1 hn.2 hp
    | [o], _ => exact .var1 h o p nm vr hn.1 hn.2 (by simpa using ho) hp
  rw [if_neg c5] at hc
  by_cases c6 : k = 10
  · subst c6
    rw [if_pos rfl] at hn
    simp only [Bool.and_eq_true] at hn
    obtain rfl := empty_of hn.2
    exact .make h l p nm hn.1 ho hp
  by_cases c7 : k = 12
  · subst c7
    rw [if_neg (by decide), if_neg (by decide), if_pos rfl] at hn
    simp only [Bool.and_eq_true] at hn
    obtain rfl := empty_of hn.2
    exact .start h l p nm hn.1 ho hp
  rw [if_neg (by omega)] at hc
  cases hc
theorem take_no {a r : List UInt8} (h : no 32 a) : (a ++ 32 :: r).takeWhile (fun c => c != 32) = a := by
  induction a with
  | nil => simp
  | cons x a ih =>
    have h1 : (x != 32) = true := by simpa using h x (by simp)
    rw [List.cons_append, List.takeWhile_cons, if_pos h1, ih (no_tail h)]
theorem drop_no {a r : List UInt8} (h : no 32 a) : (a ++ 32 :: r).dropWhile (fun c => c != 32) = 32 :: r := by
  induction a with
  | nil => simp
  | cons x a ih =>
    have h1 : (x != 32) = true := by simpa using h x (by simp)
    rw [List.cons_append, List.dropWhile_cons, if_pos h1, ih (no_tail h)]
theorem op_res {o : Op5} (h : opOk o = true) {w : List UInt8} (hw : w ∈ resL) (h46 : no 46 w) (hl : ∃ c r, w = c :: r ∧ 97 ≤ c.toNat) : opT o ≠ w := fun e => by
  rcases op_cases h with ⟨n1, p1, t1⟩ | ⟨n1, z1, p1, t1⟩
  · obtain ⟨c, r, hc, hb⟩ := hl
    rcases itoa_chars o.n c (by rw [← t1, e, hc]; simp) with h1 | h1
    · subst h1
      revert hb
      decide
    · omega
  · rw [t1, plT] at e
    simp only [plOk, Bool.and_eq_true] at p1
    have e2 : bs o.p.nm ++ o.p.path.flatMap stepT = w ++ [] := by rw [e, List.append_nil]
    obtain ⟨e3, -⟩ := split_rest (small_no p1.1 rfl) h46 (path_rest _) (.inl rfl) e2
    have := p1.1
    simp only [smallN, freeN, Bool.and_eq_true, Bool.not_eq_true', resB, decide_eq_false_iff_not] at this
    exact this.1.2 (by rw [e3]; exact hw)
/-- The kind of what is set, as its text tells it. -/
def setK (s : List UInt8) : Int :=
  match s with
  | [] => -1
  | c :: _ =>
    if c = 38 then (if (32 : UInt8) ∈ s then 7 else 6)
    else if 65 ≤ c.toNat ∧ c.toNat ≤ 90 then (if (58 : UInt8) ∈ s then 11 else 10)
    else if (32 : UInt8) ∈ s then
      (if s.takeWhile (fun c => c != 32) = [98, 111, 120] then 8 else if s.takeWhile (fun c => c != 32) = [117, 110, 98, 111, 120] then 9 else if s.takeWhile (fun c => c != 32) = [115, 116, 97, 114, 116] then 12
        else if s.takeWhile (fun c => c != 32) = [97, 119, 97, 105, 116] then 13 else if s.takeWhile (fun c => c != 32) = [112, 111, 108, 108] then 14 else if s.takeWhile (fun c => c != 32) = [119, 97, 105, 116] then 15
        else (match s.dropWhile (fun c => c != 32) with
          | _ :: c :: _ => if c = 43 then 1 else if c = 45 then 2 else if c = 42 then 3 else if c = 60 then 4 else 5
          | _ => -1))
    else 0
theorem no_mem {c : UInt8} {l : List UInt8} (h : no c l) : ¬ c ∈ l := fun hc => h c hc rfl
theorem op_head {o : Op5} (h : opOk o = true) : ∃ c r, opT o = c :: r ∧ c ≠ 38 ∧ ¬ (65 ≤ c.toNat ∧ c.toNat ≤ 90) := by
  rcases op_cases h with ⟨n1, p1, t1⟩ | ⟨n1, z1, p1, t1⟩
  · cases hi : Lib.itoa o.n with
    | nil => exact absurd hi (itoa_ne _)
    | cons c r =>
      rw [t1]
      refine ⟨c, r, hi, ?_⟩
      rcases itoa_chars o.n c (by rw [hi]; simp) with h1 | h1
      · subst h1
        decide
      · refine ⟨fun e => ?_, by omega⟩
        subst e
        revert h1
        decide
  · obtain ⟨c, r, e, h1, h2⟩ := pl_head p1
    rw [t1]
    refine ⟨c, r, e, fun e => ?_, by omega⟩
    subst e
    revert h1
    decide
theorem setK_word {w r : List UInt8} {c : UInt8} {t : List UInt8} (hw : w = c :: t) (h1 : c ≠ 38) (h2 : ¬ (65 ≤ c.toNat ∧ c.toNat ≤ 90)) (h32 : no 32 w) : setK (w ++ 32 :: r) =
    (if w = [98, 111, 120] then 8 else if w = [117, 110, 98, 111, 120] then 9 else if w = [115, 116, 97, 114, 116] then 12 else if w = [97, 119, 97, 105, 116] then 13 else if w = [112, 111, 108, 108] then 14 else if w = [119, 97, 105, 116] then 15
      else (match (32 : UInt8) :: r with
          | _ :: c :: _ => if c = 43 then 1 else if c = 45 then 2 else if c = 42 then 3 else if c = 60 then 4 else 5
          | _ => -1)) := by
  have hm : (32 : UInt8) ∈ w ++ 32 :: r := by simp
  have ht := take_no (r := r) h32
  have hd := drop_no (r := r) h32
  subst hw
  rw [List.cons_append] at hm ht hd ⊢
  rw [setK, if_neg h1, if_neg h2, if_pos hm, ht, hd]

theorem list_no {α : Type} {T : α → List UInt8} {d : UInt8} (h1 : d ≠ 44) (h2 : d ≠ 32) {l : List α} (h : ∀ x, x ∈ l → no d (T x)) : no d (listT T l) := by
  have h44 : no d [44, 32] := fun x hx e => by
    subst e
    simp only [List.mem_cons, List.not_mem_nil, or_false] at hx
    exact hx.elim h1 h2
  cases l with
  | nil => exact no_lit rfl
  | cons x r =>
    rw [listT]
    refine no_app (h x (by simp)) fun c hc => ?_
    obtain ⟨y, hy, hcy⟩ := List.mem_flatMap.1 hc
    exact no_app h44 (h y (by simp [hy])) c hcy
theorem args_text (v : Rv5) : argsT v = 40 :: (listT opT v.ops ++ [41]) := by
  rw [argsT]
  rfl
theorem setK_of {v : Rv5} (h : SetW v) : setK (setT v) = v.k := by
  cases h with
  | one k hk h o p ho hp =>
    rcases hk with rfl | rfl | rfl
    · show setK (opT o) = 0
      have h32 := no_mem (op_no ho (d := 32) rfl (by decide) (by decide) (by decide))
      obtain ⟨c, r, e, c1, c2⟩ := op_head ho
      rw [e] at h32 ⊢
      rw [setK, if_neg c1, if_neg c2, if_neg h32]
    · show setK ([98, 111, 120] ++ 32 :: (opT o)) = 8; rw [setK_word rfl (by decide) (by decide) (no_lit rfl)]; rw [if_pos rfl]
    · show setK ([119, 97, 105, 116] ++ 32 :: (opT o)) = 15; rw [setK_word rfl (by decide) (by decide) (no_lit rfl)]; rw [if_neg (by decide), if_neg (by decide), if_neg (by decide), if_neg (by decide), if_neg (by decide), if_pos rfl]
  | two k hk h o q p ho hq hp =>
    obtain ⟨c, r, hc, c1, c2⟩ := op_head ho
    rcases hk with rfl | rfl | rfl | rfl | rfl
    · have e : setT ⟨1, h, [o, q], p, ⟨#[]⟩, ⟨#[]⟩⟩ = opT o ++ 32 :: 43 :: 32 :: opT q := by
        show opT o ++ signT 1 ++ opT q = _
        simp [signT]
      rw [e, setK_word hc c1 c2 (op_no ho rfl (by decide) (by decide) (by decide)), if_neg (op_res ho (by decide) (no_lit rfl) ⟨_, _, rfl, by decide⟩), if_neg (op_res ho (by decide) (no_lit rfl) ⟨_, _, rfl, by decide⟩), if_neg (op_res ho (by decide) (no_lit rfl) ⟨_, _, rfl, by decide⟩), if_neg (op_res ho (by decide) (no_lit rfl) ⟨_, _, rfl, by decide⟩), if_neg (op_res ho (by decide) (no_lit rfl) ⟨_, _, rfl, by decide⟩), if_neg (op_res ho (by decide) (no_lit rfl) ⟨_, _, rfl, by decide⟩)]
      rfl
    · have e : setT ⟨2, h, [o, q], p, ⟨#[]⟩, ⟨#[]⟩⟩ = opT o ++ 32 :: 45 :: 32 :: opT q := by
        show opT o ++ signT 2 ++ opT q = _
        simp [signT]
      rw [e, setK_word hc c1 c2 (op_no ho rfl (by decide) (by decide) (by decide)), if_neg (op_res ho (by decide) (no_lit rfl) ⟨_, _, rfl, by decide⟩), if_neg (op_res ho (by decide) (no_lit rfl) ⟨_, _, rfl, by decide⟩), if_neg (op_res ho (by decide) (no_lit rfl) ⟨_, _, rfl, by decide⟩), if_neg (op_res ho (by decide) (no_lit rfl) ⟨_, _, rfl, by decide⟩), if_neg (op_res ho (by decide) (no_lit rfl) ⟨_, _, rfl, by decide⟩), if_neg (op_res ho (by decide) (no_lit rfl) ⟨_, _, rfl, by decide⟩)]
      rfl
    · have e : setT ⟨3, h, [o, q], p, ⟨#[]⟩, ⟨#[]⟩⟩ = opT o ++ 32 :: 42 :: 32 :: opT q := by
        show opT o ++ signT 3 ++ opT q = _
        simp [signT]
      rw [e, setK_word hc c1 c2 (op_no ho rfl (by decide) (by decide) (by decide)), if_neg (op_res ho (by decide) (no_lit rfl) ⟨_, _, rfl, by decide⟩), if_neg (op_res ho (by decide) (no_lit rfl) ⟨_, _, rfl, by decide⟩), if_neg (op_res ho (by decide) (no_lit rfl) ⟨_, _, rfl, by decide⟩), if_neg (op_res ho (by decide) (no_lit rfl) ⟨_, _, rfl, by decide⟩), if_neg (op_res ho (by decide) (no_lit rfl) ⟨_, _, rfl, by decide⟩), if_neg (op_res ho (by decide) (no_lit rfl) ⟨_, _, rfl, by decide⟩)]
      rfl
    · have e : setT ⟨4, h, [o, q], p, ⟨#[]⟩, ⟨#[]⟩⟩ = opT o ++ 32 :: 60 :: 32 :: opT q := by
        show opT o ++ signT 4 ++ opT q = _
        simp [signT]
      rw [e, setK_word hc c1 c2 (op_no ho rfl (by decide) (by decide) (by decide)), if_neg (op_res ho (by decide) (no_lit rfl) ⟨_, _, rfl, by decide⟩), if_neg (op_res ho (by decide) (no_lit rfl) ⟨_, _, rfl, by decide⟩), if_neg (op_res ho (by decide) (no_lit rfl) ⟨_, _, rfl, by decide⟩), if_neg (op_res ho (by decide) (no_lit rfl) ⟨_, _, rfl, by decide⟩), if_neg (op_res ho (by decide) (no_lit rfl) ⟨_, _, rfl, by decide⟩), if_neg (op_res ho (by decide) (no_lit rfl) ⟨_, _, rfl, by decide⟩)]
      rfl
    · have e : setT ⟨5, h, [o, q], p, ⟨#[]⟩, ⟨#[]⟩⟩ = opT o ++ 32 :: 61 :: 61 :: 32 :: opT q := by
        show opT o ++ signT 5 ++ opT q = _
        simp [signT]
      rw [e, setK_word hc c1 c2 (op_no ho rfl (by decide) (by decide) (by decide)), if_neg (op_res ho (by decide) (no_lit rfl) ⟨_, _, rfl, by decide⟩), if_neg (op_res ho (by decide) (no_lit rfl) ⟨_, _, rfl, by decide⟩), if_neg (op_res ho (by decide) (no_lit rfl) ⟨_, _, rfl, by decide⟩), if_neg (op_res ho (by decide) (no_lit rfl) ⟨_, _, rfl, by decide⟩), if_neg (op_res ho (by decide) (no_lit rfl) ⟨_, _, rfl, by decide⟩), if_neg (op_res ho (by decide) (no_lit rfl) ⟨_, _, rfl, by decide⟩)]
      rfl
  | pl k hk h p hp =>
    rcases hk with rfl | rfl
    · show setK (38 :: plT p) = 6
      have h32 : ¬ (32 : UInt8) ∈ 38 :: plT p := fun hm => by
        cases List.mem_cons.1 hm with
        | inl e => cases e
        | inr e => exact pl_no hp (d := 32) rfl (by decide) (by decide) 32 e rfl
      rw [setK, if_pos rfl, if_neg h32]
    · show setK (38 :: ([109, 117, 116, 32] ++ plT p)) = 7
      rw [setK, if_pos rfl, if_pos (by simp)]
  | alo k hk h p hp =>
    rcases hk with rfl | rfl | rfl
    · show setK ([117, 110, 98, 111, 120] ++ 32 :: (plT p)) = 9; rw [setK_word rfl (by decide) (by decide) (no_lit rfl)]; rw [if_neg (by decide), if_pos rfl]
    · show setK ([97, 119, 97, 105, 116] ++ 32 :: (plT p)) = 13; rw [setK_word rfl (by decide) (by decide) (no_lit rfl)]; rw [if_neg (by decide), if_neg (by decide), if_neg (by decide), if_pos rfl]
    · show setK ([112, 111, 108, 108] ++ 32 :: (plT p)) = 14; rw [setK_word rfl (by decide) (by decide) (no_lit rfl)]; rw [if_neg (by decide), if_neg (by decide), if_neg (by decide), if_neg (by decide), if_pos rfl]
  | make h l p nm hg hl hp =>
    have e : setT ⟨10, h, l, p, nm, ⟨#[]⟩⟩ = bs nm ++ 40 :: (listT opT l ++ [41]) := by
      show bs nm ++ argsT _ = _
      rw [args_text]
    have hn : no 58 (bs nm ++ 40 :: (listT opT l ++ [41])) := by
      refine no_app (great_no hg rfl) fun x hx => ?_
      cases List.mem_cons.1 hx with
      | inl e => rw [e]; decide
      | inr e => exact no_app (list_no (by decide) (by decide) fun o ho => op_no (List.all_eq_true.1 hl o ho) rfl (by decide) (by decide) (by decide)) (no_lit rfl) x e
    obtain ⟨c, r, hc, b1, b2⟩ := great_head hg
    have c38 : c ≠ 38 := fun e => by subst e; revert b1; decide
    rw [e]
    have hn2 := no_mem hn
    rw [hc] at hn2 ⊢
    rw [List.cons_append] at hn2 ⊢
    rw [setK, if_neg c38, if_pos ⟨b1, b2⟩, if_neg hn2]
  | var0 h p nm vr hg hr hp =>
    have e : setT ⟨11, h, [], p, nm, vr⟩ = bs nm ++ 58 :: 58 :: bs vr := by
      show bs nm ++ [58, 58] ++ bs vr ++ [] = _
      simp
    obtain ⟨c, r, hc, b1, b2⟩ := great_head hg
    have c38 : c ≠ 38 := fun e => by subst e; revert b1; decide
    rw [e, hc, List.cons_append, setK, if_neg c38, if_pos ⟨b1, b2⟩, if_pos (by simp)]
  | var1 h o p nm vr hg hr ho hp =>
    have e : setT ⟨11, h, [o], p, nm, vr⟩ = bs nm ++ 58 :: 58 :: (bs vr ++ 40 :: (opT o ++ [41])) := by
      show bs nm ++ [58, 58] ++ bs vr ++ argsT _ = _
      rw [args_text]
      simp [listT]
    obtain ⟨c, r, hc, b1, b2⟩ := great_head hg
    have c38 : c ≠ 38 := fun e => by subst e; revert b1; decide
    rw [e, hc, List.cons_append, setK, if_neg c38, if_pos ⟨b1, b2⟩, if_pos (by simp)]
  | start h l p nm hs hl hp =>
    have e : setT ⟨12, h, l, p, nm, ⟨#[]⟩⟩ = [115, 116, 97, 114, 116] ++ 32 :: (bs nm ++ argsT ⟨12, h, l, p, nm, ⟨#[]⟩⟩) := by
      show [115, 116, 97, 114, 116, 32] ++ bs nm ++ argsT _ = _
      simp
    rw [e, setK_word rfl (by decide) (by decide) (no_lit rfl), if_neg (by decide), if_neg (by decide), if_pos rfl]
theorem cancel_lit (w : List UInt8) {a b : List UInt8} (h : w ++ a = w ++ b) : a = b := List.append_cancel_left h
theorem ops_one {o q : Op5} (h : opEq o q = true) : eqL opEq [o] [q] = true := by
  rw [eqL, h, eqL]
  rfl
theorem ops_inj {a b : List Op5} (ha : a.all opOk = true) (hb : b.all opOk = true) (h : listT opT a = listT opT b) : eqL opEq a b = true :=
  list_inj (fun x hx => op_no hx rfl (by decide) (by decide) (by decide)) (fun x hx => op_ne hx) (fun x y hx hy => opT_inj hx hy) ha hb h
theorem setT_inj {a b : Rv5} (ha : SetW a) (hb : SetW b) (h : setT a = setT b) : rvEq a b = true := by
  have hk : a.k = b.k := by rw [← setK_of ha, ← setK_of hb, h]
  cases ha with
  | one k hk1 hh o p ho hp =>
    cases hb with
    | one k' hk2 hh' o' p' ho' hp' =>
      dsimp only at hk
      subst hk
      have e : opT o = opT o' := by
        rcases hk1 with rfl | rfl | rfl
        · exact h
        · exact cancel_lit [98, 111, 120, 32] h
        · exact cancel_lit [119, 97, 105, 116, 32] h
      rw [rvEq, noPl_same hp hp', ops_one (opT_inj ho ho' e)]
      simp
    | two => dsimp only at hk; omega
    | pl => dsimp only at hk; omega
    | alo => dsimp only at hk; omega
    | make => dsimp only at hk; omega
    | var0 => dsimp only at hk; omega
    | var1 => dsimp only at hk; omega
    | start => dsimp only at hk; omega
  | two k hk1 hh o q p ho hq hp =>
    cases hb with
    | two k' hk2 hh' o' q' p' ho' hq' hp' =>
      dsimp only at hk
      subst hk
      have key : ∀ s : List UInt8, opT o ++ 32 :: s ++ opT q = opT o' ++ 32 :: s ++ opT q' → opT o = opT o' ∧ opT q = opT q' := fun s h => by
        rw [List.append_assoc, List.append_assoc] at h
        obtain ⟨e1, e2⟩ := split_at (op_no ho rfl (by decide) (by decide) (by decide)) (op_no ho' rfl (by decide) (by decide) (by decide)) h
        exact ⟨e1, List.append_cancel_left e2⟩
      have e : opT o = opT o' ∧ opT q = opT q' := by
        rcases hk1 with rfl | rfl | rfl | rfl | rfl
        · exact key [43, 32] h
        · exact key [45, 32] h
        · exact key [42, 32] h
        · exact key [60, 32] h
        · exact key [61, 61, 32] h
      rw [rvEq, noPl_same hp hp', eqL, opT_inj ho ho' e.1, ops_one (opT_inj hq hq' e.2)]
      simp
    | one => dsimp only at hk; omega
    | pl => dsimp only at hk; omega
    | alo => dsimp only at hk; omega
    | make => dsimp only at hk; omega
    | var0 => dsimp only at hk; omega
    | var1 => dsimp only at hk; omega
    | start => dsimp only at hk; omega
  | pl k hk1 hh p hp =>
    cases hb with
    | pl k' hk2 hh' p' hp' =>
      dsimp only at hk
      subst hk
      have e : plT p = plT p' := by
        rcases hk1 with rfl | rfl
        · exact cancel_lit [38] h
        · exact cancel_lit [38, 109, 117, 116, 32] h
      rw [rvEq, plT_inj hp hp' e]
      simp [eqL]
    | one => dsimp only at hk; omega
    | two => dsimp only at hk; omega
    | alo => dsimp only at hk; omega
    | make => dsimp only at hk; omega
    | var0 => dsimp only at hk; omega
    | var1 => dsimp only at hk; omega
    | start => dsimp only at hk; omega
  | alo k hk1 hh p hp =>
    cases hb with
    | alo k' hk2 hh' p' hp' =>
      dsimp only at hk
      subst hk
      have e : plT p = plT p' := by
        rcases hk1 with rfl | rfl | rfl
        · exact cancel_lit [117, 110, 98, 111, 120, 32] h
        · exact cancel_lit [97, 119, 97, 105, 116, 32] h
        · exact cancel_lit [112, 111, 108, 108, 32] h
      rw [rvEq, plT_inj hp hp' e]
      simp [eqL]
    | one => dsimp only at hk; omega
    | two => dsimp only at hk; omega
    | pl => dsimp only at hk; omega
    | make => dsimp only at hk; omega
    | var0 => dsimp only at hk; omega
    | var1 => dsimp only at hk; omega
    | start => dsimp only at hk; omega
  | make hh l p nm hg hl hp =>
    cases hb with
    | make hh' l' p' nm' hg' hl' hp' =>
      have h' : bs nm ++ argsT ⟨10, hh, l, p, nm, ⟨#[]⟩⟩ = bs nm' ++ argsT ⟨10, hh', l', p', nm', ⟨#[]⟩⟩ := h
      rw [args_text, args_text] at h'
      obtain ⟨e1, e2⟩ := split_at (great_no hg rfl) (great_no hg' rfl) h'
      rw [rvEq, bs_inj e1, noPl_same hp hp', ops_inj hl hl' (List.append_cancel_right e2)]
      simp
    | one => dsimp only at hk; omega
    | two => dsimp only at hk; omega
    | pl => dsimp only at hk; omega
    | alo => dsimp only at hk; omega
    | var0 => dsimp only at hk; omega
    | var1 => dsimp only at hk; omega
    | start => dsimp only at hk; omega
  | var0 hh p nm vr hg hr hp =>
    cases hb with
    | var0 hh' p' nm' vr' hg' hr' hp' =>
      have h' : bs nm ++ [58, 58] ++ bs vr ++ [] = bs nm' ++ [58, 58] ++ bs vr' ++ [] := h
      simp only [List.append_nil, List.append_assoc, List.cons_append, List.nil_append] at h'
      obtain ⟨e1, e2⟩ := split_at (great_no hg rfl) (great_no hg' rfl) h'
      rw [rvEq, bs_inj e1, bs_inj (List.cons.inj e2).2, noPl_same hp hp']
      simp [eqL]
    | var1 hh' o' p' nm' vr' hg' hr' ho' hp' =>
      have h' : bs nm ++ [58, 58] ++ bs vr ++ [] = bs nm' ++ [58, 58] ++ bs vr' ++ argsT ⟨11, hh', [o'], p', nm', vr'⟩ := h
      rw [args_text] at h'
      simp only [List.append_nil, List.append_assoc, List.cons_append, List.nil_append] at h'
      obtain ⟨e1, e2⟩ := split_at (great_no hg rfl) (great_no hg' rfl) h'
      have e3 := (List.cons.inj e2).2
      exact absurd rfl (great_no hr rfl 40 (by rw [e3]; simp))
    | one => dsimp only at hk; omega
    | two => dsimp only at hk; omega
    | pl => dsimp only at hk; omega
    | alo => dsimp only at hk; omega
    | make => dsimp only at hk; omega
    | start => dsimp only at hk; omega
  | var1 hh o p nm vr hg hr ho hp =>
    cases hb with
    | var0 hh' p' nm' vr' hg' hr' hp' =>
      have h' : bs nm ++ [58, 58] ++ bs vr ++ argsT ⟨11, hh, [o], p, nm, vr⟩ = bs nm' ++ [58, 58] ++ bs vr' ++ [] := h
      rw [args_text] at h'
      simp only [List.append_nil, List.append_assoc, List.cons_append, List.nil_append] at h'
      obtain ⟨e1, e2⟩ := split_at (great_no hg rfl) (great_no hg' rfl) h'
      have e3 := (List.cons.inj e2).2
      exact absurd rfl (great_no hr' rfl 40 (by rw [← e3]; simp))
    | var1 hh' o' p' nm' vr' hg' hr' ho' hp' =>
      have h' : bs nm ++ [58, 58] ++ bs vr ++ argsT ⟨11, hh, [o], p, nm, vr⟩ = bs nm' ++ [58, 58] ++ bs vr' ++ argsT ⟨11, hh', [o'], p', nm', vr'⟩ := h
      rw [args_text, args_text] at h'
      simp only [List.append_assoc, List.cons_append, List.nil_append] at h'
      obtain ⟨e1, e2⟩ := split_at (great_no hg rfl) (great_no hg' rfl) h'
      obtain ⟨e3, e4⟩ := split_at (great_no hr rfl) (great_no hr' rfl) (List.cons.inj e2).2
      rw [rvEq, bs_inj e1, bs_inj e3, noPl_same hp hp', ops_inj (by simpa using ho) (by simpa using ho') (List.append_cancel_right e4)]
      simp
    | one => dsimp only at hk; omega
    | two => dsimp only at hk; omega
    | pl => dsimp only at hk; omega
    | alo => dsimp only at hk; omega
    | make => dsimp only at hk; omega
    | start => dsimp only at hk; omega
  | start hh l p nm hg hl hp =>
    cases hb with
    | start hh' l' p' nm' hg' hl' hp' =>
      have h' : [115, 116, 97, 114, 116, 32] ++ bs nm ++ argsT ⟨12, hh, l, p, nm, ⟨#[]⟩⟩ = [115, 116, 97, 114, 116, 32] ++ bs nm' ++ argsT ⟨12, hh', l', p', nm', ⟨#[]⟩⟩ := h
      rw [args_text, args_text, List.append_assoc, List.append_assoc] at h'
      obtain ⟨e1, e2⟩ := split_at (small_no hg rfl) (small_no hg' rfl) (List.append_cancel_left h')
      rw [rvEq, bs_inj e1, noPl_same hp hp', ops_inj hl hl' (List.append_cancel_right e2)]
      simp
    | one => dsimp only at hk; omega
    | two => dsimp only at hk; omega
    | pl => dsimp only at hk; omega
    | alo => dsimp only at hk; omega
    | make => dsimp only at hk; omega
    | var0 => dsimp only at hk; omega
    | var1 => dsimp only at hk; omega

/-! ### Lines -/
def lnX (t : Nat) (c : List UInt8) : List UInt8 := List.replicate t 9 ++ c ++ [10]
theorem lineT_X (t : Nat) (ps : List ByteArray) : lineT t ps = lnX t (ps.flatMap bs) := rfl
def good (c : List UInt8) : Prop := nl0 c ∧ ∃ x y, c = x :: y ∧ x ≠ 9
theorem tabs_inj : ∀ {t t' : Nat} {c c' : List UInt8}, (∃ x y, c = x :: y ∧ x ≠ 9) → (∃ x y, c' = x :: y ∧ x ≠ 9) → List.replicate t 9 ++ c = List.replicate t' 9 ++ c' → t = t' ∧ c = c'
  | 0, 0, _, _, _, _, h => ⟨rfl, h⟩
  | 0, t' + 1, _, _, ⟨x, y, e, hx⟩, _, h => by
    rw [e, List.replicate_succ] at h
    exact absurd (List.cons.inj h).1 hx
  | t + 1, 0, _, _, _, ⟨x, y, e, hx⟩, h => by
    rw [e, List.replicate_succ] at h
    exact absurd (List.cons.inj h).1.symm hx
  | t + 1, t' + 1, _, _, h1, h2, h => by
    rw [List.replicate_succ, List.replicate_succ] at h
    obtain ⟨e1, e2⟩ := tabs_inj h1 h2 (List.cons.inj h).2
    exact ⟨by rw [e1], e2⟩
theorem ln_inj {t t' : Nat} {c c' r r' : List UInt8} (hc : good c) (hc' : good c') (h : lnX t c ++ r = lnX t' c' ++ r') : t = t' ∧ c = c' ∧ r = r' := by
  have e : ∀ (t : Nat) (c r : List UInt8), lnX t c ++ r = (List.replicate t 9 ++ c) ++ 10 :: r := fun t c r => by
    rw [lnX]
    simp only [List.append_assoc, List.cons_append, List.nil_append]
  have nt : ∀ (t : Nat) {c : List UInt8}, nl0 c → no 10 (List.replicate t 9 ++ c) := fun t c hc => no_app (fun x hx => by rw [(List.mem_replicate.1 hx).2]; decide) hc
  rw [e, e] at h
  obtain ⟨e1, e2⟩ := split_at (nt t hc.1) (nt t' hc'.1) h
  obtain ⟨e3, e4⟩ := tabs_inj hc.2 hc'.2 e1
  exact ⟨e3, e4, e2⟩
theorem good_lit {l : List UInt8} (h : (l.all fun c => c != 10) = true) (h2 : ∃ x y, l = x :: y ∧ x ≠ 9) : good l := ⟨lit_nl h, h2⟩
/-- What follows a row of statements: a line with fewer tabs. -/
def Cl (t : Nat) (r : List UInt8) : Prop := ∃ u c q, r = lnX u c ++ q ∧ u < t ∧ good c
theorem cl_ln {t u : Nat} {c q : List UInt8} (h : u < t) (hc : good c) : Cl t (lnX u c ++ q) := ⟨u, c, q, rfl, h, hc⟩

/-! ### Statements -/
def stK (c : List UInt8) : Int :=
  if c.takeWhile (fun c => c != 32) = [108, 101, 116] then 0 else if c.takeWhile (fun c => c != 32) = [105, 102] then 2 else if c.takeWhile (fun c => c != 32) = [119, 104, 105, 108, 101] then 3
  else if c.takeWhile (fun c => c != 32) = [109, 97, 116, 99, 104] then 4 else if c.takeWhile (fun c => c != 32) = [121, 105, 101, 108, 100] then 5 else if c.takeWhile (fun c => c != 32) = [114, 101, 116, 117, 114, 110] then 6
  else if c.takeWhile (fun c => c != 32) = [112, 114, 105, 110, 116] then 7 else if c.takeWhile (fun c => c != 32) = [100, 114, 111, 112] then 8 else 1
theorem stK_word {w s r : List UInt8} (hs : s = w ++ 32 :: r) (h : no 32 w) : stK s =
    if w = [108, 101, 116] then 0 else if w = [105, 102] then 2 else if w = [119, 104, 105, 108, 101] then 3 else if w = [109, 97, 116, 99, 104] then 4 else if w = [121, 105, 101, 108, 100] then 5 else if w = [114, 101, 116, 117, 114, 110] then 6
    else if w = [112, 114, 105, 110, 116] then 7 else if w = [100, 114, 111, 112] then 8 else 1 := by
  rw [stK, hs, take_no h]
theorem pl_res {p : Pl5} (h : plOk p = true) {w : List UInt8} (hw : w ∈ resL) (h46 : no 46 w) : plT p ≠ w := fun e => by
  rw [plT] at e
  simp only [plOk, Bool.and_eq_true] at h
  have e2 : bs p.nm ++ p.path.flatMap stepT = w ++ [] := by rw [e, List.append_nil]
  obtain ⟨e3, -⟩ := split_rest (small_no h.1 rfl) h46 (path_rest _) (.inl rfl) e2
  have := h.1
  simp only [smallN, freeN, Bool.and_eq_true, Bool.not_eq_true', resB, decide_eq_false_iff_not] at this
  exact this.1.2 (by rw [e3]; exact hw)
/-- What a statement's first line holds. -/
def stC1 : St5 → List UInt8
  | .mk k _ nm ty p rv op _ _ _ _ _ _ =>
    if k = 0 then [108, 101, 116, 32] ++ (bs nm ++ 58 :: 32 :: (tyT ty ++ [32] ++ 61 :: 32 :: (setT rv ++ [59])))
    else if k = 1 then plT p ++ 32 :: 61 :: 32 :: (setT rv ++ [59])
    else if k = 2 then [105, 102, 32] ++ (opT op ++ [32, 123])
    else if k = 3 then [119, 104, 105, 108, 101, 32] ++ (opT op ++ [32, 123])
    else if k = 4 then [109, 97, 116, 99, 104, 32] ++ (plT p ++ [32, 123])
    else if k = 5 then [121, 105, 101, 108, 100, 32] ++ (opT op ++ [59])
    else if k = 6 then [114, 101, 116, 117, 114, 110, 32] ++ (opT op ++ [59])
    else if k = 7 then [112, 114, 105, 110, 116, 32] ++ (opT op ++ [59])
    else [100, 114, 111, 112, 32] ++ (plT p ++ [59])
/-- What follows it. -/
def stC2 (t : Nat) : St5 → List UInt8
  | .mk k _ _ _ _ _ _ _ th _ el _ ar =>
    if k = 2 then stsT (t + 1) th ++ ((if 0 < el.length then lnX t [125, 32, 101, 108, 115, 101, 32, 123] ++ stsT (t + 1) el else []) ++ lnX t [125])
    else if k = 3 then stsT (t + 1) th ++ lnX t [125]
    else if k = 4 then arsT (t + 1) ar ++ lnX t [125]
    else []
theorem eqL_nil2 {α : Type} (g : α → α → Bool) (l : List α) (h : eqL g l [] = true) : l = [] := List.eq_nil_of_length_eq_zero (eqL_length h)
theorem zeros {k pos : Int} {nm : ByteArray} {ty : Ty5} {p : Pl5} {rv : Rv5} {op : Op5} {ht : Hd} {th : List St5} {he : Hd} {el : List St5} {ha : Hd} {ar : List Ar5} (h : stEq (.mk k pos nm ty p rv op ht th he el ha ar) (stZ k) = true) :
    nm = ⟨#[]⟩ ∧ tyEq ty tyZ = true ∧ noPl p = true ∧ rvEq rv rvZ = true ∧ opEq op opZ = true ∧ th = [] ∧ el = [] ∧ ar = [] := by
  rw [stZ, stEq, stsEq_eq, stsEq_eq, arsEq_eq] at h
  simp only [Bool.and_eq_true, decide_eq_true_eq] at h
  obtain ⟨⟨⟨⟨⟨⟨⟨⟨-, h2⟩, h3⟩, h4⟩, h5⟩, h6⟩, h7⟩, h8⟩, h9⟩ := h
  exact ⟨h2, h3, h4, h5, h6, eqL_nil2 _ _ h7, eqL_nil2 _ _ h8, eqL_nil2 _ _ h9⟩
theorem rv_zero {a b : Rv5} (ha : rvEq a rvZ = true) (hb : rvEq b rvZ = true) : rvEq a b = true := by
  simp only [rvEq, rvZ, Bool.and_eq_true] at ha hb
  obtain ⟨⟨⟨⟨a1, a2⟩, a3⟩, a4⟩, a5⟩ := ha
  obtain ⟨⟨⟨⟨b1, b2⟩, b3⟩, b4⟩, b5⟩ := hb
  have e1 := of_decide_eq_true a1
  have e2 := of_decide_eq_true a2
  have e3 := of_decide_eq_true a3
  have f1 := of_decide_eq_true b1
  have f2 := of_decide_eq_true b2
  have f3 := of_decide_eq_true b3
  rw [rvEq, e1, e2, e3, f1, f2, f3, eqL_nil2 _ _ a5, eqL_nil2 _ _ b5, noPl_same (p := a.p) (q := b.p) a4 b4]
  simp [eqL]
theorem op_zero {a b : Op5} (ha : opEq a opZ = true) (hb : opEq b opZ = true) : opEq a b = true := by
  simp only [opEq, opZ, Bool.and_eq_true] at ha hb
  obtain ⟨⟨a1, a2⟩, a3⟩ := ha
  obtain ⟨⟨b1, b2⟩, b3⟩ := hb
  have e1 := of_decide_eq_true a1
  have e2 := of_decide_eq_true a2
  have f1 := of_decide_eq_true b1
  have f2 := of_decide_eq_true b2
  rw [opEq, e1, e2, f1, f2, noPl_same (p := a.p) (q := b.p) a3 b3]
  simp
theorem st_text (t : Nat) (s : St5) (d : Nat) (h : stOk d s = true) : stT t s = lnX t (stC1 s) ++ stC2 t s := by
  obtain ⟨k, pos, nm, ty, p, rv, op, ht, th, he, el, ha, ar⟩ := s
  rw [stOk] at h
  rw [stT, stC1, stC2]
  by_cases q0 : k = 0
  · subst q0
    rw [if_pos rfl, if_pos rfl, if_neg (by decide), if_neg (by decide), if_neg (by decide), lineT_X, List.append_nil]
    simp [bs, strB]
  rw [if_neg q0, if_neg q0]
  by_cases q1 : k = 1
  · subst q1
    rw [if_pos rfl, if_pos rfl, if_neg (by decide), if_neg (by decide), if_neg (by decide), lineT_X, List.append_nil]
    simp [bs, strB]
  rw [if_neg q1, if_neg q1]
  by_cases q2 : k = 2
  · subst q2
    rw [if_pos rfl, if_pos rfl, if_pos rfl, lineT_X, lineT_X, lineT_X]
    by_cases hel : 0 < el.length
    · rw [if_pos hel, if_pos hel]
      simp [bs, strB]
    · rw [if_neg hel, if_neg hel]
      simp [bs, strB]
  rw [if_neg q2, if_neg q2, if_neg q2]
  by_cases q3 : k = 3
  · subst q3
    rw [if_pos rfl, if_pos rfl, if_pos rfl, lineT_X, lineT_X]
    simp [bs, strB]
  rw [if_neg q3, if_neg q3, if_neg q3]
  by_cases q4 : k = 4
  · subst q4
    rw [if_pos rfl, if_pos rfl, if_pos rfl, lineT_X, lineT_X]
    simp [bs, strB]
  rw [if_neg q4, if_neg q4, if_neg q4, List.append_nil]
  by_cases q5 : k = 5
  · rw [if_pos q5, if_pos q5, lineT_X]
    simp [bs, strB]
  rw [if_neg q5, if_neg q5]
  by_cases q6 : k = 6
  · rw [if_pos q6, if_pos q6, lineT_X]
    simp [bs, strB]
  rw [if_neg q6, if_neg q6]
  by_cases q7 : k = 7
  · rw [if_pos q7, if_pos q7, lineT_X]
    simp [bs, strB]
  rw [if_neg q7, if_neg q7]
  by_cases q8 : k = 8
  · rw [if_pos q8, lineT_X]
    simp [bs, strB]
  rw [if_neg q0, if_neg q1, if_neg q2, if_neg q3, if_neg q4, if_neg (by simp [q5, q6, q7]), if_neg q8] at h
  cases h

inductive StW (d : Nat) (k : Int) (nm : ByteArray) (ty : Ty5) (p : Pl5) (rv : Rv5) (op : Op5) (th el : List St5) (ar : List Ar5) : Prop
  | lt (hk : k = 0) (h1 : smallN nm = true) (h2 : tyOk 60 ty = true) (h3 : rvOk rv = true) (h4 : noPl p = true) (h5 : opEq op opZ = true) (h6 : th = []) (h7 : el = []) (h8 : ar = []) : StW d k nm ty p rv op th el ar
  | set (hk : k = 1) (h1 : nm = ⟨#[]⟩) (h2 : tyEq ty tyZ = true) (h3 : rvOk rv = true) (h4 : plOk p = true) (h5 : opEq op opZ = true) (h6 : th = []) (h7 : el = []) (h8 : ar = []) : StW d k nm ty p rv op th el ar
  | ife (hk : k = 2) (h1 : nm = ⟨#[]⟩) (h2 : tyEq ty tyZ = true) (h3 : rvEq rv rvZ = true) (h4 : noPl p = true) (h5 : opOk op = true) (h6 : stsOk (d + 1) th = true) (h7 : stsOk (d + 1) el = true) (h8 : ar = []) : StW d k nm ty p rv op th el ar
  | whl (hk : k = 3) (h1 : nm = ⟨#[]⟩) (h2 : tyEq ty tyZ = true) (h3 : rvEq rv rvZ = true) (h4 : noPl p = true) (h5 : opOk op = true) (h6 : stsOk (d + 1) th = true) (h7 : el = []) (h8 : ar = []) : StW d k nm ty p rv op th el ar
  | mat (hk : k = 4) (h1 : nm = ⟨#[]⟩) (h2 : tyEq ty tyZ = true) (h3 : rvEq rv rvZ = true) (h4 : plOk p = true) (h5 : opEq op opZ = true) (h6 : th = []) (h7 : el = []) (h8 : armsOk (d + 1) ar = true) : StW d k nm ty p rv op th el ar
  | one (hk : (k = 5 ∨ k = 6 ∨ k = 7)) (h1 : nm = ⟨#[]⟩) (h2 : tyEq ty tyZ = true) (h3 : rvEq rv rvZ = true) (h4 : noPl p = true) (h5 : opOk op = true) (h6 : th = []) (h7 : el = []) (h8 : ar = []) : StW d k nm ty p rv op th el ar
  | drp (hk : k = 8) (h1 : nm = ⟨#[]⟩) (h2 : tyEq ty tyZ = true) (h3 : rvEq rv rvZ = true) (h4 : plOk p = true) (h5 : opEq op opZ = true) (h6 : th = []) (h7 : el = []) (h8 : ar = []) : StW d k nm ty p rv op th el ar
theorem stW_of {d : Nat} {k pos : Int} {nm : ByteArray} {ty : Ty5} {p : Pl5} {rv : Rv5} {op : Op5} {ht : Hd} {th : List St5} {he : Hd} {el : List St5} {ha : Hd} {ar : List Ar5} (h : stOk d (.mk k pos nm ty p rv op ht th he el ha ar) = true) : StW d k nm ty p rv op th el ar := by
  rw [stOk] at h
  by_cases q0 : k = 0
  · rw [if_pos q0] at h
    simp only [Bool.and_eq_true] at h
    obtain ⟨⟨⟨a1, a2⟩, a3⟩, z⟩ := h
    obtain ⟨-, -, z4, -, z6, z7, z8, z9⟩ := zeros z
    exact .lt q0 a1 a2 a3 z4 z6 z7 z8 z9
  rw [if_neg q0] at h
  by_cases q1 : k = 1
  · rw [if_pos q1] at h
    simp only [Bool.and_eq_true] at h
    obtain ⟨⟨a1, a2⟩, z⟩ := h
    obtain ⟨z2, z3, -, -, z6, z7, z8, z9⟩ := zeros z
    exact .set q1 z2 z3 a2 a1 z6 z7 z8 z9
  rw [if_neg q1] at h
  by_cases q2 : k = 2
  · rw [if_pos q2] at h
    simp only [Bool.and_eq_true] at h
    obtain ⟨⟨⟨a1, -, a2⟩, -, a3⟩, z⟩ := h
    obtain ⟨z2, z3, z4, z5, -, -, -, z9⟩ := zeros z
    exact .ife q2 z2 z3 z5 z4 a1 a2 a3 z9
  rw [if_neg q2] at h
  by_cases q3 : k = 3
  · rw [if_pos q3] at h
    simp only [Bool.and_eq_true] at h
    obtain ⟨⟨a1, -, a2⟩, z⟩ := h
    obtain ⟨z2, z3, z4, z5, -, -, z8, z9⟩ := zeros z
    exact .whl q3 z2 z3 z5 z4 a1 a2 z8 z9
  rw [if_neg q3] at h
  by_cases q4 : k = 4
  · rw [if_pos q4] at h
    simp only [Bool.and_eq_true] at h
    obtain ⟨⟨a1, a2⟩, z⟩ := h
    obtain ⟨z2, z3, -, z5, z6, z7, z8, -⟩ := zeros z
    exact .mat q4 z2 z3 z5 (alone_plOk a1) z6 z7 z8 a2
  rw [if_neg q4] at h
  by_cases q5 : k = 5 ∨ k = 6 ∨ k = 7
  · rw [if_pos q5] at h
    simp only [Bool.and_eq_true] at h
    obtain ⟨a1, z⟩ := h
    obtain ⟨z2, z3, z4, z5, -, z7, z8, z9⟩ := zeros z
    exact .one q5 z2 z3 z5 z4 a1 z7 z8 z9
  rw [if_neg q5] at h
  by_cases q8 : k = 8
  · rw [if_pos q8] at h
    simp only [Bool.and_eq_true] at h
    obtain ⟨a1, z⟩ := h
    obtain ⟨z2, z3, -, z5, z6, z7, z8, z9⟩ := zeros z
    exact .drp q8 z2 z3 z5 (alone_plOk a1) z6 z7 z8 z9
  rw [if_neg q8] at h
  cases h
def c1 (k : Int) (nm : ByteArray) (ty : Ty5) (p : Pl5) (rv : Rv5) (op : Op5) : List UInt8 := stC1 (.mk k 0 nm ty p rv op z0 [] z0 [] z0 [])
theorem c1_eq (k pos : Int) (nm : ByteArray) (ty : Ty5) (p : Pl5) (rv : Rv5) (op : Op5) (ht : Hd) (th : List St5) (he : Hd) (el : List St5) (ha : Hd) (ar : List Ar5) : stC1 (.mk k pos nm ty p rv op ht th he el ha ar) = c1 k nm ty p rv op := by
  rw [c1, stC1, stC1]
theorem t0 (nm : ByteArray) (ty : Ty5) (p : Pl5) (rv : Rv5) (op : Op5) : c1 0 nm ty p rv op = [108, 101, 116] ++ 32 :: (bs nm ++ 58 :: 32 :: (tyT ty ++ [32] ++ 61 :: 32 :: (setT rv ++ [59]))) := rfl
theorem t1 (nm : ByteArray) (ty : Ty5) (p : Pl5) (rv : Rv5) (op : Op5) : c1 1 nm ty p rv op = plT p ++ 32 :: 61 :: 32 :: (setT rv ++ [59]) := rfl
theorem t2 (nm : ByteArray) (ty : Ty5) (p : Pl5) (rv : Rv5) (op : Op5) : c1 2 nm ty p rv op = [105, 102] ++ 32 :: (opT op ++ [32, 123]) := rfl
theorem t3 (nm : ByteArray) (ty : Ty5) (p : Pl5) (rv : Rv5) (op : Op5) : c1 3 nm ty p rv op = [119, 104, 105, 108, 101] ++ 32 :: (opT op ++ [32, 123]) := rfl
theorem t4 (nm : ByteArray) (ty : Ty5) (p : Pl5) (rv : Rv5) (op : Op5) : c1 4 nm ty p rv op = [109, 97, 116, 99, 104] ++ 32 :: (plT p ++ [32, 123]) := rfl
theorem t5 (nm : ByteArray) (ty : Ty5) (p : Pl5) (rv : Rv5) (op : Op5) : c1 5 nm ty p rv op = [121, 105, 101, 108, 100] ++ 32 :: (opT op ++ [59]) := rfl
theorem t6 (nm : ByteArray) (ty : Ty5) (p : Pl5) (rv : Rv5) (op : Op5) : c1 6 nm ty p rv op = [114, 101, 116, 117, 114, 110] ++ 32 :: (opT op ++ [59]) := rfl
theorem t7 (nm : ByteArray) (ty : Ty5) (p : Pl5) (rv : Rv5) (op : Op5) : c1 7 nm ty p rv op = [112, 114, 105, 110, 116] ++ 32 :: (opT op ++ [59]) := rfl
theorem t8 (nm : ByteArray) (ty : Ty5) (p : Pl5) (rv : Rv5) (op : Op5) : c1 8 nm ty p rv op = [100, 114, 111, 112] ++ 32 :: (plT p ++ [59]) := rfl

theorem stK_c1 {d : Nat} {k : Int} {nm : ByteArray} {ty : Ty5} {p : Pl5} {rv : Rv5} {op : Op5} {th el : List St5} {ar : List Ar5} (h : StW d k nm ty p rv op th el ar) : stK (c1 k nm ty p rv op) = k := by
  cases h with
  | lt hk => subst hk; rw [t0, stK_word rfl (no_lit rfl), if_pos rfl]
  | set hk h1 h2 h3 h4 =>
    subst hk
    rw [t1, stK_word rfl (pl_no h4 (d := 32) rfl (by decide) (by decide)), if_neg (pl_res h4 (by decide) (no_lit rfl)), if_neg (pl_res h4 (by decide) (no_lit rfl)), if_neg (pl_res h4 (by decide) (no_lit rfl)), if_neg (pl_res h4 (by decide) (no_lit rfl)), if_neg (pl_res h4 (by decide) (no_lit rfl)), if_neg (pl_res h4 (by decide) (no_lit rfl)), if_neg (pl_res h4 (by decide) (no_lit rfl)), if_neg (pl_res h4 (by decide) (no_lit rfl))]
  | ife hk => subst hk; rw [t2, stK_word rfl (no_lit rfl), if_neg (by decide), if_pos rfl]
  | whl hk => subst hk; rw [t3, stK_word rfl (no_lit rfl), if_neg (by decide), if_neg (by decide), if_pos rfl]
  | mat hk => subst hk; rw [t4, stK_word rfl (no_lit rfl), if_neg (by decide), if_neg (by decide), if_neg (by decide), if_pos rfl]
  | one hk =>
    rcases hk with hk | hk | hk
    · subst hk; rw [t5, stK_word rfl (no_lit rfl), if_neg (by decide), if_neg (by decide), if_neg (by decide), if_neg (by decide), if_pos rfl]
    · subst hk; rw [t6, stK_word rfl (no_lit rfl), if_neg (by decide), if_neg (by decide), if_neg (by decide), if_neg (by decide), if_neg (by decide), if_pos rfl]
    · subst hk; rw [t7, stK_word rfl (no_lit rfl), if_neg (by decide), if_neg (by decide), if_neg (by decide), if_neg (by decide), if_neg (by decide), if_neg (by decide), if_pos rfl]
  | drp hk => subst hk; rw [t8, stK_word rfl (no_lit rfl), if_neg (by decide), if_neg (by decide), if_neg (by decide), if_neg (by decide), if_neg (by decide), if_neg (by decide), if_neg (by decide), if_pos rfl]
theorem c1_good {d : Nat} {k : Int} {nm : ByteArray} {ty : Ty5} {p : Pl5} {rv : Rv5} {op : Op5} {th el : List St5} {ar : List Ar5} (h : StW d k nm ty p rv op th el ar) : good (c1 k nm ty p rv op) := by
  cases h with
  | lt hk h1 h2 h3 =>
    subst hk
    rw [t0]
    exact ⟨nl0_app (lit_nl rfl) (nl0_app (lit_nl (l := [32]) rfl) (nl0_app (small_nl h1) (nl0_app (lit_nl (l := [58, 32]) rfl) (nl0_app (nl0_app (ty_nl ty 60 h2) (lit_nl rfl)) (nl0_app (lit_nl (l := [61, 32]) rfl) (nl0_app (set_nl h3) (lit_nl rfl))))))), _, _, rfl, by decide⟩
  | set hk h1 h2 h3 h4 =>
    subst hk
    rw [t1]
    obtain ⟨c, r, e, c1, c2⟩ := pl_head h4
    refine ⟨nl0_app (pl_nl h4) (nl0_app (lit_nl (l := [32, 61, 32]) rfl) (nl0_app (set_nl h3) (lit_nl rfl))), c, _, by rw [e]; rfl, fun q => by subst q; revert c1; decide⟩
  | ife hk h1 h2 h3 h4 h5 => subst hk; rw [t2]; exact ⟨nl0_app (lit_nl rfl) (nl0_app (lit_nl (l := [32]) rfl) (nl0_app (op_nl h5) (lit_nl rfl))), _, _, rfl, by decide⟩
  | whl hk h1 h2 h3 h4 h5 => subst hk; rw [t3]; exact ⟨nl0_app (lit_nl rfl) (nl0_app (lit_nl (l := [32]) rfl) (nl0_app (op_nl h5) (lit_nl rfl))), _, _, rfl, by decide⟩
  | mat hk h1 h2 h3 h4 => subst hk; rw [t4]; exact ⟨nl0_app (lit_nl rfl) (nl0_app (lit_nl (l := [32]) rfl) (nl0_app (pl_nl h4) (lit_nl rfl))), _, _, rfl, by decide⟩
  | one hk h1 h2 h3 h4 h5 =>
    rcases hk with hk | hk | hk
    · subst hk; rw [t5]; exact ⟨nl0_app (lit_nl rfl) (nl0_app (lit_nl (l := [32]) rfl) (nl0_app (op_nl h5) (lit_nl rfl))), _, _, rfl, by decide⟩
    · subst hk; rw [t6]; exact ⟨nl0_app (lit_nl rfl) (nl0_app (lit_nl (l := [32]) rfl) (nl0_app (op_nl h5) (lit_nl rfl))), _, _, rfl, by decide⟩
    · subst hk; rw [t7]; exact ⟨nl0_app (lit_nl rfl) (nl0_app (lit_nl (l := [32]) rfl) (nl0_app (op_nl h5) (lit_nl rfl))), _, _, rfl, by decide⟩
  | drp hk h1 h2 h3 h4 => subst hk; rw [t8]; exact ⟨nl0_app (lit_nl rfl) (nl0_app (lit_nl (l := [32]) rfl) (nl0_app (pl_nl h4) (lit_nl rfl))), _, _, rfl, by decide⟩
theorem mid_inj {w a b s : List UInt8} (h : w ++ 32 :: (a ++ s) = w ++ 32 :: (b ++ s)) : a = b :=
  List.append_cancel_right (List.cons.inj (List.append_cancel_left h)).2

theorem c1_inj {d d' : Nat} {k k' : Int} {nm nm' : ByteArray} {ty ty' : Ty5} {p p' : Pl5} {rv rv' : Rv5} {op op' : Op5} {th th' el el' : List St5} {ar ar' : List Ar5} (w : StW d k nm ty p rv op th el ar) (w' : StW d' k' nm' ty' p' rv' op' th' el' ar') (e : c1 k nm ty p rv op = c1 k' nm' ty' p' rv' op') :
    k = k' ∧ nm = nm' ∧ tyEq ty ty' = true ∧ plEq p p' = true ∧ rvEq rv rv' = true ∧ opEq op op' = true := by
  have ek : k = k' := by rw [← stK_c1 w, ← stK_c1 w', e]
  refine ⟨ek, ?_⟩
  subst ek
  cases w with
  | lt hk h1 h2 h3 h4 h5 =>
    cases w' with
    | lt hk' g1 g2 g3 g4 g5 =>
      subst hk
      rw [t0, t0] at e
      have e1 := (List.cons.inj (List.append_cancel_left e)).2
      obtain ⟨e2, e3⟩ := split_at (small_no h1 (d := 58) rfl) (small_no g1 (d := 58) rfl) e1
      have e4 := (List.cons.inj e3).2
      obtain ⟨e5, e6⟩ := split_at (no_app (ty_no (tyW_of _ _ h2) (d := 61) rfl (by decide) (by decide)) (no_lit rfl)) (no_app (ty_no (tyW_of _ _ g2) (d := 61) rfl (by decide) (by decide)) (no_lit rfl)) e4
      have e7 := List.append_cancel_right (List.cons.inj e6).2
      exact ⟨bs_inj e2, tyT_inj (tyW_of _ _ h2) (tyW_of _ _ g2) (List.append_cancel_right e5), noPl_same h4 g4, setT_inj (setW_of _ h3) (setW_of _ g3) e7, op_zero h5 g5⟩
    | _ => exfalso; omega
  | set hk h1 h2 h3 h4 h5 =>
    cases w' with
    | set hk' g1 g2 g3 g4 g5 =>
      subst hk
      rw [t1, t1] at e
      obtain ⟨e2, e3⟩ := split_at (pl_no h4 (d := 32) rfl (by decide) (by decide)) (pl_no g4 (d := 32) rfl (by decide) (by decide)) e
      have e7 := List.append_cancel_right (List.cons.inj (List.cons.inj e3).2).2
      exact ⟨h1.trans g1.symm, unit_same h2 g2, plT_inj h4 g4 e2, setT_inj (setW_of _ h3) (setW_of _ g3) e7, op_zero h5 g5⟩
    | _ => exfalso; omega
  | ife hk h1 h2 h3 h4 h5 =>
    cases w' with
    | ife hk' g1 g2 g3 g4 g5 =>
      subst hk
      rw [t2, t2] at e
      exact ⟨h1.trans g1.symm, unit_same h2 g2, noPl_same h4 g4, rv_zero h3 g3, opT_inj h5 g5 (mid_inj e)⟩
    | _ => exfalso; omega
  | whl hk h1 h2 h3 h4 h5 =>
    cases w' with
    | whl hk' g1 g2 g3 g4 g5 =>
      subst hk
      rw [t3, t3] at e
      exact ⟨h1.trans g1.symm, unit_same h2 g2, noPl_same h4 g4, rv_zero h3 g3, opT_inj h5 g5 (mid_inj e)⟩
    | _ => exfalso; omega
  | mat hk h1 h2 h3 h4 h5 =>
    cases w' with
    | mat hk' g1 g2 g3 g4 g5 =>
      subst hk
      rw [t4, t4] at e
      exact ⟨h1.trans g1.symm, unit_same h2 g2, plT_inj h4 g4 (mid_inj e), rv_zero h3 g3, op_zero h5 g5⟩
    | _ => exfalso; omega
  | one hk h1 h2 h3 h4 h5 =>
    cases w' with
    | one hk' g1 g2 g3 g4 g5 =>
      rcases hk with hk | hk | hk
      · subst hk
        rw [t5, t5] at e
        exact ⟨h1.trans g1.symm, unit_same h2 g2, noPl_same h4 g4, rv_zero h3 g3, opT_inj h5 g5 (mid_inj e)⟩
      · subst hk
        rw [t6, t6] at e
        exact ⟨h1.trans g1.symm, unit_same h2 g2, noPl_same h4 g4, rv_zero h3 g3, opT_inj h5 g5 (mid_inj e)⟩
      · subst hk
        rw [t7, t7] at e
        exact ⟨h1.trans g1.symm, unit_same h2 g2, noPl_same h4 g4, rv_zero h3 g3, opT_inj h5 g5 (mid_inj e)⟩
    | _ => exfalso; omega
  | drp hk h1 h2 h3 h4 h5 =>
    cases w' with
    | drp hk' g1 g2 g3 g4 g5 =>
      subst hk
      rw [t8, t8] at e
      exact ⟨h1.trans g1.symm, unit_same h2 g2, plT_inj h4 g4 (mid_inj e), rv_zero h3 g3, op_zero h5 g5⟩
    | _ => exfalso; omega

theorem good_cb : good [125] := good_lit rfl ⟨_, _, rfl, by decide⟩
theorem good_el : good [125, 32, 101, 108, 115, 101, 32, 123] := good_lit rfl ⟨_, _, rfl, by decide⟩
theorem cl_cb (t : Nat) (r : List UInt8) : Cl (t + 1) (lnX t [125] ++ r) := cl_ln (Nat.lt_succ_self t) good_cb
/-- What follows the first row of an if. -/
def elT (t : Nat) (el : List St5) (r : List UInt8) : List UInt8 := if 0 < el.length then lnX t [125, 32, 101, 108, 115, 101, 32, 123] ++ (stsT (t + 1) el ++ (lnX t [125] ++ r)) else lnX t [125] ++ r
theorem cl_el (t : Nat) (el : List St5) (r : List UInt8) : Cl (t + 1) (elT t el r) := by
  rw [elT]
  split
  · exact cl_ln (Nat.lt_succ_self t) good_el
  · exact cl_cb t r
theorem if_text (t : Nat) (th el : List St5) (r : List UInt8) : (stsT (t + 1) th ++ ((if 0 < el.length then lnX t [125, 32, 101, 108, 115, 101, 32, 123] ++ stsT (t + 1) el else []) ++ lnX t [125])) ++ r = stsT (t + 1) th ++ elT t el r := by
  rw [elT]
  split
  · simp only [List.append_assoc]
  · simp only [List.append_assoc, List.nil_append]
theorem el_if {t : Nat} {a b : List UInt8} (h : lnX t [125, 32, 101, 108, 115, 101, 32, 123] ++ a = lnX t [125] ++ b) : False := by
  have := (ln_inj good_el good_cb h).2.1
  cases this
/-- The first line of a case of a match. -/
def arLn : Ar5 → List UInt8
  | .mk vr bi _ _ => (bs vr ++ boundT bi) ++ 32 :: [61, 62, 32, 123]
theorem arT_Ln (t : Nat) (vr bi : ByteArray) (h : Hd) (body : List St5) : arT t (.mk vr bi h body) = lnX t (arLn (.mk vr bi h body)) ++ (stsT (t + 1) body ++ lnX t [125]) := by
  rw [arT, arLn, lineT_X, lineT_X]
  simp [bs, strB]
theorem bound_no {d : UInt8} {bi : ByteArray} (h : (emptyN bi || smallN bi) = true) (hd : nameB d = false) (h1 : d ≠ 40) (h2 : d ≠ 41) : no d (boundT bi) := by
  rw [boundT]
  split
  · exact no_lit rfl
  · rename_i q
    have hs : smallN bi = true := by
      cases hb : emptyN bi with
      | true => exact absurd hb q
      | false => rw [hb] at h; exact h
    exact no_app (no_app (fun x hx e => by subst e; cases hx with
      | head => exact h1 rfl
      | tail _ q => cases q) (small_no hs hd)) (fun x hx e => by subst e; cases hx with
      | head => exact h2 rfl
      | tail _ q => cases q)
theorem bound_inj {a b : ByteArray} (h : boundT a = boundT b) : a = b := by
  have e0 : ∀ {x : ByteArray}, emptyN x = true → x = ⟨#[]⟩ := fun hx => by simpa [emptyN] using hx
  rw [boundT, boundT] at h
  cases ha : emptyN a with
  | true =>
    cases hb : emptyN b with
    | true => rw [e0 ha, e0 hb]
    | false =>
      rw [ha, hb, if_pos rfl, if_neg (by decide)] at h
      cases h
  | false =>
    cases hb : emptyN b with
    | true =>
      rw [ha, hb, if_pos rfl, if_neg (by decide)] at h
      cases h
    | false =>
      rw [ha, hb, if_neg (by decide), if_neg (by decide)] at h
      exact bs_inj (List.append_cancel_left (List.append_cancel_right h))
theorem bound_rest (bi : ByteArray) : rest 40 (boundT bi) := by
  rw [boundT]
  split
  · exact .inl rfl
  · exact .inr ⟨_, rfl⟩
theorem arLn_good {d : Nat} {vr bi : ByteArray} {hh : Hd} {body : List St5} (h : arOk d (.mk vr bi hh body) = true) : good (arLn (.mk vr bi hh body)) := by
  rw [arOk] at h
  simp only [Bool.and_eq_true] at h
  obtain ⟨⟨h1, h2⟩, -⟩ := h
  rw [arLn]
  obtain ⟨c, r, e, c1, c2⟩ := great_head h1
  refine ⟨nl0_app (nl0_app (great_nl h1) (bound_no h2 rfl (by decide) (by decide))) (lit_nl (l := 32 :: [61, 62, 32, 123]) rfl), c, _, by rw [e]; rfl, fun q => by subst q; revert c1; decide⟩
theorem arLn_inj {d d' : Nat} {vr bi vr' bi' : ByteArray} {hh hh' : Hd} {body body' : List St5} (h : arOk d (.mk vr bi hh body) = true) (h' : arOk d' (.mk vr' bi' hh' body') = true) (e : arLn (.mk vr bi hh body) = arLn (.mk vr' bi' hh' body')) : vr = vr' ∧ bi = bi' := by
  rw [arOk] at h h'
  simp only [Bool.and_eq_true] at h h'
  rw [arLn, arLn] at e
  obtain ⟨e1, -⟩ := split_at (no_app (great_no h.1.1 (d := 32) rfl) (bound_no h.1.2 (d := 32) rfl (by decide) (by decide))) (no_app (great_no h'.1.1 (d := 32) rfl) (bound_no h'.1.2 (d := 32) rfl (by decide) (by decide))) e
  obtain ⟨e2, e3⟩ := split_rest (great_no h.1.1 (d := 40) rfl) (great_no h'.1.1 (d := 40) rfl) (bound_rest bi) (bound_rest bi') e1
  exact ⟨bs_inj e2, bound_inj e3⟩
theorem st_line (t : Nat) (s : St5) (d : Nat) (h : stOk d s = true) : ∃ c r, good c ∧ stT t s = lnX t c ++ r := by
  have e := st_text t s d h
  obtain ⟨k, pos, nm, ty, p, rv, op, ht, th, he, el, ha, ar⟩ := s
  rw [c1_eq] at e
  exact ⟨_, _, c1_good (stW_of h), e⟩
theorem ar_line (t : Nat) (s : Ar5) (d : Nat) (h : arOk d s = true) : ∃ c r, good c ∧ arT t s = lnX t c ++ r := by
  obtain ⟨vr, bi, hh, body⟩ := s
  exact ⟨_, _, arLn_good h, arT_Ln t vr bi hh body⟩
mutual
theorem st_dec : ∀ (s s' : St5) (d d' t : Nat) (r r' : List UInt8), stOk d s = true → stOk d' s' = true → stT t s ++ r = stT t s' ++ r' → stEq s s' = true ∧ r = r'
  | .mk k pos nm ty p rv op ht th he el ha ar, .mk k' pos' nm' ty' p' rv' op' ht' th' he' el' ha' ar', d, d', t, r, r', h, h', e => by
    have w := stW_of h
    have w' := stW_of h'
    rw [st_text t _ d h, st_text t _ d' h', List.append_assoc, List.append_assoc, c1_eq, c1_eq] at e
    obtain ⟨-, e1, e2⟩ := ln_inj (c1_good w) (c1_good w') e
    obtain ⟨i1, i2, i3, i4, i5, i6⟩ := c1_inj w w' e1
    have fin : stsEq th th' = true → stsEq el el' = true → arsEq ar ar' = true → stEq (.mk k pos nm ty p rv op ht th he el ha ar) (.mk k' pos' nm' ty' p' rv' op' ht' th' he' el' ha' ar') = true := fun a b c => by
      rw [stEq, a, b, c, i3, i4, i5, i6, i1, i2]
      simp
    have nilS : ∀ {a b : List St5}, a = [] → b = [] → stsEq a b = true := fun ha hb => by rw [ha, hb, stsEq]
    have nilA : ∀ {a b : List Ar5}, a = [] → b = [] → arsEq a b = true := fun ha hb => by rw [ha, hb, arsEq]
    rw [stC2, stC2, ← i1] at e2
    cases w with
    | ife hk h1 h2 h3 h4 h5 h6 h7 h8 =>
      cases w' with
      | ife hk' g1 g2 g3 g4 g5 g6 g7 g8 =>
        rw [if_pos hk, if_pos hk, if_text, if_text] at e2
        obtain ⟨j1, j2⟩ := sts_dec th th' (d + 1) (d' + 1) (t + 1) _ _ h6 g6 (cl_el t el r) (cl_el t el' r') e2
        rw [elT, elT] at j2
        by_cases q : 0 < el.length
        · by_cases q' : 0 < el'.length
          · rw [if_pos q, if_pos q'] at j2
            obtain ⟨j3, j4⟩ := sts_dec el el' (d + 1) (d' + 1) (t + 1) _ _ h7 g7 (cl_cb t r) (cl_cb t r') (List.append_cancel_left j2)
            exact ⟨fin j1 j3 (nilA h8 g8), List.append_cancel_left j4⟩
          · rw [if_pos q, if_neg q'] at j2
            exact (el_if j2).elim
        · by_cases q' : 0 < el'.length
          · rw [if_neg q, if_pos q'] at j2
            exact (el_if j2.symm).elim
          · rw [if_neg q, if_neg q'] at j2
            exact ⟨fin j1 (nilS (List.eq_nil_of_length_eq_zero (by omega)) (List.eq_nil_of_length_eq_zero (by omega))) (nilA h8 g8), List.append_cancel_left j2⟩
      | _ => exfalso; omega
    | whl hk h1 h2 h3 h4 h5 h6 h7 h8 =>
      cases w' with
      | whl hk' g1 g2 g3 g4 g5 g6 g7 g8 =>
        rw [if_neg (show ¬ k = 2 by omega), if_neg (show ¬ k = 2 by omega), if_pos hk, if_pos hk, List.append_assoc, List.append_assoc] at e2
        obtain ⟨j1, j2⟩ := sts_dec th th' (d + 1) (d' + 1) (t + 1) _ _ h6 g6 (cl_cb t r) (cl_cb t r') e2
        exact ⟨fin j1 (nilS h7 g7) (nilA h8 g8), List.append_cancel_left j2⟩
      | _ => exfalso; omega
    | mat hk h1 h2 h3 h4 h5 h6 h7 h8 =>
      cases w' with
      | mat hk' g1 g2 g3 g4 g5 g6 g7 g8 =>
        rw [if_neg (show ¬ k = 2 by omega), if_neg (show ¬ k = 2 by omega), if_neg (show ¬ k = 3 by omega), if_neg (show ¬ k = 3 by omega), if_pos hk, if_pos hk, List.append_assoc, List.append_assoc] at e2
        obtain ⟨j1, j2⟩ := ars_dec ar ar' (d + 1) (d' + 1) (t + 1) _ _ h8 g8 (cl_cb t r) (cl_cb t r') e2
        exact ⟨fin (nilS h6 g6) (nilS h7 g7) j1, List.append_cancel_left j2⟩
      | _ => exfalso; omega
    | lt hk h1 h2 h3 h4 h5 h6 h7 h8 =>
      cases w' with
      | lt hk' g1 g2 g3 g4 g5 g6 g7 g8 =>
        rw [if_neg (show ¬ k = 2 by omega), if_neg (show ¬ k = 2 by omega), if_neg (show ¬ k = 3 by omega), if_neg (show ¬ k = 3 by omega), if_neg (show ¬ k = 4 by omega), if_neg (show ¬ k = 4 by omega)] at e2
        exact ⟨fin (nilS h6 g6) (nilS h7 g7) (nilA h8 g8), e2⟩
      | _ => exfalso; omega
    | set hk h1 h2 h3 h4 h5 h6 h7 h8 =>
      cases w' with
      | set hk' g1 g2 g3 g4 g5 g6 g7 g8 =>
        rw [if_neg (show ¬ k = 2 by omega), if_neg (show ¬ k = 2 by omega), if_neg (show ¬ k = 3 by omega), if_neg (show ¬ k = 3 by omega), if_neg (show ¬ k = 4 by omega), if_neg (show ¬ k = 4 by omega)] at e2
        exact ⟨fin (nilS h6 g6) (nilS h7 g7) (nilA h8 g8), e2⟩
      | _ => exfalso; omega
    | one hk h1 h2 h3 h4 h5 h6 h7 h8 =>
      cases w' with
      | one hk' g1 g2 g3 g4 g5 g6 g7 g8 =>
        rw [if_neg (show ¬ k = 2 by omega), if_neg (show ¬ k = 2 by omega), if_neg (show ¬ k = 3 by omega), if_neg (show ¬ k = 3 by omega), if_neg (show ¬ k = 4 by omega), if_neg (show ¬ k = 4 by omega)] at e2
        exact ⟨fin (nilS h6 g6) (nilS h7 g7) (nilA h8 g8), e2⟩
      | _ => exfalso; omega
    | drp hk h1 h2 h3 h4 h5 h6 h7 h8 =>
      cases w' with
      | drp hk' g1 g2 g3 g4 g5 g6 g7 g8 =>
        rw [if_neg (show ¬ k = 2 by omega), if_neg (show ¬ k = 2 by omega), if_neg (show ¬ k = 3 by omega), if_neg (show ¬ k = 3 by omega), if_neg (show ¬ k = 4 by omega), if_neg (show ¬ k = 4 by omega)] at e2
        exact ⟨fin (nilS h6 g6) (nilS h7 g7) (nilA h8 g8), e2⟩
      | _ => exfalso; omega
theorem sts_dec : ∀ (l m : List St5) (d d' t : Nat) (r r' : List UInt8), stsOk d l = true → stsOk d' m = true → Cl t r → Cl t r' → stsT t l ++ r = stsT t m ++ r' → stsEq l m = true ∧ r = r'
  | [], [], _, _, t, r, r', _, _, _, _, e => by
    rw [stsT] at e
    exact ⟨by rw [stsEq], e⟩
  | [], s :: m, d, d', t, r, r', h, h', hc, hc', e => by
    rw [stsOk, Bool.and_eq_true] at h'
    rw [stsT, stsT, List.append_assoc, List.nil_append] at e
    obtain ⟨u, c, q, rfl, hu, hg⟩ := hc
    obtain ⟨c2, r2, hg2, e2⟩ := st_line t s d' h'.1
    rw [e2, List.append_assoc] at e
    have := (ln_inj hg hg2 e).1
    omega
  | s :: l, [], d, d', t, r, r', h, h', hc, hc', e => by
    rw [stsOk, Bool.and_eq_true] at h
    rw [stsT, stsT, List.append_assoc, List.nil_append] at e
    obtain ⟨u, c, q, rfl, hu, hg⟩ := hc'
    obtain ⟨c2, r2, hg2, e2⟩ := st_line t s d h.1
    rw [e2, List.append_assoc] at e
    have := (ln_inj hg2 hg e).1
    omega
  | s :: l, s' :: m, d, d', t, r, r', h, h', hc, hc', e => by
    rw [stsOk, Bool.and_eq_true] at h h'
    rw [stsT, stsT, List.append_assoc, List.append_assoc] at e
    obtain ⟨j1, j2⟩ := st_dec s s' d d' t _ _ h.1 h'.1 e
    obtain ⟨j3, j4⟩ := sts_dec l m d d' t r r' h.2 h'.2 hc hc' j2
    exact ⟨by rw [stsEq, j1, j3]; rfl, j4⟩
theorem ar_dec : ∀ (s s' : Ar5) (d d' t : Nat) (r r' : List UInt8), arOk d s = true → arOk d' s' = true → arT t s ++ r = arT t s' ++ r' → arEq s s' = true ∧ r = r'
  | .mk vr bi hh body, .mk vr' bi' hh' body', d, d', t, r, r', h, h', e => by
    rw [arT_Ln, arT_Ln, List.append_assoc, List.append_assoc, List.append_assoc, List.append_assoc] at e
    obtain ⟨-, e1, e2⟩ := ln_inj (arLn_good h) (arLn_good h') e
    obtain ⟨i1, i2⟩ := arLn_inj h h' e1
    rw [arOk] at h h'
    simp only [Bool.and_eq_true] at h h'
    obtain ⟨j1, j2⟩ := sts_dec body body' d d' (t + 1) _ _ h.2.2 h'.2.2 (cl_cb t r) (cl_cb t r') e2
    exact ⟨by rw [arEq, j1, i1, i2]; simp, List.append_cancel_left j2⟩
theorem ars_dec : ∀ (l m : List Ar5) (d d' t : Nat) (r r' : List UInt8), armsOk d l = true → armsOk d' m = true → Cl t r → Cl t r' → arsT t l ++ r = arsT t m ++ r' → arsEq l m = true ∧ r = r'
  | [], [], _, _, t, r, r', _, _, _, _, e => by
    rw [arsT] at e
    exact ⟨by rw [arsEq], e⟩
  | [], s :: m, d, d', t, r, r', h, h', hc, hc', e => by
    rw [armsOk, Bool.and_eq_true] at h'
    rw [arsT, arsT, List.append_assoc, List.nil_append] at e
    obtain ⟨u, c, q, rfl, hu, hg⟩ := hc
    obtain ⟨c2, r2, hg2, e2⟩ := ar_line t s d' h'.1
    rw [e2, List.append_assoc] at e
    have := (ln_inj hg hg2 e).1
    omega
  | s :: l, [], d, d', t, r, r', h, h', hc, hc', e => by
    rw [armsOk, Bool.and_eq_true] at h
    rw [arsT, arsT, List.append_assoc, List.nil_append] at e
    obtain ⟨u, c, q, rfl, hu, hg⟩ := hc'
    obtain ⟨c2, r2, hg2, e2⟩ := ar_line t s d h.1
    rw [e2, List.append_assoc] at e
    have := (ln_inj hg2 hg e).1
    omega
  | s :: l, s' :: m, d, d', t, r, r', h, h', hc, hc', e => by
    rw [armsOk, Bool.and_eq_true] at h h'
    rw [arsT, arsT, List.append_assoc, List.append_assoc] at e
    obtain ⟨j1, j2⟩ := ar_dec s s' d d' t _ _ h.1 h'.1 e
    obtain ⟨j3, j4⟩ := ars_dec l m d d' t r r' h.2 h'.2 hc hc' j2
    exact ⟨by rw [arsEq, j1, j3]; rfl, j4⟩
end

def fnLn (f : Fn5) : List UInt8 := [99, 111, 32] ++ (bs f.nm ++ 40 :: (listT fieldT f.params ++ [41, 32, 123]))
theorem fnT_Ln (f : Fn5) : fnT stT parT f = lnX 0 (fnLn f) ++ (stsT 1 f.body ++ lnX 0 [125]) := by
  rw [fnT, fnLn, lineT_X, lineT_X, ← stsT_eq, parT]
  simp [bs, strB]
theorem fn_pars {f : Fn5} (h : fnOk f = true) : smallN f.nm = true ∧ f.params.all fdOk = true ∧ stsOk 1 f.body = true := by
  rw [fnOk, ← rowOk_eq] at h
  simp only [Bool.and_eq_true] at h
  exact ⟨h.1.1, h.1.2, h.2.2⟩
theorem fnLn_good {f : Fn5} (h : fnOk f = true) : good (fnLn f) := by
  obtain ⟨h1, h2, -⟩ := fn_pars h
  rw [fnLn]
  exact ⟨nl0_app (lit_nl rfl) (nl0_app (small_nl h1) (nl0_app (lit_nl (l := [40]) rfl) (nl0_app (list_no (by decide) (by decide) fun x hx => field_no (List.all_eq_true.1 h2 x hx) (d := 10) rfl (by decide) (by decide) (by decide)) (lit_nl rfl)))), _, _, rfl, by decide⟩
theorem fn_dec {f g : Fn5} {r r' : List UInt8} (h : fnOk f = true) (h' : fnOk g = true) (e : fnT stT parT f ++ r = fnT stT parT g ++ r') : fnEq f g = true ∧ r = r' := by
  rw [fnT_Ln, fnT_Ln, List.append_assoc, List.append_assoc, List.append_assoc, List.append_assoc] at e
  obtain ⟨-, e1, e2⟩ := ln_inj (fnLn_good h) (fnLn_good h') e
  obtain ⟨h1, h2, h3⟩ := fn_pars h
  obtain ⟨g1, g2, g3⟩ := fn_pars h'
  rw [fnLn, fnLn] at e1
  obtain ⟨e3, e4⟩ := split_at (small_no h1 (d := 40) rfl) (small_no g1 (d := 40) rfl) (List.append_cancel_left e1)
  have e5 := list_inj (fun x hx => field_no hx rfl (by decide) (by decide) (by decide)) (fun x _ => field_ne) (fun x y hx hy => fieldT_inj hx hy) h2 g2 (List.append_cancel_right e4)
  obtain ⟨j1, j2⟩ := sts_dec f.body g.body 1 1 1 _ _ h3 g3 (cl_cb 0 r) (cl_cb 0 r') e2
  rw [stsEq_eq] at j1
  exact ⟨by rw [fnEq, j1, e5, bs_inj e3]; simp, List.append_cancel_left j2⟩
theorem su_dec {f g : Su5} {r r' : List UInt8} (h : suOk f = true) (h' : suOk g = true) (e : structT f ++ r = structT g ++ r') : suEq f g = true ∧ r = r' := by
  have n : ∀ {f : Su5}, suOk f = true → no 10 (structC f) := fun h => by
    rw [suOk, Bool.and_eq_true] at h
    rw [structC]
    refine no_app (by split <;> exact no_lit rfl) (no_app (great_no h.1 rfl) ?_)
    rw [bracesT]
    split
    · exact no_lit rfl
    · exact no_app (no_app (no_lit rfl) (list_no (by decide) (by decide) fun x hx => field_no (List.all_eq_true.1 h.2 x hx) (d := 10) rfl (by decide) (by decide) (by decide))) (no_lit rfl)
  rw [structT_C, structT_C, List.append_assoc, List.append_assoc] at e
  obtain ⟨e1, e2⟩ := split_at (n h) (n h') e
  exact ⟨structC_inj h h' e1, e2⟩
theorem va_no10 {a : Fd5} (h : vaOk a = true) : no 10 (vaT a) := by
  rcases va_cases h with ⟨g, ⟨-, e⟩ | ⟨w, e⟩⟩
  · rw [e]; exact great_no g rfl
  · rw [e]; exact no_app (great_no g rfl) (no_app (no_lit (l := [40]) rfl) (no_app (ty_no w (d := 10) rfl (by decide) (by decide)) (no_lit rfl)))
theorem en_dec {f g : En5} {r r' : List UInt8} (h : enOk f = true) (h' : enOk g = true) (e : enumT f ++ r = enumT g ++ r') : enEq f g = true ∧ r = r' := by
  have n : ∀ {f : En5}, enOk f = true → no 10 (enumC f) := fun h => by
    rw [enOk, Bool.and_eq_true] at h
    rw [enumC]
    refine no_app (no_lit rfl) (no_app (great_no h.1 rfl) ?_)
    rw [bracesT]
    split
    · exact no_lit rfl
    · exact no_app (no_app (no_lit rfl) (list_no (by decide) (by decide) fun x hx => va_no10 (List.all_eq_true.1 h.2 x hx))) (no_lit rfl)
  rw [enumT_C, enumT_C, List.append_assoc, List.append_assoc] at e
  obtain ⟨e1, e2⟩ := split_at (n h) (n h') e
  exact ⟨enumC_inj h h' e1, e2⟩
/-- Items of one kind, then others. -/
theorem items_dec {α : Type} {T : α → List UInt8} {ok : α → Bool} {g : α → α → Bool} (P : UInt8 → Prop) (hd : ∀ x, ok x = true → ∃ c r, T x = c :: r ∧ P c)
    (hdec : ∀ x y r r', ok x = true → ok y = true → T x ++ r = T y ++ r' → g x y = true ∧ r = r') :
    ∀ (l m : List α) (R R' : List UInt8), l.all ok = true → m.all ok = true → (∀ c r, R = c :: r → ¬ P c) → (∀ c r, R' = c :: r → ¬ P c) → l.flatMap T ++ R = m.flatMap T ++ R' → eqL g l m = true ∧ R = R'
  | [], [], _, _, _, _, _, _, e => ⟨rfl, e⟩
  | [], y :: m, R, R', _, h', n, _, e => by
    rw [List.all_cons, Bool.and_eq_true] at h'
    obtain ⟨c, r, e1, p⟩ := hd y h'.1
    rw [List.flatMap_cons, e1] at e
    exact absurd p (n _ _ e)
  | x :: l, [], R, R', h, _, _, n, e => by
    rw [List.all_cons, Bool.and_eq_true] at h
    obtain ⟨c, r, e1, p⟩ := hd x h.1
    rw [List.flatMap_cons, e1] at e
    exact absurd p (n _ _ e.symm)
  | x :: l, y :: m, R, R', h, h', n, n', e => by
    rw [List.all_cons, Bool.and_eq_true] at h h'
    rw [List.flatMap_cons, List.flatMap_cons, List.append_assoc, List.append_assoc] at e
    obtain ⟨j1, j2⟩ := hdec x y _ _ h.1 h'.1 e
    obtain ⟨j3, j4⟩ := items_dec P hd hdec l m R R' h.2 h'.2 n n' j2
    exact ⟨by rw [eqL, j1, j3]; rfl, j4⟩
theorem fn_hd (f : Fn5) : ∃ c r, fnT stT parT f = c :: r ∧ c = 99 := by
  rw [fnT_Ln]
  exact ⟨_, _, rfl, rfl⟩
theorem en_hd (f : En5) : ∃ c r, enumT f = c :: r ∧ c = 101 := by
  rw [enumT_C, enumC]
  exact ⟨_, _, rfl, rfl⟩
theorem su_hd (f : Su5) : ∃ c r, structT f = c :: r ∧ (c = 115 ∨ c = 100) := by
  rw [structT_C, structC]
  split
  · exact ⟨_, _, rfl, .inr rfl⟩
  · exact ⟨_, _, rfl, .inl rfl⟩
theorem flat_hd {α : Type} {T : α → List UInt8} (P : UInt8 → Prop) (h : ∀ x, ∃ c r, T x = c :: r ∧ P c) (l : List α) {c : UInt8} {r R : List UInt8} (hR : ∀ c r, R = c :: r → P c) (e : l.flatMap T ++ R = c :: r) : P c := by
  cases l with
  | nil => exact hR _ _ e
  | cons x l =>
    obtain ⟨d, q, e1, p⟩ := h x
    rw [List.flatMap_cons, e1] at e
    rw [← (List.cons.inj e).1]
    exact p
theorem text_once {a b : So5} (ha : soOk a = true) (hb : soOk b = true) (h : textT a = textT b) : soEq a b = true := by
  simp only [soOk, Bool.and_eq_true] at ha hb
  obtain ⟨⟨a1, a2⟩, a3⟩ := ha
  obtain ⟨⟨b1, b2⟩, b3⟩ := hb
  rw [textT, textT, List.append_assoc, List.append_assoc] at h
  have f1 : ∀ (l : List Fn5) c r, l.flatMap (fnT stT parT) = c :: r → c = 99 := fun l c r e => flat_hd (fun c => c = 99) fn_hd l (R := []) (fun _ _ e => by cases e) (by rw [List.append_nil]; exact e)
  have f2 : ∀ (m : List En5) (l : List Fn5) c r, m.flatMap enumT ++ l.flatMap (fnT stT parT) = c :: r → c = 101 ∨ c = 99 := fun m l c r e =>
    flat_hd (fun c => c = 101 ∨ c = 99) (fun x => let ⟨c, r, e, p⟩ := en_hd x; ⟨c, r, e, .inl p⟩) m (fun c r e => .inr (f1 l c r e)) e
  obtain ⟨i1, e1⟩ := items_dec (g := suEq) (fun c => c = 115 ∨ c = 100) (fun x _ => su_hd x) (fun x y r r' hx hy e => su_dec hx hy e) _ _ _ _ a1 b1
    (fun c r e p => by rcases f2 _ _ c r e with q | q <;> subst q <;> revert p <;> decide) (fun c r e p => by rcases f2 _ _ c r e with q | q <;> subst q <;> revert p <;> decide) h
  obtain ⟨i2, e2⟩ := items_dec (g := enEq) (fun c => c = 101) (fun x _ => en_hd x) (fun x y r r' hx hy e => en_dec hx hy e) _ _ _ _ a2 b2
    (fun c r e p => by have q := f1 _ c r e; subst q; revert p; decide) (fun c r e p => by have q := f1 _ c r e; subst q; revert p; decide) e1
  obtain ⟨i3, -⟩ := items_dec (g := fnEq) (R := []) (R' := []) (fun c => c = 99) (fun x _ => fn_hd x) (fun x y r r' hx hy e => fn_dec hx hy e) _ _ a3 b3
    (fun _ _ e => by cases e) (fun _ _ e => by cases e) (by rw [List.append_nil, List.append_nil]; exact e2)
  rw [soEq, i1, i2, i3]
  rfl
end Go.Proofs.YtgogdcpgfmndnaaGreatDoor
