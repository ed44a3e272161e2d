/-
  TreeNest's walk: it answers true; what it stands on: lines without newlines, tabbed and body. Conditions: the statements lie in the heap, their bulk is at most 1048576; the package variables lie as the program's text lays them.
-/
import Derived.Test.YtgogdcpgfmndnaaGreatDoorTTextA
import Derived.Test.YtgogdcpgfmndnaaGreatDoorTDeep
import Derived.Test.YtgogdcpgfmndnaaGreatDoorTSize
namespace Go.Proofs.YtgogdcpgfmndnaaGreatDoor
open Go.RowKit

/-- No newline in it. -/
def nl0 (l : List UInt8) : Prop := ∀ c, c ∈ l → c ≠ 10
theorem nl0_app {a b : List UInt8} (ha : nl0 a) (hb : nl0 b) : nl0 (a ++ b) := fun c hc => (List.mem_append.1 hc).elim (ha c) (hb c)
theorem nl0_flat {α : Type} {T : α → List UInt8} {l : List α} (h : ∀ x, x ∈ l → nl0 (T x)) : nl0 (l.flatMap T) := fun c hc => by
  obtain ⟨x, hx, hcx⟩ := List.mem_flatMap.1 hc
  exact h x hx c hcx
theorem name_nl {c : UInt8} (h : nameB c = true) : c ≠ 10 := by
  intro e
  subst e
  revert h
  decide
theorem letter_nl {c : UInt8} (h : letterB c = true) : c ≠ 10 := by
  intro e
  subst e
  revert h
  decide
theorem span_all (f : UInt8 → Bool) : ∀ l, spanN f l = l.length → ∀ c, c ∈ l → f c = true
  | [], _, _, hc => by cases hc
  | x :: r, h, c, hc => by
    rw [spanN] at h
    by_cases hf : f x = true
    · rw [if_pos hf] at h
      cases List.mem_cons.1 hc with
      | inl e => rw [e]; exact hf
      | inr e => exact span_all f r (by simpa using h) c e
    · rw [if_neg hf] at h
      simp at h
theorem word_nl {l : List UInt8} (h : wordB l = true) : nl0 l := by
  cases l with
  | nil => cases h
  | cons x r =>
    simp only [wordB, Bool.and_eq_true, decide_eq_true_eq] at h
    intro c hc
    cases List.mem_cons.1 hc with
    | inl e => rw [e]; exact letter_nl h.1.2
    | inr e => exact name_nl (span_all nameB r h.2 c e)
theorem free_nl {s : ByteArray} (h : freeN s = true) : nl0 (bs s) := by
  simp only [freeN, Bool.and_eq_true] at h
  exact word_nl h.1
theorem small_nl {s : ByteArray} (h : smallN s = true) : nl0 (bs s) := by
  simp only [smallN, Bool.and_eq_true] at h
  exact free_nl h.1
theorem great_nl {s : ByteArray} (h : greatN s = true) : nl0 (bs s) := by
  simp only [greatN, Bool.and_eq_true] at h
  exact free_nl h.1
theorem empty_nl {s : ByteArray} (h : emptyN s = true) : nl0 (bs s) := by
  have := empty_of h
  subst this
  intro c hc
  cases hc
theorem lit_nl {l : List UInt8} (h : (l.all fun c => c != 10) = true) : nl0 l := fun c hc e => by
  have := List.all_eq_true.1 h c hc
  subst e
  cases this
theorem around_nl (k : Int) : nl0 (bs (aroundS k)) := by
  rw [aroundS]
  split
  · exact lit_nl rfl
  · split
    · exact lit_nl rfl
    · split
      · exact lit_nl rfl
      · exact lit_nl rfl
theorem inner_nl {k : Int} {nm : ByteArray} {h : Hd} {l : List Ty5} (hv : innerOk (.mk k nm h l) = true) : nl0 (innT (.mk k nm h l)) := by
  rw [innerOk] at hv
  simp only [Bool.and_eq_true] at hv
  have h2 := hv.2
  rw [innT]
  by_cases k1 : k = 1
  · rw [if_pos k1]; exact lit_nl rfl
  · rw [if_neg k1] at h2 ⊢
    by_cases k2 : k = 2
    · rw [if_pos k2] at h2
      rw [if_pos (Or.inl k2)]
      exact great_nl h2
    · rw [if_neg k2] at h2
      by_cases k7 : k = 7
      · rw [if_pos k7] at h2
        have k3 : ¬ k = 3 := by omega
        rw [if_neg (by simp [k2, k3]), if_pos k7]
        exact nl0_app (lit_nl rfl) (small_nl h2)
      · rw [if_neg k7] at h2
        cases h2
theorem ty_nl : ∀ (t : Ty5) (d : Nat), tyOk d t = true → nl0 (tyT t)
  | .mk k nm h [t], d, hv => by
    cases hk : aroundB k with
    | true =>
      rw [tyT_one hk]
      refine nl0_app (around_nl k) ?_
      cases d with
      | zero => rw [tyOk_zero hk] at hv; cases hv
      | succ d =>
        rw [tyOk_one d hk] at hv
        simp only [Bool.and_eq_true] at hv
        exact ty_nl t d hv.2
    | false =>
      rw [tyT_no hk]
      exact inner_nl (by rw [tyOk_no d hk] at hv; exact hv)
  | .mk k nm h [], d, hv => by
    rw [tyT_len (by simp)]
    cases hk : aroundB k with
    | true =>
      cases d with
      | zero => rw [tyOk_zero hk] at hv; cases hv
      | succ d => rw [tyOk_len d hk (by simp)] at hv; cases hv
    | false => exact inner_nl (by rw [tyOk_no d hk] at hv; exact hv)
  | .mk k nm h (a :: b :: r), d, hv => by
    rw [tyT_len (by simp)]
    cases hk : aroundB k with
    | true =>
      cases d with
      | zero => rw [tyOk_zero hk] at hv; cases hv
      | succ d => rw [tyOk_len d hk (by simp)] at hv; cases hv
    | false => exact inner_nl (by rw [tyOk_no d hk] at hv; exact hv)
theorem pl_nl {p : Pl5} (h : plOk p = true) : nl0 (plT p) := by
  simp only [plOk, Bool.and_eq_true] at h
  refine nl0_app (small_nl h.1) (nl0_flat fun f hf => ?_)
  have h2 := List.all_eq_true.1 h.2 f hf
  simp only [stepOk, Bool.or_eq_true] at h2
  rw [stepT]
  cases he : emptyN f with
  | true => exact lit_nl rfl
  | false =>
    rw [he] at h2
    have := small_nl (h2.resolve_left (by decide))
    intro c hc
    cases List.mem_cons.1 hc with
    | inl e => rw [e]; decide
    | inr e => exact this c (by simpa using e)
theorem alone_nl {p : Pl5} (h : aloneB p = true) : nl0 (plT p) := by
  simp only [aloneB, Bool.and_eq_true, decide_eq_true_eq] at h
  rw [plT, List.eq_nil_of_length_eq_zero h.2]
  exact nl0_app (small_nl h.1) (lit_nl rfl)
theorem dec_nl (n : Nat) : nl0 (Lib.decDigits n) := by
  induction n using Nat.strongRecOn with
  | _ n ih =>
    have hd : ∀ u, u < 10 → UInt8.ofNat (48 + u) ≠ 10 := by decide
    rw [Lib.decDigits]
    split
    · rename_i h
      intro c hc
      rw [List.mem_singleton.1 hc]
      exact hd n h
    · refine nl0_app (ih (n / 10) (by omega)) fun c hc => ?_
      rw [List.mem_singleton.1 hc]
      exact hd _ (by omega)

theorem itoa_nl (n : Int) : nl0 (Lib.itoa n) := by
  unfold Lib.itoa
  split
  · intro c hc
    cases List.mem_cons.1 hc with
    | inl e => rw [e]; decide
    | inr e => exact dec_nl _ c e
  · exact dec_nl _
theorem op_nl {o : Op5} (h : opOk o = true) : nl0 (opT o) := by
  rw [opOk] at h
  rw [opT]
  split
  · exact itoa_nl _
  · rename_i hn
    rw [if_neg hn] at h
    simp only [Bool.and_eq_true] at h
    exact pl_nl h.2
theorem operand_nl {v : Rv5} (h : v.ops.all opOk = true) (i : Nat) : nl0 (operandT v i) := by
  rw [operandT]
  split
  · rename_i o ho
    exact op_nl (List.all_eq_true.1 h o (List.mem_of_getElem? ho))
  · exact lit_nl rfl
theorem list_nl {α : Type} {T : α → List UInt8} {l : List α} (h : ∀ x, x ∈ l → nl0 (T x)) : nl0 (listT T l) := by
  cases l with
  | nil => exact lit_nl rfl
  | cons x r =>
    rw [listT]
    exact nl0_app (h x (by simp)) (nl0_flat fun y hy => nl0_app (lit_nl rfl) (h y (by simp [hy])))
theorem args_nl {v : Rv5} (h : v.ops.all opOk = true) : nl0 (argsT v) :=
  nl0_app (nl0_app (lit_nl rfl) (list_nl fun o ho => op_nl (List.all_eq_true.1 h o ho))) (lit_nl rfl)
theorem sign_nl (k : Int) : nl0 (signT k) := by
  rw [signT]
  split
  · exact lit_nl rfl
  · split
    · exact lit_nl rfl
    · split
      · exact lit_nl rfl
      · split
        · exact lit_nl rfl
        · exact lit_nl rfl
theorem nl0_ite {c : Prop} [Decidable c] {a b : List UInt8} (h1 : c → nl0 a) (h2 : ¬ c → nl0 b) : nl0 (if c then a else b) := by
  by_cases h : c
  · rw [if_pos h]; exact h1 h
  · rw [if_neg h]; exact h2 h
theorem set_nl {v : Rv5} (h : rvOk v = true) : nl0 (setT v) := by
  simp only [rvOk, Bool.and_eq_true] at h
  obtain ⟨⟨⟨hn, hp⟩, ho⟩, hc⟩ := h
  have p1 : (v.k = 6 ∨ v.k = 7) → nl0 (plT v.p) := fun hk => pl_nl (by rw [placeOk, if_pos hk] at hp; exact hp)
  have p2 : (v.k = 9 ∨ v.k = 13 ∨ v.k = 14) → nl0 (plT v.p) := fun hk => alone_nl (by rw [placeOk, if_neg (by omega), if_pos hk] at hp; exact hp)
  have o0 := operand_nl ho 0
  have o1 := operand_nl ho 1
  have ar := args_nl ho
  rw [setT]
  refine nl0_ite (fun _ => o0) fun _ => ?_
  refine nl0_ite (fun _ => nl0_app (nl0_app o0 (sign_nl _)) o1) fun _ => ?_
  refine nl0_ite (fun hk => nl0_app (lit_nl rfl) (p1 (Or.inl hk))) fun _ => ?_
  refine nl0_ite (fun hk => nl0_app (lit_nl rfl) (p1 (Or.inr hk))) fun _ => ?_
  refine nl0_ite (fun _ => nl0_app (lit_nl rfl) o0) fun _ => ?_
  refine nl0_ite (fun hk => nl0_app (lit_nl rfl) (p2 (Or.inl hk))) fun _ => ?_
  refine nl0_ite (fun hk => ?_) fun hk0 => ?_
  · rw [namesOk, if_pos hk] at hn
    simp only [Bool.and_eq_true] at hn
    exact nl0_app (great_nl hn.1) ar
  refine nl0_ite (fun hk => ?_) fun hk1 => ?_
  · rw [namesOk, if_neg hk0, if_pos hk] at hn
    simp only [Bool.and_eq_true] at hn
    rw [variantT]
    exact nl0_app (nl0_app (nl0_app (great_nl hn.1) (lit_nl rfl)) (great_nl hn.2)) (nl0_ite (fun _ => ar) fun _ => lit_nl rfl)
  refine nl0_ite (fun hk => ?_) fun hk2 => ?_
  · rw [namesOk, if_neg hk0, if_neg hk1, if_pos hk] at hn
    simp only [Bool.and_eq_true] at hn
    exact nl0_app (nl0_app (lit_nl rfl) (small_nl hn.1)) ar
  refine nl0_ite (fun hk => nl0_app (lit_nl rfl) (p2 (Or.inr (Or.inl hk)))) fun _ => ?_
  refine nl0_ite (fun hk => nl0_app (lit_nl rfl) (p2 (Or.inr (Or.inr hk)))) fun _ => ?_
  exact nl0_ite (fun _ => nl0_app (lit_nl rfl) o0) fun _ => lit_nl rfl

/-- Each line one tab further in; at a line's beginning, or not. -/
def tabT : Bool → List UInt8 → List UInt8
  | _, [] => []
  | b, c :: r => (if b then [9] else []) ++ c :: tabT (c == 10) r
theorem tab_in : ∀ (l r : List UInt8), nl0 l → tabT false (l ++ 10 :: r) = l ++ 10 :: tabT true r
  | [], r, _ => by simp [tabT]
  | c :: l, r, h => by
    have h1 : (c == 10) = false := by simpa using h c (by simp)
    rw [List.cons_append, tabT, h1, tab_in l r fun x hx => h x (by simp [hx])]
    rfl
theorem tab_line (l r : List UInt8) (h : nl0 l) : tabT true (l ++ 10 :: r) = 9 :: l ++ 10 :: tabT true r := by
  cases l with
  | nil => simp [tabT]
  | cons c l =>
    have h1 : (c == 10) = false := by simpa using h c (by simp)
    rw [List.cons_append, tabT, h1, tab_in l r fun x hx => h x (by simp [hx])]
    rfl
theorem tab_lineT (t : Nat) (ps : List ByteArray) (r : List UInt8) (h : ∀ p, p ∈ ps → nl0 (bs p)) : tabT true (lineT t ps ++ r) = lineT (t + 1) ps ++ tabT true r := by
  have h1 : nl0 (List.replicate t 9 ++ ps.flatMap bs) := nl0_app (fun c hc => by rw [(List.mem_replicate.1 hc).2]; decide) (nl0_flat h)
  have e1 : lineT t ps ++ r = (List.replicate t 9 ++ ps.flatMap bs) ++ 10 :: r := by
    rw [lineT]
    simp only [List.append_assoc, List.cons_append, List.nil_append]
  have e2 : lineT (t + 1) ps ++ tabT true r = 9 :: (List.replicate t 9 ++ ps.flatMap bs) ++ 10 :: tabT true r := by
    rw [lineT, List.replicate_succ]
    simp only [List.append_assoc, List.cons_append, List.nil_append]
  rw [e1, tab_line _ r h1, e2]
theorem ba_nl {s : ByteArray} (h : ((bs s).all fun c => c != 10) = true) : nl0 (bs s) := lit_nl h
theorem sb_nl {l : List UInt8} (h : nl0 l) : nl0 (bs (strB l)) := by rw [strB_bs]; exact h
theorem bound_nl {s : ByteArray} (h : (emptyN s || smallN s) = true) : nl0 (boundT s) := by
  rw [boundT]
  cases he : emptyN s with
  | true => exact lit_nl rfl
  | false =>
    rw [he, Bool.false_or] at h
    exact nl0_app (nl0_app (lit_nl rfl) (small_nl h)) (lit_nl rfl)
theorem mem3 {a b c : ByteArray} (h1 : nl0 (bs a)) (h2 : nl0 (bs b)) (h3 : nl0 (bs c)) : ∀ p, p ∈ [a, b, c] → nl0 (bs p) := fun p hp => by
  simp only [List.mem_cons, List.not_mem_nil, or_false] at hp
  rcases hp with rfl | rfl | rfl <;> assumption
theorem mem1 {a : ByteArray} (h1 : nl0 (bs a)) : ∀ p, p ∈ [a] → nl0 (bs p) := fun p hp => by
  simp only [List.mem_cons, List.not_mem_nil, or_false] at hp
  rcases hp with rfl
  assumption
theorem mem4 {a b c d : ByteArray} (h1 : nl0 (bs a)) (h2 : nl0 (bs b)) (h3 : nl0 (bs c)) (h4 : nl0 (bs d)) : ∀ p, p ∈ [a, b, c, d] → nl0 (bs p) := fun p hp => by
  simp only [List.mem_cons, List.not_mem_nil, or_false] at hp
  rcases hp with rfl | rfl | rfl | rfl <;> assumption
theorem mem7 {a b c d e f g : ByteArray} (h1 : nl0 (bs a)) (h2 : nl0 (bs b)) (h3 : nl0 (bs c)) (h4 : nl0 (bs d)) (h5 : nl0 (bs e)) (h6 : nl0 (bs f)) (h7 : nl0 (bs g)) : ∀ p, p ∈ [a, b, c, d, e, f, g] → nl0 (bs p) := fun p hp => by
  simp only [List.mem_cons, List.not_mem_nil, or_false] at hp
  rcases hp with rfl | rfl | rfl | rfl | rfl | rfl | rfl <;> assumption
mutual
theorem st_tab : ∀ (s : St5) (d t : Nat) (r : List UInt8), stOk d s = true → tabT true (stT t s ++ r) = stT (t + 1) s ++ tabT true r
  | .mk k pos nm ty p rv op ht th he el ha ar, d, t, r, hv => by
    rw [stOk] at hv
    by_cases q0 : k = 0
    · rw [if_pos q0] at hv
      simp only [Bool.and_eq_true] at hv
      rw [stT, if_pos q0, stT, if_pos q0]
      exact tab_lineT _ _ _ (mem7 (ba_nl rfl) (small_nl hv.1.1.1) (ba_nl rfl) (sb_nl (ty_nl ty 60 hv.1.1.2)) (ba_nl rfl) (sb_nl (set_nl hv.1.2)) (ba_nl rfl))
    rw [if_neg q0] at hv
    by_cases q1 : k = 1
    · rw [if_pos q1] at hv
      simp only [Bool.and_eq_true] at hv
      rw [stT, if_neg q0, if_pos q1, stT, if_neg q0, if_pos q1]
      exact tab_lineT _ _ _ (mem4 (sb_nl (pl_nl hv.1.1)) (ba_nl rfl) (sb_nl (set_nl hv.1.2)) (ba_nl rfl))
    rw [if_neg q1] at hv
    by_cases q2 : k = 2
    · rw [if_pos q2] at hv
      simp only [Bool.and_eq_true] at hv
      obtain ⟨⟨⟨h1, -, h2⟩, -, h3⟩, -⟩ := hv
      rw [stT, if_neg q0, if_neg q1, if_pos q2, stT, if_neg q0, if_neg q1, if_pos q2]
      by_cases hel : 0 < el.length
      · rw [if_pos hel, if_pos hel]
        simp only [List.append_assoc]
        rw [tab_lineT _ _ _ (mem3 (ba_nl rfl) (sb_nl (op_nl h1)) (ba_nl rfl)), sts_tab th (d + 1) (t + 1) _ h2, tab_lineT _ _ _ (mem1 (ba_nl rfl)), sts_tab el (d + 1) (t + 1) _ h3, tab_lineT _ _ _ (mem1 (ba_nl rfl))]
      · rw [if_neg hel, if_neg hel]
        simp only [List.append_assoc, List.nil_append]
        rw [tab_lineT _ _ _ (mem3 (ba_nl rfl) (sb_nl (op_nl h1)) (ba_nl rfl)), sts_tab th (d + 1) (t + 1) _ h2, tab_lineT _ _ _ (mem1 (ba_nl rfl))]
    rw [if_neg q2] at hv
    by_cases q3 : k = 3
    · rw [if_pos q3] at hv
      simp only [Bool.and_eq_true] at hv
      obtain ⟨⟨h1, -, h2⟩, -⟩ := hv
      rw [stT, if_neg q0, if_neg q1, if_neg q2, if_pos q3, stT, if_neg q0, if_neg q1, if_neg q2, if_pos q3]
      simp only [List.append_assoc]
      rw [tab_lineT _ _ _ (mem3 (ba_nl rfl) (sb_nl (op_nl h1)) (ba_nl rfl)), sts_tab th (d + 1) (t + 1) _ h2, tab_lineT _ _ _ (mem1 (ba_nl rfl))]
    rw [if_neg q3] at hv
    by_cases q4 : k = 4
    · rw [if_pos q4] at hv
      simp only [Bool.and_eq_true] at hv
      obtain ⟨⟨h1, h2⟩, -⟩ := hv
      rw [stT, if_neg q0, if_neg q1, if_neg q2, if_neg q3, if_pos q4, stT, if_neg q0, if_neg q1, if_neg q2, if_neg q3, if_pos q4]
      simp only [List.append_assoc]
      rw [tab_lineT _ _ _ (mem3 (ba_nl rfl) (sb_nl (alone_nl h1)) (ba_nl rfl)), ars_tab ar (d + 1) (t + 1) _ h2, tab_lineT _ _ _ (mem1 (ba_nl rfl))]
    rw [if_neg q4] at hv
    by_cases q5 : k = 5 ∨ k = 6 ∨ k = 7
    · rw [if_pos q5] at hv
      simp only [Bool.and_eq_true] at hv
      rw [stT, if_neg q0, if_neg q1, if_neg q2, if_neg q3, if_neg q4, stT, if_neg q0, if_neg q1, if_neg q2, if_neg q3, if_neg q4]
      rcases q5 with rfl | rfl | rfl
      · rw [if_pos rfl, if_pos rfl]
        exact tab_lineT _ _ _ (mem3 (ba_nl rfl) (sb_nl (op_nl hv.1)) (ba_nl rfl))
      · rw [if_neg (by decide), if_pos rfl, if_neg (by decide), if_pos rfl]
        exact tab_lineT _ _ _ (mem3 (ba_nl rfl) (sb_nl (op_nl hv.1)) (ba_nl rfl))
      · rw [if_neg (by decide), if_neg (by decide), if_pos rfl, if_neg (by decide), if_neg (by decide), if_pos rfl]
        exact tab_lineT _ _ _ (mem3 (ba_nl rfl) (sb_nl (op_nl hv.1)) (ba_nl rfl))
    rw [if_neg q5] at hv
    by_cases q8 : k = 8
    · rw [if_pos q8] at hv
      simp only [Bool.and_eq_true] at hv
      subst q8
      rw [stT, if_neg q0, if_neg q1, if_neg q2, if_neg q3, if_neg q4, if_neg (by decide), if_neg (by decide), if_neg (by decide), if_pos rfl, stT, if_neg q0, if_neg q1, if_neg q2, if_neg q3, if_neg q4, if_neg (by decide), if_neg (by decide), if_neg (by decide), if_pos rfl]
      exact tab_lineT _ _ _ (mem3 (ba_nl rfl) (sb_nl (alone_nl hv.1)) (ba_nl rfl))
    rw [if_neg q8] at hv
    cases hv
theorem sts_tab : ∀ (l : List St5) (d t : Nat) (r : List UInt8), stsOk d l = true → tabT true (stsT t l ++ r) = stsT (t + 1) l ++ tabT true r
  | [], _, _, _, _ => by rw [stsT, stsT]; rfl
  | s :: l, d, t, r, hv => by
    rw [stsOk] at hv
    simp only [Bool.and_eq_true] at hv
    rw [stsT, stsT, List.append_assoc, List.append_assoc, st_tab s d t _ hv.1, sts_tab l d t r hv.2]
theorem ar_tab : ∀ (a : Ar5) (d t : Nat) (r : List UInt8), arOk d a = true → tabT true (arT t a ++ r) = arT (t + 1) a ++ tabT true r
  | .mk vr bi h body, d, t, r, hv => by
    rw [arOk] at hv
    simp only [Bool.and_eq_true] at hv
    obtain ⟨⟨h1, h2⟩, -, h3⟩ := hv
    rw [arT, arT]
    simp only [List.append_assoc]
    rw [tab_lineT _ _ _ (mem3 (great_nl h1) (sb_nl (bound_nl h2)) (ba_nl rfl)), sts_tab body d (t + 1) _ h3, tab_lineT _ _ _ (mem1 (ba_nl rfl))]
theorem ars_tab : ∀ (l : List Ar5) (d t : Nat) (r : List UInt8), armsOk d l = true → tabT true (arsT t l ++ r) = arsT (t + 1) l ++ tabT true r
  | [], _, _, _, _ => by rw [arsT, arsT]; rfl
  | s :: l, d, t, r, hv => by
    rw [armsOk] at hv
    simp only [Bool.and_eq_true] at hv
    rw [arsT, arsT, List.append_assoc, List.append_assoc, ar_tab s d t _ hv.1, ars_tab l d t r hv.2]
end
theorem row_tab (d t : Nat) (l : List St5) (h : rowOk d l = true) : tabT true (rowT stT t l) = rowT stT (t + 1) l := by
  rw [← rowOk_eq] at h
  simp only [Bool.and_eq_true] at h
  have := sts_tab l d t [] h.2
  rw [List.append_nil, tabT, List.append_nil, stsT_eq, stsT_eq] at this
  exact this

theorem run_at (l : List UInt8) (j : Nat) (c : UInt8) (h : l[j]? = some c) (W : World) : (Instr.index 9 (.string (strB l)) (.int .i64 j)).run Tryz.prog W = .ok (.int .u8 c.toNat) W := by
  obtain ⟨h1, h2⟩ := List.getElem?_eq_some_iff.1 h
  refine run_byte (strB l) j c (by rw [strB_size]; exact h1) ?_ W
  show l.toArray[j] = c
  rw [List.getElem_toArray]
  exact h2
theorem tabT_len : ∀ (l : List UInt8) (b : Bool), (tabT b l).length ≤ 2 * l.length
  | [], _ => by simp [tabT]
  | c :: r, b => by
    have := tabT_len r (c == 10)
    rw [tabT, List.length_append, List.length_cons, List.length_cons]
    cases b <;> simp <;> omega
theorem take_one (l : List UInt8) (j : Nat) (c : UInt8) (h : l[j]? = some c) : (strB l).extract j (j + 1) = strB [c] := by
  obtain ⟨h1, h2⟩ := List.getElem?_eq_some_iff.1 h
  rw [extract_strB, strB_bs, List.drop_eq_getElem_cons h1, h2, Nat.add_sub_cancel_left]
  rfl
theorem nl_eq (c : UInt8) : ((c.toNat : Int) == 10) = (c == 10) := by
  rw [Bool.eq_iff_iff]
  simp only [beq_iff_eq]
  constructor
  · intro h
    have : c.toNat = (10 : UInt8).toNat := by
      have e : (10 : UInt8).toNat = 10 := rfl
      omega
    exact UInt8.toNat_inj.1 this
  · rintro rfl
    rfl

set_option maxRecDepth 100000 in
set_option maxHeartbeats 8000000 in
theorem tabbed_any (l : List UInt8) (w : World) (hlen : l.length ≤ 100000000000000) : Calls Tryz.prog 16 #[.string (strB l)] w fun e w' => e = .returned (.string (strB (tabT true l))) ∧ w' = w := by
  have hsz : (strB l).size = l.length := strB_size l
  obtain ⟨S, hS⟩ : ∃ S, S = strB l := ⟨_, rfl⟩
  have HS := Lib.hid hS
  rw [← hS] at hsz ⊢
  obtain ⟨R, hR⟩ : ∃ R, R = tabT true l := ⟨_, rfl⟩
  have hRl : R.length ≤ 2 * l.length := by rw [hR]; exact tabT_len l true
  rw [← hR]
  have HR := Lib.hid hR
  clear hS hR
  go_enter Tryz.func16, Tryz.ntmps16
  go_wp2_with fail
  go_loopw [3, 4, 5] (fun o a u wr => ∃ (j : Nat) (b : Bool) (x : List UInt8), j ≤ l.length ∧ u = .int .i64 j ∧ a = .bool b ∧ o = .string (strB x) ∧ x ++ tabT b (l.drop j) = R ∧ wr = w) (fun _ _ u _ => l.length - (intOf u).toNat)
  case atStart => exact ⟨0, true, [], by omega, rfl, rfl, rfl, by rw [HR.out]; rfl, rfl⟩
  case round =>
    obtain ⟨j, b, x, hj, rfl, rfl, rfl, hx, rfl⟩ := hrel
    by_cases hjl : j < l.length
    · have t1 : decide ((j : Int) < l.length) = true := by simp; omega
      obtain ⟨c, hc⟩ : ∃ c, l[j]? = some c := ⟨_, List.getElem?_eq_getElem hjl⟩
      have hdr : l.drop j = c :: l.drop (j + 1) := by
        rw [List.drop_eq_getElem_cons hjl]
        rw [List.getElem?_eq_getElem hjl] at hc
        rw [Option.some.inj hc]
      have hx2 : x ++ ((if b then [9] else []) ++ c :: tabT (c == 10) (l.drop (j + 1))) = R := by rw [← hx, hdr, tabT]
      have hxl : x.length + 2 ≤ R.length + 1 := by
        rw [← hx2]
        simp only [List.length_append, List.length_cons]
        omega
      have hi : ∀ W, (Instr.index 9 (.string S) (.int .i64 j)).run Tryz.prog W = .ok (.int .u8 c.toNat) W := by rw [HS.out]; exact run_at l j c hc
      have he : S.extract j (j + 1) = strB [c] := by rw [HS.out]; exact take_one l j c hc
      have hn := nl_eq c
      obtain ⟨q, hq⟩ : ∃ q, q = (c == 10) := ⟨_, rfl⟩
      rw [← hq] at hn hx2
      have hz : (strB x).size ≤ 300000000000000 := by rw [strB_size]; omega
      have hz9 : (strB (x ++ [9])).size ≤ 300000000000000 := by rw [strB_size, List.length_append]; simp; omega
      have hzc : (strB [c]).size = 1 := rfl
      have hcat : strB x ++ ⟨#[9]⟩ = strB (x ++ [9]) := by rw [← strB_append]; rfl
      have HX := Lib.hid hx2
      clear hc hdr hx hq hx2
      cases b with
      | false =>
        go_wp2_with fail
        go_roundw
        case rel => exact ⟨j + 1, q, x ++ [c], by omega, by go_num, rfl, by rw [strB_append], by rw [← HX.out]; simp, by first | trivial | rfl⟩
        case measure => simp [intOf]; omega
      | true =>
        go_wp2_with fail
        go_roundw
        case rel => exact ⟨j + 1, q, x ++ [9] ++ [c], by omega, by go_num, rfl, by rw [strB_append], by rw [← HX.out]; simp, by first | trivial | rfl⟩
        case measure => simp [intOf]; omega
    · have t1 : decide ((j : Int) < l.length) = false := by simp; omega
      obtain rfl : j = l.length := by omega
      have HE := Lib.hid (show x = R by rw [← hx, List.drop_length, tabT, List.append_nil])
      go_wp2_with fail
      go_ret
      exact ⟨by rw [HE.out]; first | done | rfl, by first | trivial | rfl⟩

set_option maxRecDepth 100000 in
set_option maxHeartbeats 8000000 in
theorem body_any (L0 M : List UInt8) (w : World) (h0 : nl0 L0) (hM : M = [] ∨ ∃ M', M = M' ++ [10]) (hlen : (L0 ++ 10 :: (M ++ [125, 10])).length ≤ 100000000000000) : Calls Tryz.prog 15 #[.string (strB (L0 ++ 10 :: (M ++ [125, 10])))] w fun e w' => e = .returned (.string (strB M)) ∧ w' = w := by
  obtain ⟨l, hl⟩ : ∃ l, l = L0 ++ 10 :: (M ++ [125, 10]) := ⟨_, rfl⟩
  rw [← hl] at hlen ⊢
  have hln : l.length = L0.length + M.length + 3 := by rw [hl]; simp only [List.length_append, List.length_cons, List.length_nil]; omega
  have hsz : (strB l).size = L0.length + M.length + 3 := by rw [strB_size, hln]
  obtain ⟨S, hS⟩ : ∃ S, S = strB l := ⟨_, rfl⟩
  have HS := Lib.hid hS
  have ha : ∀ j, j < L0.length → ∃ c, l[j]? = some c ∧ c ≠ 10 := fun j hj => by
    refine ⟨L0[j], ?_, h0 _ (List.getElem_mem hj)⟩
    rw [hl, List.getElem?_append_left hj, List.getElem?_eq_getElem hj]
  have hb : l[L0.length]? = some 10 := by
    rw [hl, List.getElem?_append_right (Nat.le_refl _), Nat.sub_self]
    rfl
  have hc : l[L0.length + M.length + 1]? = some 125 := by
    rw [hl, List.getElem?_append_right (by omega), show L0.length + M.length + 1 - L0.length = M.length + 1 by omega, List.getElem?_cons_succ, List.getElem?_append_right (Nat.le_refl _), Nat.sub_self]
    rfl
  have hd : l[L0.length + M.length]? = some 10 := by
    rcases hM with rfl | ⟨M', rfl⟩
    · simpa using hb
    · rw [hl, List.length_append, List.length_singleton, List.getElem?_append_right (by omega), show L0.length + (M'.length + 1) - L0.length = M'.length + 1 by omega, List.getElem?_cons_succ, List.append_assoc, List.getElem?_append_right (Nat.le_refl _), Nat.sub_self]
      rfl
  have he : S.extract (L0.length + 1) (L0.length + M.length + 1) = strB M := by
    rw [hS, extract_strB, strB_bs, hl, show L0.length + M.length + 1 - (L0.length + 1) = M.length by omega]
    congr 1
    rw [show L0 ++ 10 :: (M ++ [125, 10]) = (L0 ++ [10]) ++ (M ++ [125, 10]) by simp, show L0.length + 1 = (L0 ++ [10]).length by simp, List.drop_left, List.take_left]
  have ib : ∀ W, (Instr.index 9 (.string S) (.int .i64 L0.length)).run Tryz.prog W = .ok (.int .u8 10) W := by rw [hS]; exact run_at l _ 10 hb
  have ic : ∀ W, (Instr.index 9 (.string S) (.int .i64 ((L0.length + M.length + 1 : Nat) : Int))).run Tryz.prog W = .ok (.int .u8 125) W := by rw [hS]; exact run_at l _ 125 hc
  have id_ : ∀ W, (Instr.index 9 (.string S) (.int .i64 ((L0.length + M.length : Nat) : Int))).run Tryz.prog W = .ok (.int .u8 10) W := by rw [hS]; exact run_at l _ 10 hd
  rw [← hS] at hsz ⊢
  have HA := Lib.hid ha
  have HC := Lib.hid ic
  have HD := Lib.hid id_
  obtain ⟨n0, hn0⟩ : ∃ n, n = L0.length := ⟨_, rfl⟩
  obtain ⟨n1, hn1⟩ : ∃ n, n = M.length := ⟨_, rfl⟩
  rw [← hn0, ← hn1] at hsz he HC HD hln
  rw [← hn0] at ib HA
  clear hS ha hb hc hd ic id_ hl hM h0 hn0 hn1
  go_enter Tryz.func15, Tryz.ntmps15
  go_wp2_with fail
  go_loopw [3] (fun u wr => ∃ j : Nat, j ≤ n0 ∧ u = .int .i64 j ∧ wr = w) (fun u _ => n0 - (intOf u).toNat)
  case atStart => exact ⟨0, by omega, rfl, rfl⟩
  case round =>
    obtain ⟨j, hj, rfl, rfl⟩ := hrel
    have t1 : decide ((j : Int) < ((n0 + n1 + 3 : Nat) : Int)) = true := by rw [decide_eq_true_iff]; omega
    have t2 : (j : Int) < (n0 : Int) + n1 + 3 := by omega
    have t3 : j < n0 + n1 + 3 := by omega
    by_cases hjl : j < n0
    · obtain ⟨c, hc, hne⟩ := HA.out j hjl
      have hi : ∀ W, (Instr.index 9 (.string S) (.int .i64 j)).run Tryz.prog W = .ok (.int .u8 c.toNat) W := by rw [HS.out]; exact run_at l j c hc
      have hn : ((c.toNat : Int) != 10) = true := by
        have := nl_eq c
        rw [bne, this]
        simpa using hne
      clear hc hne
      go_wp2_with fail
      go_roundw
      case rel => exact ⟨j + 1, by omega, by go_num, by first | trivial | rfl⟩
      case measure => simp [intOf]; omega
    · obtain rfl : j = n0 := by omega
      clear t1 t2 t3 hjl hj
      go_wp2_with fail
      go_loopw [4] (fun u wr2 => ∃ z : Nat, u = .int .i64 z ∧ (z = j + n1 + 2 ∨ z = j + n1 + 1) ∧ wr2 = wr) (fun u _ => (intOf u).toNat)
      case atStart => exact ⟨j + n1 + 2, by go_num, Or.inl rfl, by first | trivial | rfl⟩
      case round =>
        obtain ⟨z, rfl, hz, rfl⟩ := hrel
        have hz0 : 0 < z := by omega
        have hzl : z ≤ 100000000000000 := by omega
        rcases hz with hz | hz
        · have hi : ∀ W, (Instr.index 9 (.string S) (.int .i64 ((z : Int) - 1))).run Tryz.prog W = .ok (.int .u8 125) W := by
            rw [show (z : Int) - 1 = ((j + n1 + 1 : Nat) : Int) by omega]
            exact HC.out
          have HZ := Lib.hid hz
          clear hz
          go_wp2_with fail
          go_roundw
          case rel => exact ⟨z - 1, by have := HZ.out; go_num, Or.inr (by have := HZ.out; omega), by first | trivial | rfl⟩
          case measure => simp [intOf]; omega
        · have hi : ∀ W, (Instr.index 9 (.string S) (.int .i64 ((z : Int) - 1))).run Tryz.prog W = .ok (.int .u8 10) W := by
            rw [show (z : Int) - 1 = ((j + n1 : Nat) : Int) by omega]
            exact HD.out
          have he2 : S.extract (j + 1) z = strB M := by rw [hz]; exact he
          have hle : j + 1 ≤ z := by omega
          have hle2 : ¬ z < j + 1 := by omega
          have hls : z ≤ S.size := by omega
          clear hz he
          go_wp2_with fail
          go_ret
          exact ⟨by first | done | rfl, by first | trivial | rfl⟩

def L0 : List UInt8 := [99, 111, 32, 102, 40, 41, 32, 123]
theorem L0_nl : nl0 L0 := lit_nl rfl
theorem soF_text (hd : Hd) (l : List St5) (b : Nat) : textT (soF hd l b) = L0 ++ 10 :: (rowT stT 1 l ++ [125, 10]) := by
  have e : textT (soF hd l b) = fnT stT parT (fnF hd l) := by simp [textT, soF]
  rw [e, fnT]
  have e1 : lineT 0 [⟨#[99, 111, 32]⟩, (fnF hd l).nm, ⟨#[40]⟩, parT (fnF hd l), ⟨#[41, 32, 123]⟩] = L0 ++ [10] := rfl
  have e2 : lineT 0 [⟨#[125]⟩] = [125, 10] := rfl
  rw [e1, e2]
  show L0 ++ [10] ++ rowT stT 1 l ++ [125, 10] = _
  simp only [List.append_assoc, List.cons_append, List.nil_append]
theorem line_end (t : Nat) (ps : List ByteArray) : ∃ m, lineT t ps = m ++ [10] := ⟨_, rfl⟩
theorem st_end : ∀ (s : St5) (t : Nat), ∃ m, stT t s = m ++ [10]
  | .mk k pos nm ty p rv op ht th he el ha ar, t => by
    have app : ∀ (a : List UInt8) (ps : List ByteArray), ∃ m, a ++ lineT t ps = m ++ [10] := fun a ps => ⟨a ++ (List.replicate t 9 ++ ps.flatMap bs), by rw [lineT]; simp only [List.append_assoc]⟩
    rw [stT]
    by_cases q0 : k = 0
    · rw [if_pos q0]; exact line_end ..
    rw [if_neg q0]
    by_cases q1 : k = 1
    · rw [if_pos q1]; exact line_end ..
    rw [if_neg q1]
    by_cases q2 : k = 2
    · rw [if_pos q2]; exact app ..
    rw [if_neg q2]
    by_cases q3 : k = 3
    · rw [if_pos q3]; exact app ..
    rw [if_neg q3]
    by_cases q4 : k = 4
    · rw [if_pos q4]; exact app ..
    rw [if_neg q4]
    by_cases q5 : k = 5
    · rw [if_pos q5]; exact line_end ..
    rw [if_neg q5]
    by_cases q6 : k = 6
    · rw [if_pos q6]; exact line_end ..
    rw [if_neg q6]
    by_cases q7 : k = 7
    · rw [if_pos q7]; exact line_end ..
    rw [if_neg q7]
    by_cases q8 : k = 8
    · rw [if_pos q8]; exact line_end ..
    rw [if_neg q8]
    exact line_end ..
theorem row_end (t : Nat) (l : List St5) : rowT stT t l = [] ∨ ∃ m, rowT stT t l = m ++ [10] := by
  rcases List.eq_nil_or_concat l with rfl | ⟨r, s, rfl⟩
  · exact .inl rfl
  · obtain ⟨m, hm⟩ := st_end s t
    exact .inr ⟨rowT stT t r ++ m, by simp only [rowT, List.concat_eq_append, List.flatMap_append, List.flatMap_cons, List.flatMap_nil, List.append_nil, hm, List.append_assoc]⟩
theorem while_text (hd : Hd) (l : List St5) (h : rowOk 1 l = true) : rowT stT 1 [whileW hd l] = [9, 119, 104, 105, 108, 101, 32, 49, 32, 123, 10] ++ tabT true (rowT stT 1 l) ++ [9, 125, 10] := by
  rw [row_tab 1 1 l h]
  have e : rowT stT 1 [whileW hd l] = stT 1 (whileW hd l) := by simp [rowT]
  rw [e, whileW, stT, if_neg (by decide), if_neg (by decide), if_neg (by decide), if_pos rfl, stsT_eq]
  have e1 : lineT 1 [⟨#[119, 104, 105, 108, 101, 32]⟩, strB (opT ⟨true, 1, plZ⟩), ⟨#[32, 123]⟩] = [9, 119, 104, 105, 108, 101, 32, 49, 32, 123, 10] := by decide +kernel
  rw [e1]
  rfl
theorem soF_S (hd : Hd) (l : List St5) (b : Nat) : soS (soF hd l b) = stsS l + 10 := by
  simp only [soS, soF, fnF, fnS, List.map_nil, List.sum_nil, List.map_cons, List.sum_cons]
  have : (⟨#[102]⟩ : ByteArray).size = 1 := rfl
  omega
theorem while_S (hd : Hd) (l : List St5) : stsS [whileW hd l] = stsS l + 27 := by
  have e1 : tyS tyZ = 4 := by decide +kernel
  have e2 : plS plZ = 3 := by decide +kernel
  have e3 : rvS rvZ = 8 := by decide +kernel
  have e4 : opS ⟨true, 1, plZ⟩ = 6 := by decide +kernel
  have e5 : (⟨#[]⟩ : ByteArray).size = 0 := rfl
  rw [stsS, stsS, whileW, stS, e1, e2, e3, e4, e5, stsS, arsS]
  omega
theorem textT_small2 (s : So5) (hN : soN s) (h : soS s ≤ 2000000) : (textT s).length ≤ 100000000000000 := by
  have h1 := textT_le s hN
  have h2 : soS s * (soS s + 110) ≤ 2000000 * (2000000 + 110) := Nat.mul_le_mul h (by omega)
  omega

set_option maxRecDepth 100000 in
set_option maxHeartbeats 16000000 in
theorem treeNest_walk (N : Nat) (hd : Hd) (l : List St5) (w : World) (hL : Row w hd 21 l stC (StH (N + 1) w)) (hV : Vz w) (hz : stsS l ≤ 1048576) :
    Calls Tryz.prog 6 #[.slice hd.oa l.length hd.cap] w fun e w' => e = .returned (.bool true) ∧ Below w.heap.size w w' := by
  have HV := Lib.hid hV
  have HL := Lib.hid hL
  have HS := Lib.hid hz
  clear hV hL hz
  go_enter Tryz.func6, Tryz.ntmps6
  go_wp2_with fail
  refine (works_any w HV.out).mono ?_
  rintro e w1 ⟨rfl, hb1⟩
  have hL1 := Row.below HL.out hb1 (fun _ _ hx => StH.below hx hb1)
  obtain ⟨W, hW⟩ : ∃ W, W = (w1.alloc (.cells #[.string ⟨#[102]⟩, .slice none 0 0, .slice hd.oa l.length hd.cap, .int .i64 0] 35)).alloc (.cells #[.slice none 0 0, .slice none 0 0, .slice (some ⟨w1.heap.size, 0, none⟩) 1 1] 26) := ⟨_, rfl⟩
  have hbW : Below w1.heap.size w1 W := by rw [hW]; exact ((Below.refl _ _).alloc (Nat.le_refl _) _).alloc (by simp) _
  have hx0 : W.heap[w1.heap.size]? = some (.cells #[.string ⟨#[102]⟩, .slice none 0 0, .slice hd.oa l.length hd.cap, .int .i64 0] 35) := by rw [hW, heap_alloc_old _ _ (by simp), heap_alloc_new]
  have hx1 : W.heap[w1.heap.size + 1]? = some (.cells #[.slice none 0 0, .slice none 0 0, .slice (some ⟨w1.heap.size, 0, none⟩) 1 1] 26) := by
    have := heap_alloc_new (w1.alloc (.cells #[.string ⟨#[102]⟩, .slice none 0 0, .slice hd.oa l.length hd.cap, .int .i64 0] 35)) (.cells #[.slice none 0 0, .slice none 0 0, .slice (some ⟨w1.heap.size, 0, none⟩) 1 1] 26)
    rw [hW]
    simpa using this
  have hLW := Row.below hL1 hbW (fun _ _ hx => StH.below hx hbW)
  have HB := Lib.hid (hb1.trans (hbW.mono hb1.size))
  have hSO := Lib.hid (fun w' (h : Below W.heap.size W w') => soF_H (Row.below hLW h fun _ _ hx => StH.below hx h) (keepB hx0 h))
  have hcf := Lib.hid (show ∀ w', Below W.heap.size W w' → w'.cell? ⟨w1.heap.size + 1, 0, none⟩ = some (.slice none 0 0) ∧ w'.cell? ⟨w1.heap.size + 1, 1, none⟩ = some (.slice none 0 0) ∧ w'.cell? ⟨w1.heap.size + 1, 2, none⟩ = some (.slice (some ⟨w1.heap.size, 0, none⟩) 1 1) from fun w' h => by
    have := keepB hx1 h
    simp [World.cell?, this])
  have hlg := Lib.hid (show Calls Tryz.prog 9 #[.agg #[.slice none 0 0, .slice none 0 0, .slice (some ⟨w1.heap.size, 0, none⟩) 1 1], .int .i64 400] W fun e w' => SomeB e ∧ Below W.heap.size W w' from large_any (N + 1) (soF hd l w1.heap.size) 400 W (hSO.out W (Below.refl _ _)))
  clear hb1 hL1 hbW hx0 hx1 hLW
  go_wp2_with fail
  rw [← hW]
  clear hW
  refine hlg.out.mono ?_
  rintro e w2 ⟨⟨b, rfl⟩, hb2⟩
  have HB2 := Lib.hid (HB.out.trans (hb2.mono HB.out.size))
  have K2 := Lib.hid hb2
  obtain ⟨y0, y1, y2⟩ := hcf.out w2 hb2
  clear hb2 hlg
  cases b with
  | true =>
    go_wp2
    go_ret
    exact ⟨rfl, HB2.out⟩
  | false =>
  have hva := valid_any (N + 1) (soF hd l w1.heap.size) w2 (hSO.out w2 K2.out) (HV.out.b HB2.out)
  rw [soF_ok] at hva
  obtain ⟨va, hvaE⟩ : ∃ v, v = rowOk 1 l := ⟨_, rfl⟩
  rw [← hvaE] at hva
  have HVA := Lib.hid hvaE
  replace hva := Lib.hid (show Calls Tryz.prog 13 #[.agg #[.slice none 0 0, .slice none 0 0, .slice (some ⟨w1.heap.size, 0, none⟩) 1 1]] w2 fun e w' => e = .returned (.bool va) ∧ Below w2.heap.size w2 w' from hva)
  clear hvaE
  go_wp2_with fail
  refine hva.out.mono ?_
  rintro e w4 ⟨rfl, hb3⟩
  have HB4 := Lib.hid (HB2.out.trans (hb3.mono HB2.out.size))
  have K4 := Lib.hid (K2.out.trans (hb3.mono K2.out.size))
  clear hb3 y0 y1 y2 hva
  cases va with
  | false =>
    go_wp2
    go_ret
    exact ⟨rfl, HB4.out⟩
  | true =>
  go_upto_region 9 with fail
  have hrw : Row (w4.alloc (.cells #[.int .i64 3, .int .i64 0, .string ⟨#[]⟩, .int .i64 0, .string ⟨#[]⟩, .slice none 0 0, .string ⟨#[]⟩, .slice none 0 0, .int .i64 0, .slice none 0 0, .string ⟨#[]⟩, .slice none 0 0, .string ⟨#[]⟩, .string ⟨#[]⟩, .bool true, .int .i64 1, .string ⟨#[]⟩, .slice none 0 0, .slice hd.oa l.length hd.cap, .slice none 0 0, .slice none 0 0] 52)) ⟨some ⟨w4.heap.size, 0, none⟩, 1⟩ 21 [whileW hd l] stC (StH (N + 1 + 1) (w4.alloc (.cells #[.int .i64 3, .int .i64 0, .string ⟨#[]⟩, .int .i64 0, .string ⟨#[]⟩, .slice none 0 0, .string ⟨#[]⟩, .slice none 0 0, .int .i64 0, .slice none 0 0, .string ⟨#[]⟩, .slice none 0 0, .string ⟨#[]⟩, .string ⟨#[]⟩, .bool true, .int .i64 1, .string ⟨#[]⟩, .slice none 0 0, .slice hd.oa l.length hd.cap, .slice none 0 0, .slice none 0 0] 52))) := while_row (Row.below HL.out HB4.out fun _ _ hx => StH.below hx HB4.out)
  obtain ⟨Wa, hWa⟩ : ∃ W, W = w4.alloc (.cells #[.int .i64 3, .int .i64 0, .string ⟨#[]⟩, .int .i64 0, .string ⟨#[]⟩, .slice none 0 0, .string ⟨#[]⟩, .slice none 0 0, .int .i64 0, .slice none 0 0, .string ⟨#[]⟩, .slice none 0 0, .string ⟨#[]⟩, .string ⟨#[]⟩, .bool true, .int .i64 1, .string ⟨#[]⟩, .slice none 0 0, .slice hd.oa l.length hd.cap, .slice none 0 0, .slice none 0 0] 52) := ⟨_, rfl⟩
  have hsa : Wa.heap.size = w4.heap.size + 1 := by rw [hWa]; simp
  have hba : Below w4.heap.size w4 Wa := by rw [hWa]; exact alloc_below _ _
  rw [← hWa] at hrw
  obtain ⟨W5, hW5⟩ : ∃ W, W = (Wa.alloc (.cells #[.string ⟨#[102]⟩, .slice none 0 0, .slice (some ⟨w4.heap.size, 0, none⟩) 1 1, .int .i64 0] 35)).alloc (.cells #[.slice none 0 0, .slice none 0 0, .slice (some ⟨w4.heap.size + 1, 0, none⟩) 1 1] 26) := ⟨_, rfl⟩
  have hbA : Below Wa.heap.size Wa W5 := by rw [hW5]; exact ((Below.refl _ _).alloc (Nat.le_refl _) _).alloc (by simp) _
  have hg1 : W5.heap[w4.heap.size + 1]? = some (.cells #[.string ⟨#[102]⟩, .slice none 0 0, .slice (some ⟨w4.heap.size, 0, none⟩) 1 1, .int .i64 0] 35) := by rw [hW5, ← hsa, heap_alloc_old _ _ (by simp), heap_alloc_new]
  have hg2 : W5.heap[w4.heap.size + 1 + 1]? = some (.cells #[.slice none 0 0, .slice none 0 0, .slice (some ⟨w4.heap.size + 1, 0, none⟩) 1 1] 26) := by
    have := heap_alloc_new (Wa.alloc (.cells #[.string ⟨#[102]⟩, .slice none 0 0, .slice (some ⟨w4.heap.size, 0, none⟩) 1 1, .int .i64 0] 35)) (.cells #[.slice none 0 0, .slice none 0 0, .slice (some ⟨w4.heap.size + 1, 0, none⟩) 1 1] 26)
    rw [hW5]
    simpa [hsa] using this
  rw [← hWa]
  rw [← hW5]
  clear hW5 hWa
  have hb45 : Below w4.heap.size w4 W5 := hba.trans (hbA.mono hba.size)
  have HB5 := Lib.hid (HB4.out.trans (hb45.mono HB4.out.size))
  have K5 := Lib.hid (K4.out.trans (hb45.mono K4.out.size))
  have hrow5 := Row.below hrw hbA fun _ _ hx => StH.below hx hbA
  have HZ := Lib.hid (show ∀ w', Below W5.heap.size W5 w' → w'.cell? ⟨w1.heap.size + 1, 0, none⟩ = some (.slice none 0 0) ∧ w'.cell? ⟨w1.heap.size + 1, 1, none⟩ = some (.slice none 0 0) ∧ w'.cell? ⟨w1.heap.size + 1, 2, none⟩ = some (.slice (some ⟨w1.heap.size, 0, none⟩) 1 1) ∧ w'.cell? ⟨w4.heap.size + 1 + 1, 0, none⟩ = some (.slice none 0 0) ∧ w'.cell? ⟨w4.heap.size + 1 + 1, 1, none⟩ = some (.slice none 0 0) ∧ w'.cell? ⟨w4.heap.size + 1 + 1, 2, none⟩ = some (.slice (some ⟨w4.heap.size + 1, 0, none⟩) 1 1) from fun w' h => by
    obtain ⟨p0, p1, p2⟩ := hcf.out w' (K5.out.trans (h.mono K5.out.size))
    have h2 := keepB hg2 h
    exact ⟨p0, p1, p2, by simp [World.cell?, h2], by simp [World.cell?, h2], by simp [World.cell?, h2]⟩)
  obtain ⟨y0, y1, y2, y3, y4, y5⟩ := HZ.out W5 (Below.refl _ _)
  obtain ⟨M, hM⟩ : ∃ M, M = rowT stT 1 l := ⟨_, rfl⟩
  have hend := row_end 1 l
  have hSf := hSO.out W5 K5.out
  have htl := textT_small2 _ (soN_of hSf) (by rw [soF_S]; have := HS.out; omega)
  have htf := soF_text hd l w1.heap.size
  rw [← hM] at htf hend
  have hwt := while_text hd l HVA.out.symm
  rw [← hM] at hwt
  have hSg := fun w' (h : Below W5.heap.size W5 w') => (soF_H (hd := ⟨some ⟨w4.heap.size, 0, none⟩, 1⟩) (l := [whileW hd l]) (Row.below hrow5 h fun _ _ hx => StH.below hx h) (keepB hg1 h) : SoH (N + 1 + 1) w' (soF ⟨some ⟨w4.heap.size, 0, none⟩, 1⟩ [whileW hd l] (w4.heap.size + 1)))
  have hgl := textT_small2 _ (soN_of (hSg W5 (Below.refl _ _))) (by rw [soF_S, while_S]; have := HS.out; omega)
  have htg := soF_text ⟨some ⟨w4.heap.size, 0, none⟩, 1⟩ [whileW hd l] (w4.heap.size + 1)
  rw [hwt] at htg
  obtain ⟨TT, hTT⟩ : ∃ t, t = tabT true M := ⟨_, rfl⟩
  rw [← hTT] at htg
  have hTf0 := fun w' (h : Below W5.heap.size W5 w') => text_any (N + 1) (soF hd l w1.heap.size) w' (hSO.out w' (K5.out.trans (h.mono K5.out.size))) (HV.out.b (HB5.out.trans (h.mono HB5.out.size))) htl
  have hTg0 := fun w' (h : Below W5.heap.size W5 w') => text_any (N + 1 + 1) (soF ⟨some ⟨w4.heap.size, 0, none⟩, 1⟩ [whileW hd l] (w4.heap.size + 1)) w' (hSg w' h) (HV.out.b (HB5.out.trans (h.mono HB5.out.size))) hgl
  rw [htf] at hTf0 htl
  rw [htg] at hTg0 hgl
  have hBg0 := fun w' => body_any L0 ([9, 119, 104, 105, 108, 101, 32, 49, 32, 123, 10] ++ TT ++ [9, 125, 10]) w' L0_nl (Or.inr ⟨[9, 119, 104, 105, 108, 101, 32, 49, 32, 123, 10] ++ TT ++ [9, 125], by simp only [List.append_assoc, List.cons_append, List.nil_append]⟩) hgl
  have hBf0 := fun w' => body_any L0 M w' L0_nl hend htl
  have hml : M.length ≤ 100000000000000 := by simp only [List.length_append, List.length_cons] at htl; omega
  have hTb0 := fun w' => tabbed_any M w' hml
  rw [← hTT] at hTb0
  have hTTl : TT.length ≤ 200000000000000 := by have := tabT_len M true; rw [← hTT] at this; omega
  have hz1 : (strB TT).size ≤ 200000000000000 := by rw [strB_size]; exact hTTl
  have hE : strB ([9, 119, 104, 105, 108, 101, 32, 49, 32, 123, 10] ++ TT ++ [9, 125, 10]) = ⟨#[9, 119, 104, 105, 108, 101, 32, 49, 32, 123, 10]⟩ ++ strB TT ++ ⟨#[9, 125, 10]⟩ := by rw [← strB_append, ← strB_append]; rfl
  rw [hE] at hBg0
  obtain ⟨SF, hSF⟩ : ∃ s, s = strB (L0 ++ 10 :: (M ++ [125, 10])) := ⟨_, rfl⟩
  obtain ⟨SG, hSG⟩ : ∃ s, s = strB (L0 ++ 10 :: ([9, 119, 104, 105, 108, 101, 32, 49, 32, 123, 10] ++ TT ++ [9, 125, 10] ++ [125, 10])) := ⟨_, rfl⟩
  rw [← hSF] at hTf0 hBf0
  rw [← hSG] at hTg0 hBg0
  have hTf := Lib.hid (show ∀ w', Below W5.heap.size W5 w' → Calls Tryz.prog 14 #[.agg #[.slice none 0 0, .slice none 0 0, .slice (some ⟨w1.heap.size, 0, none⟩) 1 1]] w' fun e w'' => e = .returned (.string SF) ∧ Below w'.heap.size w' w'' from hTf0)
  have hTg := Lib.hid (show ∀ w', Below W5.heap.size W5 w' → Calls Tryz.prog 14 #[.agg #[.slice none 0 0, .slice none 0 0, .slice (some ⟨w4.heap.size + 1, 0, none⟩) 1 1]] w' fun e w'' => e = .returned (.string SG) ∧ Below w'.heap.size w' w'' from hTg0)
  have hBf := Lib.hid hBf0
  have hBg := Lib.hid hBg0
  have hTab := Lib.hid hTb0
  clear hTf0 hTg0 hBf0 hBg0 hTb0 hSF hSG hE hTTl hml hgl htl hTT htg hSg hwt htf hSf hend hM hrow5 hb45 hg1 hg2 hbA hrw hba hsa
  refine wp_region_held_drew (S := (fun w' => w'.cell? ⟨w1.heap.size + 1, 0, none⟩ = some (.slice none 0 0) ∧ w'.cell? ⟨w1.heap.size + 1, 1, none⟩ = some (.slice none 0 0) ∧ w'.cell? ⟨w1.heap.size + 1, 2, none⟩ = some (.slice (some ⟨w1.heap.size, 0, none⟩) 1 1) ∧ w'.cell? ⟨w4.heap.size + 1 + 1, 0, none⟩ = some (.slice none 0 0) ∧ w'.cell? ⟨w4.heap.size + 1 + 1, 1, none⟩ = some (.slice none 0 0) ∧ w'.cell? ⟨w4.heap.size + 1 + 1, 2, none⟩ = some (.slice (some ⟨w4.heap.size + 1, 0, none⟩) 1 1))) (by kernel_rfl) ?_ (fun hHeld => ?_)
  · exact ⟨y0, y1, y2, y3, y4, y5⟩
  refine wpAnyH_take (i := 0) (oi := { dst := some 30, op := Go.Op.move (Go.Operand.tmp 3), type := 4, pos := "law.go:115", after := #[], guard := none }) (v := ?vq0) rfl (by kernel_rfl) (by kernel_rfl) (by kernel_rfl) (fun _ _ _ h => h) (Or.inl ⟨by rfl, ?hq0⟩) (by assumption) ?_
  case hq0 => intro w hSw; (try dsimp only at hSw); go_simp; try (with_reducible rfl)
  (try simp only [Act.put, List.setIfInBounds_toArray, List.set_cons_zero, List.set_cons_succ])
  refine wpAnyH_take (i := 1) (oi := { dst := some 31, op := Go.Op.move (Go.Operand.tmp 30), type := 4, pos := "law.go:115", after := #[{ on := 0, ground := Go.Ground.data }], guard := none }) (v := ?vq1) rfl (by kernel_rfl) (by kernel_rfl) (by kernel_rfl) (fun _ _ _ h => h) (Or.inl ⟨by rfl, ?hq1⟩) (by assumption) ?_
  case hq1 => intro w hSw; (try dsimp only at hSw); go_simp; try (with_reducible rfl)
  (try simp only [Act.put, List.setIfInBounds_toArray, List.set_cons_zero, List.set_cons_succ])
  refine wpAnyH_take (i := 2) (oi := { dst := some 32, op := Go.Op.load 26 (Go.Operand.tmp 6), type := 26, pos := "law.go:115", after := #[{ on := 1, ground := Go.Ground.guard }], guard := some (1, true) }) (v := ?vq2) rfl (by kernel_rfl) (by kernel_rfl) (by kernel_rfl) (fun _ _ _ h => h) (Or.inl ⟨by rfl, ?hq2⟩) (by assumption) ?_
  case hq2 => intro w hSw; (try dsimp only at hSw); go_simp; try (with_reducible rfl)
  (try simp only [Act.put, List.setIfInBounds_toArray, List.set_cons_zero, List.set_cons_succ])
  refine wpAnyH_take (i := 5) (oi := { dst := some 35, op := Go.Op.load 26 (Go.Operand.tmp 4), type := 26, pos := "law.go:115", after := #[{ on := 1, ground := Go.Ground.guard }], guard := some (1, true) }) (v := ?vq5) rfl (by kernel_rfl) (by kernel_rfl) (by kernel_rfl) (fun _ _ _ h => h) (Or.inl ⟨by rfl, ?hq5⟩) (by assumption) ?_
  case hq5 => intro w hSw; (try dsimp only at hSw); go_simp; try (with_reducible rfl)
  (try simp only [Act.put, List.setIfInBounds_toArray, List.set_cons_zero, List.set_cons_succ])
  refine wpAnyH_ready (rs := [3]) (by kernel_rfl) (by simp) ?_
  refine AllReadyH.cons (o := { dst := some 33, op := Go.Op.call { callee := Go.Callee.value (Go.Operand.func 14), args := #[Go.Operand.tmp 32], argTypes := #[26] }, type := 9, pos := "law.go:115", after := #[{ on := 2, ground := Go.Ground.data }, { on := 1, ground := Go.Ground.chain }, { on := 1, ground := Go.Ground.guard }], guard := some (1, true) }) rfl (fun K hK => ?_) AllReadyH.nil
  go_simp
  (go_at_call 14; refine (hTg.out W5.drew (Below.refl _ _).drew).mono ?_; rintro e v1 ⟨rfl, hq'⟩; have hq := below_undrew hq'; obtain ⟨a0, a1, a2, a3, a4, a5⟩ := HZ.out v1 hq; have HB6 := Lib.hid (HB5.out.trans (hq.mono HB5.out.size)); have HK6 := Lib.hid hq; clear hq hq')
  refine hK.out _ _ ?_ (fun hHeld => ?_)
  · (refine ⟨?_, ?_, ?_, ?_, ?_, ?_⟩ <;> assumption)
  clear hK K
  (try simp only [Act.put, List.setIfInBounds_toArray, List.set_cons_zero, List.set_cons_succ])
  refine wpAnyH_ready (rs := [4]) (by kernel_rfl) (by simp) ?_
  refine AllReadyH.cons (o := { dst := some 34, op := Go.Op.call { callee := Go.Callee.value (Go.Operand.func 15), args := #[Go.Operand.tmp 33], argTypes := #[9] }, type := 9, pos := "law.go:115", after := #[{ on := 3, ground := Go.Ground.data }, { on := 3, ground := Go.Ground.chain }, { on := 1, ground := Go.Ground.guard }], guard := some (1, true) }) rfl (fun K hK => ?_) AllReadyH.nil
  go_simp
  (go_at_call 15; refine (hBg.out _).mono ?_; rintro e vv ⟨rfl, rfl⟩)
  refine hK.out _ _ ?_ (fun hHeld => ?_)
  · (refine ⟨?_, ?_, ?_, ?_, ?_, ?_⟩ <;> assumption)
  clear hK K
  (try simp only [Act.put, List.setIfInBounds_toArray, List.set_cons_zero, List.set_cons_succ])
  refine wpAnyH_ready (rs := [6]) (by kernel_rfl) (by simp) ?_
  refine AllReadyH.cons (o := { dst := some 36, op := Go.Op.call { callee := Go.Callee.value (Go.Operand.func 14), args := #[Go.Operand.tmp 35], argTypes := #[26] }, type := 9, pos := "law.go:115", after := #[{ on := 5, ground := Go.Ground.data }, { on := 4, ground := Go.Ground.chain }, { on := 1, ground := Go.Ground.guard }], guard := some (1, true) }) rfl (fun K hK => ?_) AllReadyH.nil
  go_simp
  (go_at_call 14; refine (hTf.out _ HK6.out).mono ?_; rintro e v2 ⟨rfl, hq⟩; have hk := HK6.out.trans (hq.mono HK6.out.size); obtain ⟨b0, b1, b2, b3, b4, b5⟩ := HZ.out v2 hk; have HB7 := Lib.hid (HB6.out.trans (hq.mono HB6.out.size)); clear hq hk)
  refine hK.out _ _ ?_ (fun hHeld => ?_)
  · (refine ⟨?_, ?_, ?_, ?_, ?_, ?_⟩ <;> assumption)
  clear hK K
  (try simp only [Act.put, List.setIfInBounds_toArray, List.set_cons_zero, List.set_cons_succ])
  refine wpAnyH_ready (rs := [7]) (by kernel_rfl) (by simp) ?_
  refine AllReadyH.cons (o := { dst := some 37, op := Go.Op.call { callee := Go.Callee.value (Go.Operand.func 15), args := #[Go.Operand.tmp 36], argTypes := #[9] }, type := 9, pos := "law.go:115", after := #[{ on := 6, ground := Go.Ground.data }, { on := 6, ground := Go.Ground.chain }, { on := 1, ground := Go.Ground.guard }], guard := some (1, true) }) rfl (fun K hK => ?_) AllReadyH.nil
  go_simp
  (go_at_call 15; refine (hBf.out _).mono ?_; rintro e vv ⟨rfl, rfl⟩)
  refine hK.out _ _ ?_ (fun hHeld => ?_)
  · (refine ⟨?_, ?_, ?_, ?_, ?_, ?_⟩ <;> assumption)
  clear hK K
  (try simp only [Act.put, List.setIfInBounds_toArray, List.set_cons_zero, List.set_cons_succ])
  refine wpAnyH_ready (rs := [8]) (by kernel_rfl) (by simp) ?_
  refine AllReadyH.cons (o := { dst := some 38, op := Go.Op.call { callee := Go.Callee.value (Go.Operand.func 16), args := #[Go.Operand.tmp 37], argTypes := #[9] }, type := 9, pos := "law.go:115", after := #[{ on := 7, ground := Go.Ground.data }, { on := 7, ground := Go.Ground.chain }, { on := 1, ground := Go.Ground.guard }], guard := some (1, true) }) rfl (fun K hK => ?_) AllReadyH.nil
  go_simp
  (go_at_call 16; refine (hTab.out _).mono ?_; rintro e vv ⟨rfl, rfl⟩)
  refine hK.out _ _ ?_ (fun hHeld => ?_)
  · (refine ⟨?_, ?_, ?_, ?_, ?_, ?_⟩ <;> assumption)
  clear hK K
  (try simp only [Act.put, List.setIfInBounds_toArray, List.set_cons_zero, List.set_cons_succ])
  refine wpAnyH_take (i := 9) (oi := { dst := some 39, op := Go.Op.binOp Go.BinOp.add 9 (Go.Operand.const (Go.Value.string { data := #[9, 119, 104, 105, 108, 101, 32, 49, 32, 123, 10] })) (Go.Operand.tmp 38) 9, type := 9, pos := "law.go:115", after := #[{ on := 8, ground := Go.Ground.data }, { on := 1, ground := Go.Ground.guard }], guard := some (1, true) }) (v := ?vq9) rfl (by kernel_rfl) (by kernel_rfl) (by kernel_rfl) (fun _ _ _ h => h) (Or.inl ⟨by rfl, ?hq9⟩) (by assumption) ?_
  case hq9 => intro w hSw; (try dsimp only at hSw); go_simp; rw [if_neg (by omega)]
  (try simp only [Act.put, List.setIfInBounds_toArray, List.set_cons_zero, List.set_cons_succ])
  refine wpAnyH_take (i := 10) (oi := { dst := some 40, op := Go.Op.binOp Go.BinOp.add 9 (Go.Operand.tmp 39) (Go.Operand.const (Go.Value.string { data := #[9, 125, 10] })) 9, type := 9, pos := "law.go:115", after := #[{ on := 9, ground := Go.Ground.data }, { on := 1, ground := Go.Ground.guard }], guard := some (1, true) }) (v := ?vq10) rfl (by kernel_rfl) (by kernel_rfl) (by kernel_rfl) (fun _ _ _ h => h) (Or.inl ⟨by rfl, ?hq10⟩) (by assumption) ?_
  case hq10 => intro w hSw; (try dsimp only at hSw); go_simp; rw [if_neg (by omega)]
  (try simp only [Act.put, List.setIfInBounds_toArray, List.set_cons_zero, List.set_cons_succ])
  refine wpAnyH_take (i := 11) (oi := { dst := some 41, op := Go.Op.binOp Go.BinOp.eql 9 (Go.Operand.tmp 34) (Go.Operand.tmp 40) 9, type := 4, pos := "law.go:115", after := #[{ on := 4, ground := Go.Ground.data }, { on := 10, ground := Go.Ground.data }, { on := 1, ground := Go.Ground.guard }], guard := some (1, true) }) (v := ?vq11) rfl (by kernel_rfl) (by kernel_rfl) (by kernel_rfl) (fun _ _ _ h => h) (Or.inl ⟨by rfl, ?hq11⟩) (by assumption) ?_
  case hq11 => intro w hSw; (try dsimp only at hSw); go_simp; try (with_reducible rfl)
  (try simp only [Act.put, List.setIfInBounds_toArray, List.set_cons_zero, List.set_cons_succ])
  refine wpAnyH_take (i := 12) (oi := { dst := some 42, op := Go.Op.pick (Go.Operand.tmp 31) (Go.Operand.tmp 41) (Go.Operand.const (Go.Value.bool false)), type := 4, pos := "law.go:115", after := #[{ on := 1, ground := Go.Ground.data }, { on := 11, ground := Go.Ground.data }], guard := none }) (v := ?vq12) rfl (by kernel_rfl) (by kernel_rfl) (by kernel_rfl) (fun _ _ _ h => h) (Or.inl ⟨by rfl, ?hq12⟩) (by assumption) ?_
  case hq12 => intro w hSw; (try dsimp only at hSw); go_simp; try (with_reducible rfl)
  (try simp only [Act.put, List.setIfInBounds_toArray, List.set_cons_zero, List.set_cons_succ])
  refine wpAnyH_take (i := 13) (oi := { dst := some 2, op := Go.Op.assign (Go.Operand.tmp 42), type := 4, pos := "law.go:115", after := #[{ on := 12, ground := Go.Ground.data }, { on := 8, ground := Go.Ground.chain }, { on := 0, ground := Go.Ground.phase }, { on := 1, ground := Go.Ground.phase }, { on := 2, ground := Go.Ground.phase }, { on := 3, ground := Go.Ground.phase }, { on := 4, ground := Go.Ground.phase }, { on := 5, ground := Go.Ground.phase }, { on := 6, ground := Go.Ground.phase }, { on := 7, ground := Go.Ground.phase }, { on := 8, ground := Go.Ground.phase }, { on := 9, ground := Go.Ground.phase }, { on := 10, ground := Go.Ground.phase }, { on := 11, ground := Go.Ground.phase }, { on := 12, ground := Go.Ground.phase }], guard := none }) (v := ?vq13) rfl (by kernel_rfl) (by kernel_rfl) (by kernel_rfl) (fun _ _ _ h => h) (Or.inl ⟨by rfl, ?hq13⟩) (by assumption) ?_
  case hq13 => intro w hSw; (try dsimp only at hSw); go_simp; try (with_reducible rfl)
  (try simp only [Act.put, List.setIfInBounds_toArray, List.set_cons_zero, List.set_cons_succ])
  refine wpAnyH_done (by kernel_rfl) ?_ _
  go_wp2
  go_ret
  exact ⟨by first | done | rfl, HB7.out⟩
end Go.Proofs.YtgogdcpgfmndnaaGreatDoor
