/-
  Several texts of the proof in one: PNz, PBlP, PBlE. No conditions of their own: each lemma states its own.
-/
import Derived.Test.YtggdpgaedmegbaaGreatDoorJPWorks
import Derived.Test.YtggdpgaedmegbaaGreatDoorJPCutL
import Derived.Test.YtggdpgaedmegbaaGreatDoorJPRepR
import Derived.Test.YtggdpgaedmegbaaGreatDoorJLNum
namespace Go.Proofs.YtggdpgaedmegbaaGreatDoor

def NZ {α : Type} (R : Rd α) : Prop := ∀ l e p, Good l → R l = .no e p → e ≠ 0
theorem nz_pure {α : Type} (a : α) : NZ (pureR a) := fun _ _ _ _ h => by cases h
theorem nz_fail {α : Type} {e : Int} (he : e ≠ 0) : NZ (failR (α := α) e) := fun _ _ _ _ h => by cases h; exact he
theorem nz_one (f : Tok → Bool) : NZ (oneR f) := fun l e p _ h => by
  unfold oneR at h
  split at h
  · cases h
  · cases h; decide
theorem nz_bind {α β : Type} {c s : Bool} {R : Rd α} {F : α → Rd β} (hr : Ru1 c s R) (h : NZ R) (hF : ∀ a, NZ (F a)) : NZ (bindR R F) := fun l e p hg h1 => by
  unfold bindR at h1
  cases h2 : R l with
  | no e' p' => rw [h2] at h1; cases h1; exact h _ _ _ hg h2
  | ok a m => rw [h2] at h1; exact hF a m e p (hr.rest hg h2).1 h1
theorem nz_map {α β : Type} {R : Rd α} (f : α → β) (h : NZ R) : NZ (mapR R f) := fun l e p hg h1 => by
  unfold mapR bindR at h1
  cases h2 : R l with
  | no e' p' => rw [h2] at h1; cases h1; exact h _ _ _ hg h2
  | ok a m => rw [h2] at h1; cases h1
theorem nz_opt {α : Type} {w : List UInt8} {y n : Rd α} (hw : w ≠ []) (hy : NZ y) (hn : NZ n) : NZ (optR w y n) := fun l e p hg h => by
  unfold optR at h
  by_cases ht : (hd l).text = w
  · rw [if_pos ht] at h; exact hy _ _ _ (good_tail hg fun d => hw (ht ▸ d.2)).1 h
  · rw [if_neg ht] at h; exact hn _ _ _ hg h
theorem nz_is {α : Type} {f : Tok → Bool} {y n : Rd α} (hy : NZ y) (hn : NZ n) : NZ (isR f y n) := fun l e p hg h => by
  unfold isR at h
  split at h
  · exact hy _ _ _ hg h
  · exact hn _ _ _ hg h
theorem nz_at {α : Type} {F : Nat → Rd α} (h : ∀ q, NZ (F q)) : NZ (atR F) := fun l e p hg h1 => h _ _ _ _ hg h1
theorem nz_small : NZ smallR := nz_map _ (nz_one _)
theorem nz_great : NZ greatR := nz_map _ (nz_one _)
theorem nz_number : NZ numberR := nz_map _ (nz_one _)
theorem nz_need {w : List UInt8} (hw : w ≠ []) : NZ (needR w) := nz_opt hw (nz_pure _) (nz_fail (by decide))
theorem nz_ty : ∀ n, NZ (tyR n)
  | 0 => nz_fail (by decide)
  | n + 1 => nz_opt (by decide) (nz_pure _) (nz_opt (by decide) (nz_map _ nz_small) (nz_opt (by decide) (nz_map _ (nz_ty n)) (nz_opt (by decide) (nz_opt (by decide) (nz_map _ (nz_ty n)) (nz_map _ (nz_ty n))) (nz_map _ nz_great))))
theorem nz_field : NZ fieldR := nz_bind ru_small nz_small fun _ => nz_bind (ru_need (by decide)) (nz_need (by decide)) fun _ => nz_map _ (nz_ty _)
theorem nz_variant : NZ variantR := nz_bind ru_great nz_great fun _ => nz_opt (by decide) (nz_bind (ru_ty 60) (nz_ty _) fun _ => nz_map _ (nz_need (by decide))) (nz_pure _)
theorem nz_row {α : Type} {w : List UInt8} (hw : w ≠ []) {f : Bool → Rd α} (hr : ∀ b, Ru1 false false (f b)) (h : ∀ b, NZ (f b)) : ∀ (k : Nat) (b : Bool) (l : List Tok) (e : Int) (p : Nat), l.length ≤ k → Good l → rowR w f k b l = .no e p → e ≠ 0
  | 0, _, l, _, _, hk, hg, _ => absurd hg.pos (by omega)
  | k + 1, b, l, e, p, hk, hg, h1 => by
    rw [rowR] at h1
    unfold optR at h1
    by_cases ht : (hd l).text = w
    · rw [if_pos ht] at h1; cases h1
    · rw [if_neg ht] at h1
      unfold bindR at h1
      cases h2 : f b l with
      | no e' p' => rw [h2] at h1; cases h1; exact h b _ _ _ hg h2
      | ok a m =>
        rw [h2] at h1
        simp only at h1
        unfold mapR bindR at h1
        cases h3 : rowR w f k false m with
        | no e' p' =>
          rw [h3] at h1
          cases h1
          have hlt := (hr b).con _ _ _ h2
          exact nz_row hw hr h k false m e p (by omega) ((hr b).rest hg h2).1 h3
        | ok _ _ => rw [h3] at h1; cases h1
theorem nz_rowL {α : Type} {w : List UInt8} (hw : w ≠ []) {f : Bool → Rd α} (hr : ∀ b, Ru1 false false (f b)) (h : ∀ b, NZ (f b)) : NZ (rowL w f) := fun l e p hg h1 => nz_row hw hr h _ _ l e p (Nat.le_refl _) hg h1
theorem nz_sep {α : Type} {R : Rd α} (h : NZ R) (b : Bool) : NZ (sepR R b) := by
  unfold sepR
  cases b
  · exact nz_bind (ru_need (by decide)) (nz_need (by decide)) fun _ => h
  · exact h
theorem nz_step : NZ stepR := nz_opt (by decide) (nz_pure _) nz_small
theorem nz_path : ∀ (k : Nat) (l : List Tok) (e : Int) (p : Nat), l.length ≤ k → Good l → pathR k l = .no e p → e ≠ 0
  | 0, l, _, _, hk, hg, _ => absurd hg.pos (by omega)
  | k + 1, l, e, p, hk, hg, h1 => by
    rw [pathR] at h1
    unfold optR at h1
    by_cases ht : (hd l).text = wDot
    · rw [if_pos ht] at h1
      have h0 := good_tail hg fun d => (show wDot ≠ [] by decide) (ht ▸ d.2)
      unfold bindR at h1
      cases h2 : stepR l.tail with
      | no e' p' => rw [h2] at h1; cases h1; exact nz_step _ _ _ h0.1 h2
      | ok a m =>
        rw [h2] at h1
        simp only at h1
        unfold mapR bindR at h1
        cases h3 : pathR k m with
        | no e' p' =>
          rw [h3] at h1
          cases h1
          have hlt := ru_step.con _ _ _ h2
          exact nz_path k m e p (by rw [List.length_tail] at hlt; omega) (ru_step.rest h0.1 h2).1 h3
        | ok _ _ => rw [h3] at h1; cases h1
    · rw [if_neg ht] at h1; cases h1
theorem nz_place : NZ placeR := nz_bind ru_small nz_small fun _ => nz_map _ fun l e p hg h => nz_path _ l e p (Nat.le_refl _) hg h
theorem nz_alone : NZ aloneR := nz_map _ nz_small
theorem nz_oper : NZ operR := nz_opt (by decide) (nz_map _ nz_number) (nz_is (nz_map _ nz_number) (nz_map _ nz_place))
theorem nz_args : NZ argsR := nz_bind (ru_need (by decide)) (nz_need (by decide)) fun _ => nz_rowL (by decide) (ru_sep ru_oper) (nz_sep nz_oper)
theorem nz_made : NZ madeR := nz_bind ru_great nz_great fun _ => nz_opt (by decide) (nz_bind ru_great nz_great fun _ => nz_opt (by decide) (nz_bind ru_oper nz_oper fun _ => nz_map _ (nz_need (by decide))) (nz_pure _)) (nz_map _ nz_args)
theorem nz_reckoned : NZ reckonedR := nz_bind ru_oper nz_oper fun _ => nz_opt (by decide) (nz_map _ nz_oper) (nz_opt (by decide) (nz_map _ nz_oper) (nz_opt (by decide) (nz_map _ nz_oper) (nz_opt (by decide) (nz_map _ nz_oper) (nz_opt (by decide) (nz_map _ nz_oper) (nz_pure _)))))
theorem nz_set : NZ setR := nz_opt (by decide) (nz_opt (by decide) (nz_map _ nz_place) (nz_map _ nz_place)) (nz_opt (by decide) (nz_map _ nz_oper) (nz_opt (by decide) (nz_map _ nz_alone)
  (nz_opt (by decide) (nz_bind ru_small nz_small fun _ => nz_map _ nz_args) (nz_opt (by decide) (nz_map _ nz_alone) (nz_opt (by decide) (nz_map _ nz_alone) (nz_opt (by decide) (nz_map _ nz_oper) (nz_is nz_made nz_reckoned)))))))
theorem nz_isSet : NZ isSetR := nz_bind (ru_need (by decide)) (nz_need (by decide)) fun _ => nz_set
theorem nz_arm {R : Rd (List St5)} (hr : Ru1 true true R) (h : NZ R) : NZ (armR R) := nz_bind ru_great nz_great fun _ => by
  rw [bind_opt, bind_bind, bind_pure]
  refine nz_opt (by decide) (nz_bind ru_small nz_small fun _ => ?_) (nz_bind (ru_need (by decide)) (nz_need (by decide)) fun _ => nz_map _ h)
  rw [bind_map]
  exact nz_bind (ru_need (by decide)) (nz_need (by decide)) fun _ => nz_bind (ru_need (by decide)) (nz_need (by decide)) fun _ => nz_map _ h
theorem nz_plain (q : Int) : NZ (plainR q) := nz_opt (by decide) (nz_bind ru_field nz_field fun _ => nz_map _ nz_isSet) (nz_opt (by decide) (nz_map _ nz_oper) (nz_opt (by decide) (nz_map _ nz_oper) (nz_opt (by decide) (nz_map _ nz_oper) (nz_opt (by decide) (nz_map _ nz_alone)
  (nz_bind ru_place nz_place fun _ => nz_map _ nz_isSet)))))
theorem nz_stmt {R : Rd (List St5)} (hr : Ru1 true true R) (h : NZ R) : NZ (stmtR R) := nz_at fun q =>
  nz_opt (by decide) (nz_bind ru_oper nz_oper fun _ => nz_bind hr h fun _ => nz_opt (by decide) (nz_map _ h) (nz_pure _))
  (nz_opt (by decide) (nz_bind ru_oper nz_oper fun _ => nz_map _ h)
  (nz_opt (by decide) (nz_bind ru_alone nz_alone fun _ => nz_bind (ru_need (by decide)) (nz_need (by decide)) fun _ => nz_map _ (nz_rowL (by decide) (fun _ => (ru_arm hr).any) fun _ => nz_arm hr h))
  (nz_bind (ru_plain q) (nz_plain q) fun _ => nz_map _ (nz_need (by decide)))))
theorem nz_block : ∀ n, NZ (blockD n)
  | 0 => nz_is (nz_fail (by decide)) (nz_fail (by decide))
  | n + 1 => nz_bind (ru_need (by decide)) (nz_need (by decide)) fun _ => nz_rowL (by decide) (fun _ => ru_stmt (ru_block n)) fun _ => nz_stmt (ru_block n) (nz_block n)
theorem nz_struct : NZ structR := nz_at fun q => by
  rw [bind_opt, bind_pure, bind_pure]
  have hr : ∀ d : Bool, NZ (bindR (needR wStruct) fun _ => bindR greatR fun s => bindR (needR wLB) fun _ => mapR (rowL wRB (sepR fieldR)) fun l => (⟨s, d, h0, l, q⟩ : Su5)) := fun d =>
    nz_bind (ru_need (by decide)) (nz_need (by decide)) fun _ => nz_bind ru_great nz_great fun _ => nz_bind (ru_need (by decide)) (nz_need (by decide)) fun _ => nz_map _ (nz_rowL (by decide) (ru_sep ru_field.any) (nz_sep nz_field))
  exact nz_opt (by decide) (hr true) (hr false)
theorem nz_enum (q : Nat) : NZ (enumR q) := nz_bind ru_great nz_great fun _ => nz_bind (ru_need (by decide)) (nz_need (by decide)) fun _ => nz_map _ (nz_rowL (by decide) (ru_sep ru_variant) (nz_sep nz_variant))
theorem nz_fn (q : Nat) : NZ (fnR q) := nz_bind ru_small nz_small fun _ => nz_bind (ru_need (by decide)) (nz_need (by decide)) fun _ => nz_bind (ru_rowL (by decide) (ru_sep ru_field.any)) (nz_rowL (by decide) (ru_sep ru_field.any) (nz_sep nz_field)) fun _ => nz_map _ (nz_block 60)
theorem nz_item : NZ itemR := nz_at fun q => nz_opt (by decide) (nz_map _ (nz_enum q)) (nz_opt (by decide) (nz_map _ (nz_fn q)) (nz_map _ nz_struct))
theorem nz_items : ∀ (k : Nat) (l : List Tok) (e : Int) (p : Nat), l.length ≤ k → Good l → itemsR k l = .no e p → e ≠ 0
  | 0, l, _, _, hk, hg, _ => absurd hg.pos (by omega)
  | k + 1, l, e, p, hk, hg, h1 => by
    rw [items_eq] at h1
    unfold isR at h1
    split at h1
    · cases h1
    · unfold bindR at h1
      cases h2 : itemR l with
      | no e' p' => rw [h2] at h1; cases h1; exact nz_item _ _ _ hg h2
      | ok a m =>
        rw [h2] at h1
        simp only at h1
        unfold mapR bindR at h1
        cases h3 : itemsR k m with
        | no e' p' =>
          rw [h3] at h1
          cases h1
          have hlt := ru_item.con _ _ _ h2
          exact nz_items k m e p (by omega) (ru_item.rest hg h2).1 h3
        | ok _ _ => rw [h3] at h1; cases h1
theorem good_end (ts : List Tok) (s : ByteArray) : Good (ts ++ [endTok s]) := ⟨ts, endTok s, rfl, dead_end s⟩
theorem parse_nz {s : ByteArray} {e : Int} {p : Nat} (h : parseR s = .no e p) : e ≠ 0 := by
  unfold parseR at h
  cases hl : lexL (bs s) with
  | bad er q => rw [hl] at h; cases h; exact lexL_bad hl
  | good ts => rw [hl] at h; exact nz_items _ _ _ _ (Nat.le_refl _) (good_end ts s) h
end Go.Proofs.YtggdpgaedmegbaaGreatDoor

namespace Go.Proofs.YtggdpgaedmegbaaGreatDoor
open Go.RowKit

theorem nlT_app (a b : List Tok) : nlT (a ++ b) = nlT a ++ nlT b := List.flatMap_append ..
theorem nlT_cons (t : Tok) (a : List Tok) : nlT (t :: a) = 10 :: (t.text ++ nlT a) := by rw [nlT, List.flatMap_cons]; rfl
theorem nl_len {p : Nat} {l : List UInt8} {ts : List Tok} (h : lexT p l = .good ts) : (nlT ts).length ≤ 2 * l.length := by
  rcases lexT_good h with ⟨rfl, _⟩ | ⟨t, us, rfl, h0, h1, h2, _, _, _, h3⟩
  · simp [nlT]
  · have ih := nl_len h3
    simp only [List.length_drop] at ih
    have h4 : (nlT (t :: us)).length = 1 + (t.text.length + (nlT us).length) := by rw [nlT_cons, List.length_cons, List.length_append]; omega
    omega
termination_by l.length
decreasing_by simp only [List.length_drop]; omega

/-- with a newline ahead of the end, too -/
theorem lexT_nlE {ts : List Tok} (h : ∀ t ∈ ts, OneT t) {e : Tok} (he : e.text = []) : lexT 0 (nlT (ts ++ [e])) = .good (renum 0 ts) := by
  rw [nlT_app, nlT_cons, he]
  show lexT 0 (nlT ts ++ 10 :: []) = _
  rw [lexT_glue, lexT_nl ts 0 h]
  simp only
  rw [show lexT (0 + (nlT ts).length + 1) [] = .good [] by rw [lexT]; rfl]
  show Res.good _ = _
  rw [List.append_nil]
theorem renum_alike : ∀ (p : Nat) (ts : List Tok), Alike ts (renum p ts)
  | _, [] => .nil
  | p, t :: ts => .cons ⟨rfl, rfl, rfl⟩ (renum_alike _ ts)
theorem renum_pos : ∀ (ts : List Tok) (p i : Nat) (y : List Tok), i < ts.length → (hd ((renum p ts ++ y).drop i)).pos = p + (nlT (ts.take i)).length + 1
  | [], _, _, _, h => absurd h (Nat.not_lt_zero _)
  | t :: ts, p, 0, y, _ => rfl
  | t :: ts, p, i + 1, y, h => by
    show (hd ((renum (p + 1 + t.text.length) ts ++ y).drop i)).pos = _
    rw [renum_pos ts _ i y (Nat.lt_of_succ_lt_succ h), List.take_succ_cons, nlT_cons, List.length_cons, List.length_append]
    omega

/-- what is read of a text, and of its tokens with a newline ahead of each -/
theorem blanks_plain {s : ByteArray} (hs : s.size ≤ 3000) {ts : List Tok} (hl : lexL (bs s) = .good ts) {t : ByteArray} (ht : bs t = nlT (ts ++ [endTok s])) :
    lexL (bs t) = .good (renum 0 ts) ∧
    match parseR s, parseR t with
    | .ok x _, .ok y _ => npSo x = npSo y
    | .no e p, .no f q => e = f ∧ ∃ i, i < ts.length + 1 ∧ p = (hd ((ts ++ [endTok s]).drop i)).pos ∧ q = (nlT ((ts ++ [endTok s]).take i)).length + 1
    | _, _ => False := by
  obtain ⟨h1, h2⟩ := lexL_good hl
  have hone := lexT_one _ 0 (bs s) ts (Nat.le_refl _) h2
  have hlen := nl_len h2
  rw [bs_size] at hlen
  have hT : (nlT (ts ++ [endTok s])).length = (nlT ts).length + 1 := by rw [nlT_app, List.length_append]; rfl
  have h4 : lexL (bs t) = .good (renum 0 ts) := by
    unfold lexL
    rw [if_pos (by rw [ht, hT]; omega), ht]
    exact lexT_nlE hone rfl
  refine ⟨h4, ?_⟩
  have hA : Alike (ts ++ [endTok s]) (renum 0 ts ++ [endTok t]) := (renum_alike 0 ts).app (.cons ⟨rfl, rfl, rfl⟩ .nil)
  have hz := sim_source _ _ hA ⟨ts, endTok s, rfl, dead_end s⟩
  have e1 : parseR s = sourceR (ts ++ [endTok s]) := by unfold parseR; rw [hl]
  have e2 : parseR t = sourceR (renum 0 ts ++ [endTok t]) := by unfold parseR; rw [h4]
  rw [← e1, ← e2] at hz
  cases hp : parseR s with
  | ok x r =>
    rw [hp] at hz
    cases hq : parseR t with
    | ok y r2 => rw [hq] at hz; exact hz.1
    | no f q => rw [hq] at hz; exact hz
  | no e p =>
    rw [hp] at hz
    cases hq : parseR t with
    | ok y r2 => rw [hq] at hz; exact hz
    | no f q =>
      rw [hq] at hz
      obtain ⟨h5, i, h6, h7, h8⟩ := hz
      rw [List.length_append, List.length_singleton] at h6
      refine ⟨h5, i, h6, h7, ?_⟩
      rw [h8]
      by_cases hi : i < ts.length
      · rw [renum_pos ts 0 i _ hi, List.take_append_of_le_length (by omega)]; omega
      · obtain rfl : i = ts.length := by omega
        rw [show (renum 0 ts ++ [endTok t]).drop ts.length = [endTok t] by rw [← renum_len 0 ts]; exact List.drop_left .., List.take_left]
        show t.size = _
        rw [← bs_size, ht, hT]
end Go.Proofs.YtggdpgaedmegbaaGreatDoor

namespace Go.Proofs.YtggdpgaedmegbaaGreatDoor
open Go.RowKit

theorem eqL_map {α β : Type} {g : α → α → Bool} {F : α → β} (h : ∀ x y, F x = F y → g x y = true) : ∀ {a b : List α}, a.map F = b.map F → eqL g a b = true
  | [], [], _ => rfl
  | [], _ :: _, e => by cases e
  | _ :: _, [], e => by cases e
  | x :: a, y :: b, e => by
    rw [List.map_cons, List.map_cons, List.cons.injEq] at e
    rw [eqL, h x y e.1, eqL_map h e.2]; rfl
theorem step_refl : ∀ l : List ByteArray, eqL stepEq l l = true
  | [] => rfl
  | a :: l => by rw [eqL, step_refl l, stepEq, decide_eq_true rfl]; rfl
theorem pl_er {a b : Pl5} (h : erPl a = erPl b) : plEq a b = true := by
  cases a; cases b
  simp only [erPl, Pl5.mk.injEq, true_and] at h
  obtain ⟨rfl, rfl⟩ := h
  unfold plEq
  simp [step_refl]
mutual
theorem ty_er : ∀ (a b : Ty5), erTy a = erTy b → tyEq a b = true
  | .mk k nm _ l, .mk k' nm' _ l', e => by
    rw [erTy, erTy, Ty5.mk.injEq] at e
    obtain ⟨rfl, rfl, -, e⟩ := e
    rw [tyEq, tys_er l l' e]; simp
theorem tys_er : ∀ (a b : List Ty5), erTys a = erTys b → tysEq a b = true
  | [], [], _ => by rw [tysEq]
  | [], _ :: _, e => by rw [erTys, erTys] at e; cases e
  | _ :: _, [], e => by rw [erTys, erTys] at e; cases e
  | x :: a, y :: b, e => by
    rw [erTys, erTys, List.cons.injEq] at e
    rw [tysEq, ty_er x y e.1, tys_er a b e.2]; rfl
end
theorem op_er {a b : Op5} (h : erOp a = erOp b) : opEq a b = true := by
  cases a; cases b
  simp only [erOp, Op5.mk.injEq] at h
  obtain ⟨rfl, rfl, h⟩ := h
  unfold opEq
  simp [pl_er h]
theorem rv_er {a b : Rv5} (h : erRv a = erRv b) : rvEq a b = true := by
  have h1 := congrArg Rv5.k h; have h2 := congrArg Rv5.nm h; have h3 := congrArg Rv5.vr h; have h4 := congrArg Rv5.p h; have h5 := congrArg Rv5.ops h
  simp only [erRv] at h1 h2 h3 h4 h5
  unfold rvEq
  rw [eqL_map (F := erOp) (fun _ _ e => op_er e) h5, pl_er h4]
  simp [h1, h2, h3]
mutual
theorem st_er : ∀ (a b : St5), npSt (erSt a) = npSt (erSt b) → stEq a b = true
  | .mk k _ nm ty p rv op _ th _ el _ ar, .mk k' _ nm' ty' p' rv' op' _ th' _ el' _ ar', e => by
    rw [erSt, erSt, npSt, npSt, St5.mk.injEq] at e
    obtain ⟨rfl, -, rfl, e1, e2, e3, e4, -, e5, -, e6, -, e7⟩ := e
    rw [stEq, ty_er _ _ e1, pl_er e2, rv_er e3, op_er e4, sts_er th th' e5, sts_er el el' e6, ars_er ar ar' e7]; simp
theorem sts_er : ∀ (a b : List St5), npSts (erSts a) = npSts (erSts b) → stsEq a b = true
  | [], [], _ => by rw [stsEq]
  | [], _ :: _, e => by rw [erSts, erSts, npSts, npSts] at e; cases e
  | _ :: _, [], e => by rw [erSts, erSts, npSts, npSts] at e; cases e
  | x :: a, y :: b, e => by
    rw [erSts, erSts, npSts, npSts, List.cons.injEq] at e
    rw [stsEq, st_er x y e.1, sts_er a b e.2]; rfl
theorem ar_er : ∀ (a b : Ar5), npAr (erAr a) = npAr (erAr b) → arEq a b = true
  | .mk vr bi _ body, .mk vr' bi' _ body', e => by
    rw [erAr, erAr, npAr, npAr, Ar5.mk.injEq] at e
    obtain ⟨rfl, rfl, -, e⟩ := e
    rw [arEq, sts_er body body' e]; simp
theorem ars_er : ∀ (a b : List Ar5), npArs (erArs a) = npArs (erArs b) → arsEq a b = true
  | [], [], _ => by rw [arsEq]
  | [], _ :: _, e => by rw [erArs, erArs, npArs, npArs] at e; cases e
  | _ :: _, [], e => by rw [erArs, erArs, npArs, npArs] at e; cases e
  | x :: a, y :: b, e => by
    rw [erArs, erArs, npArs, npArs, List.cons.injEq] at e
    rw [arsEq, ar_er x y e.1, ars_er a b e.2]; rfl
end
theorem fd_er {a b : Fd5} (h : erFd a = erFd b) : fdEq a b = true := by
  have h1 := congrArg Fd5.nm h; have h2 := congrArg Fd5.ty h
  simp only [erFd] at h1 h2
  unfold fdEq
  rw [ty_er _ _ h2]; simp [h1]
theorem su_er {a b : Su5} (h : npSu (erSu a) = npSu (erSu b)) : suEq a b = true := by
  have h1 := congrArg Su5.nm h; have h2 := congrArg Su5.drop h; have h3 := congrArg Su5.fields h
  simp only [erSu, npSu] at h1 h2 h3
  unfold suEq
  rw [eqL_map (F := erFd) (fun _ _ e => fd_er e) h3]; simp [h1, h2]
theorem en_er {a b : En5} (h : npEn (erEn a) = npEn (erEn b)) : enEq a b = true := by
  have h1 := congrArg En5.nm h; have h3 := congrArg En5.vars h
  simp only [erEn, npEn] at h1 h3
  unfold enEq
  rw [eqL_map (F := erFd) (fun _ _ e => fd_er e) h3]; simp [h1]
theorem fn_er {a b : Fn5} (h : npFn (erFn a) = npFn (erFn b)) : fnEq a b = true := by
  have h1 := congrArg Fn5.nm h; have h3 := congrArg Fn5.params h; have h4 := congrArg Fn5.body h
  simp only [erFn, npFn, List.map_map] at h1 h3 h4
  unfold fnEq
  rw [eqL_map (F := erFd) (fun _ _ e => fd_er e) h3, eqL_map (F := npSt ∘ erSt) (fun _ _ e => st_er _ _ e) h4]; simp [h1]
theorem so_er {a b : So5} (h : npSo (erSo a) = npSo (erSo b)) : soEq a b = true := by
  have h1 := congrArg So5.structs h; have h2 := congrArg So5.enums h; have h3 := congrArg So5.fns h
  simp only [erSo, npSo, List.map_map] at h1 h2 h3
  unfold soEq
  rw [eqL_map (F := npSu ∘ erSu) (fun _ _ e => su_er e) h1, eqL_map (F := npEn ∘ erEn) (fun _ _ e => en_er e) h2, eqL_map (F := npFn ∘ erFn) (fun _ _ e => fn_er e) h3]; rfl
end Go.Proofs.YtggdpgaedmegbaaGreatDoor
