/-
  A fault's number is never nought. Plain lemmas on the model; no conditions.
-/
import Derived.Test.YthmiapolpohklaaGreatDoorJPWorks
namespace Go.Proofs.YthmiapolpohklaaGreatDoor

def NZ {α : Type} (R : Rd α) : Prop := ∀ l e p, Good l → R l = .no e p → e ≠ 0
theorem nz_pure {α : Type} (a : α) : NZ (pureR a) := fun _ _ _ _ h => by cases h
theorem nz_fail {α : Type} {e : Int} (he : e ≠ 0) : NZ (failR (α := α) e) := fun _ _ _ _ h => by cases h; exact he
theorem nz_one (f : Tok → Bool) : NZ (oneR f) := fun l e p _ h => by
  unfold oneR at h
  split at h
  · cases h
  · cases h; decide
theorem nz_bind {α β : Type} {c s : Bool} {R : Rd α} {F : α → Rd β} (hr : Ru1 c s R) (h : NZ R) (hF : ∀ a, NZ (F a)) : NZ (bindR R F) := fun l e p hg h1 => by
  unfold bindR at h1
  cases h2 : R l with
  | no e' p' => rw [h2] at h1; cases h1; exact h _ _ _ hg h2
  | ok a m => rw [h2] at h1; exact hF a m e p (hr.rest hg h2).1 h1
theorem nz_map {α β : Type} {R : Rd α} (f : α → β) (h : NZ R) : NZ (mapR R f) := fun l e p hg h1 => by
  unfold mapR bindR at h1
  cases h2 : R l with
  | no e' p' => rw [h2] at h1; cases h1; exact h _ _ _ hg h2
  | ok a m => rw [h2] at h1; cases h1
theorem nz_opt {α : Type} {w : List UInt8} {y n : Rd α} (hw : w ≠ []) (hy : NZ y) (hn : NZ n) : NZ (optR w y n) := fun l e p hg h => by
  unfold optR at h
  by_cases ht : (hd l).text = w
  · rw [if_pos ht] at h; exact hy _ _ _ (good_tail hg fun d => hw (ht ▸ d.2)).1 h
  · rw [if_neg ht] at h; exact hn _ _ _ hg h
theorem nz_is {α : Type} {f : Tok → Bool} {y n : Rd α} (hy : NZ y) (hn : NZ n) : NZ (isR f y n) := fun l e p hg h => by
  unfold isR at h
  split at h
  · exact hy _ _ _ hg h
  · exact hn _ _ _ hg h
theorem nz_at {α : Type} {F : Nat → Rd α} (h : ∀ q, NZ (F q)) : NZ (atR F) := fun l e p hg h1 => h _ _ _ _ hg h1
theorem nz_small : NZ smallR := nz_map _ (nz_one _)
theorem nz_great : NZ greatR := nz_map _ (nz_one _)
theorem nz_number : NZ numberR := nz_map _ (nz_one _)
theorem nz_need {w : List UInt8} (hw : w ≠ []) : NZ (needR w) := nz_opt hw (nz_pure _) (nz_fail (by decide))
theorem nz_ty : ∀ n, NZ (tyR n)
  | 0 => nz_fail (by decide)
  | n + 1 => nz_opt (by decide) (nz_pure _) (nz_opt (by decide) (nz_map _ nz_small) (nz_opt (by decide) (nz_map _ (nz_ty n)) (nz_opt (by decide) (nz_opt (by decide) (nz_map _ (nz_ty n)) (nz_map _ (nz_ty n))) (nz_map _ nz_great))))
theorem nz_field : NZ fieldR := nz_bind ru_small nz_small fun _ => nz_bind (ru_need (by decide)) (nz_need (by decide)) fun _ => nz_map _ (nz_ty _)
theorem nz_variant : NZ variantR := nz_bind ru_great nz_great fun _ => nz_opt (by decide) (nz_bind (ru_ty 60) (nz_ty _) fun _ => nz_map _ (nz_need (by decide))) (nz_pure _)
theorem nz_row {α : Type} {w : List UInt8} (hw : w ≠ []) {f : Bool → Rd α} (hr : ∀ b, Ru1 false false (f b)) (h : ∀ b, NZ (f b)) : ∀ (k : Nat) (b : Bool) (l : List Tok) (e : Int) (p : Nat), l.length ≤ k → Good l → rowR w f k b l = .no e p → e ≠ 0
  | 0, _, l, _, _, hk, hg, _ => absurd hg.pos (by omega)
  | k + 1, b, l, e, p, hk, hg, h1 => by
    rw [rowR] at h1
    unfold optR at h1
    by_cases ht : (hd l).text = w
    · rw [if_pos ht] at h1; cases h1
    · rw [if_neg ht] at h1
      unfold bindR at h1
      cases h2 : f b l with
      | no e' p' => rw [h2] at h1; cases h1; exact h b _ _ _ hg h2
      | ok a m =>
        rw [h2] at h1
        simp only at h1
        unfold mapR bindR at h1
        cases h3 : rowR w f k false m with
        | no e' p' =>
          rw [h3] at h1
          cases h1
          have hlt := (hr b).con _ _ _ h2
          exact nz_row hw hr h k false m e p (by omega) ((hr b).rest hg h2).1 h3
        | ok _ _ => rw [h3] at h1; cases h1
theorem nz_rowL {α : Type} {w : List UInt8} (hw : w ≠ []) {f : Bool → Rd α} (hr : ∀ b, Ru1 false false (f b)) (h : ∀ b, NZ (f b)) : NZ (rowL w f) := fun l e p hg h1 => nz_row hw hr h _ _ l e p (Nat.le_refl _) hg h1
theorem nz_sep {α : Type} {R : Rd α} (h : NZ R) (b : Bool) : NZ (sepR R b) := by
  unfold sepR
  cases b
  · exact nz_bind (ru_need (by decide)) (nz_need (by decide)) fun _ => h
  · exact h
theorem nz_step : NZ stepR := nz_opt (by decide) (nz_pure _) nz_small
theorem nz_path : ∀ (k : Nat) (l : List Tok) (e : Int) (p : Nat), l.length ≤ k → Good l → pathR k l = .no e p → e ≠ 0
  | 0, l, _, _, hk, hg, _ => absurd hg.pos (by omega)
  | k + 1, l, e, p, hk, hg, h1 => by
    rw [pathR] at h1
    unfold optR at h1
    by_cases ht : (hd l).text = wDot
    · rw [if_pos ht] at h1
      have h0 := good_tail hg fun d => (show wDot ≠ [] by decide) (ht ▸ d.2)
      unfold bindR at h1
      cases h2 : stepR l.tail with
      | no e' p' => rw [h2] at h1; cases h1; exact nz_step _ _ _ h0.1 h2
      | ok a m =>
        rw [h2] at h1
        simp only at h1
        unfold mapR bindR at h1
        cases h3 : pathR k m with
        | no e' p' =>
          rw [h3] at h1
          cases h1
          have hlt := ru_step.con _ _ _ h2
          exact nz_path k m e p (by rw [List.length_tail] at hlt; omega) (ru_step.rest h0.1 h2).1 h3
        | ok _ _ => rw [h3] at h1; cases h1
    · rw [if_neg ht] at h1; cases h1
theorem nz_place : NZ placeR := nz_bind ru_small nz_small fun _ => nz_map _ fun l e p hg h => nz_path _ l e p (Nat.le_refl _) hg h
theorem nz_alone : NZ aloneR := nz_map _ nz_small
theorem nz_oper : NZ operR := nz_opt (by decide) (nz_map _ nz_number) (nz_is (nz_map _ nz_number) (nz_map _ nz_place))
theorem nz_args : NZ argsR := nz_bind (ru_need (by decide)) (nz_need (by decide)) fun _ => nz_rowL (by decide) (ru_sep ru_oper) (nz_sep nz_oper)
theorem nz_made : NZ madeR := nz_bind ru_great nz_great fun _ => nz_opt (by decide) (nz_bind ru_great nz_great fun _ => nz_opt (by decide) (nz_bind ru_oper nz_oper fun _ => nz_map _ (nz_need (by decide))) (nz_pure _)) (nz_map _ nz_args)
theorem nz_reckoned : NZ reckonedR := nz_bind ru_oper nz_oper fun _ => nz_opt (by decide) (nz_map _ nz_oper) (nz_opt (by decide) (nz_map _ nz_oper) (nz_opt (by decide) (nz_map _ nz_oper) (nz_opt (by decide) (nz_map _ nz_oper) (nz_opt (by decide) (nz_map _ nz_oper) (nz_pure _)))))
theorem nz_set : NZ setR := nz_opt (by decide) (nz_opt (by decide) (nz_map _ nz_place) (nz_map _ nz_place)) (nz_opt (by decide) (nz_map _ nz_oper) (nz_opt (by decide) (nz_map _ nz_alone)
  (nz_opt (by decide) (nz_bind ru_small nz_small fun _ => nz_map _ nz_args) (nz_opt (by decide) (nz_map _ nz_alone) (nz_opt (by decide) (nz_map _ nz_alone) (nz_opt (by decide) (nz_map _ nz_oper) (nz_is nz_made nz_reckoned)))))))
theorem nz_isSet : NZ isSetR := nz_bind (ru_need (by decide)) (nz_need (by decide)) fun _ => nz_set
theorem nz_arm {R : Rd (List St5)} (hr : Ru1 true true R) (h : NZ R) : NZ (armR R) := nz_bind ru_great nz_great fun _ => by
  rw [bind_opt, bind_bind, bind_pure]
  refine nz_opt (by decide) (nz_bind ru_small nz_small fun _ => ?_) (nz_bind (ru_need (by decide)) (nz_need (by decide)) fun _ => nz_map _ h)
  rw [bind_map]
  exact nz_bind (ru_need (by decide)) (nz_need (by decide)) fun _ => nz_bind (ru_need (by decide)) (nz_need (by decide)) fun _ => nz_map _ h
theorem nz_plain (q : Int) : NZ (plainR q) := nz_opt (by decide) (nz_bind ru_field nz_field fun _ => nz_map _ nz_isSet) (nz_opt (by decide) (nz_map _ nz_oper) (nz_opt (by decide) (nz_map _ nz_oper) (nz_opt (by decide) (nz_map _ nz_oper) (nz_opt (by decide) (nz_map _ nz_alone)
  (nz_bind ru_place nz_place fun _ => nz_map _ nz_isSet)))))
theorem nz_stmt {R : Rd (List St5)} (hr : Ru1 true true R) (h : NZ R) : NZ (stmtR R) := nz_at fun q =>
  nz_opt (by decide) (nz_bind ru_oper nz_oper fun _ => nz_bind hr h fun _ => nz_opt (by decide) (nz_map _ h) (nz_pure _))
  (nz_opt (by decide) (nz_bind ru_oper nz_oper fun _ => nz_map _ h)
  (nz_opt (by decide) (nz_bind ru_alone nz_alone fun _ => nz_bind (ru_need (by decide)) (nz_need (by decide)) fun _ => nz_map _ (nz_rowL (by decide) (fun _ => (ru_arm hr).any) fun _ => nz_arm hr h))
  (nz_bind (ru_plain q) (nz_plain q) fun _ => nz_map _ (nz_need (by decide)))))
theorem nz_block : ∀ n, NZ (blockD n)
  | 0 => nz_is (nz_fail (by decide)) (nz_fail (by decide))
  | n + 1 => nz_bind (ru_need (by decide)) (nz_need (by decide)) fun _ => nz_rowL (by decide) (fun _ => ru_stmt (ru_block n)) fun _ => nz_stmt (ru_block n) (nz_block n)
theorem nz_struct : NZ structR := nz_at fun q => by
  rw [bind_opt, bind_pure, bind_pure]
  have hr : ∀ d : Bool, NZ (bindR (needR wStruct) fun _ => bindR greatR fun s => bindR (needR wLB) fun _ => mapR (rowL wRB (sepR fieldR)) fun l => (⟨s, d, h0, l, q⟩ : Su5)) := fun d =>
    nz_bind (ru_need (by decide)) (nz_need (by decide)) fun _ => nz_bind ru_great nz_great fun _ => nz_bind (ru_need (by decide)) (nz_need (by decide)) fun _ => nz_map _ (nz_rowL (by decide) (ru_sep ru_field.any) (nz_sep nz_field))
  exact nz_opt (by decide) (hr true) (hr false)
theorem nz_enum (q : Nat) : NZ (enumR q) := nz_bind ru_great nz_great fun _ => nz_bind (ru_need (by decide)) (nz_need (by decide)) fun _ => nz_map _ (nz_rowL (by decide) (ru_sep ru_variant) (nz_sep nz_variant))
theorem nz_fn (q : Nat) : NZ (fnR q) := nz_bind ru_small nz_small fun _ => nz_bind (ru_need (by decide)) (nz_need (by decide)) fun _ => nz_bind (ru_rowL (by decide) (ru_sep ru_field.any)) (nz_rowL (by decide) (ru_sep ru_field.any) (nz_sep nz_field)) fun _ => nz_map _ (nz_block 60)
theorem nz_item : NZ itemR := nz_at fun q => nz_opt (by decide) (nz_map _ (nz_enum q)) (nz_opt (by decide) (nz_map _ (nz_fn q)) (nz_map _ nz_struct))
theorem nz_items : ∀ (k : Nat) (l : List Tok) (e : Int) (p : Nat), l.length ≤ k → Good l → itemsR k l = .no e p → e ≠ 0
  | 0, l, _, _, hk, hg, _ => absurd hg.pos (by omega)
  | k + 1, l, e, p, hk, hg, h1 => by
    rw [items_eq] at h1
    unfold isR at h1
    split at h1
    · cases h1
    · unfold bindR at h1
      cases h2 : itemR l with
      | no e' p' => rw [h2] at h1; cases h1; exact nz_item _ _ _ hg h2
      | ok a m =>
        rw [h2] at h1
        simp only at h1
        unfold mapR bindR at h1
        cases h3 : itemsR k m with
        | no e' p' =>
          rw [h3] at h1
          cases h1
          have hlt := ru_item.con _ _ _ h2
          exact nz_items k m e p (by omega) (ru_item.rest hg h2).1 h3
        | ok _ _ => rw [h3] at h1; cases h1
theorem good_end (ts : List Tok) (s : ByteArray) : Good (ts ++ [endTok s]) := ⟨ts, endTok s, rfl, dead_end s⟩
theorem parse_nz {s : ByteArray} {e : Int} {p : Nat} (h : parseR s = .no e p) : e ≠ 0 := by
  unfold parseR at h
  cases hl : lexL (bs s) with
  | bad er q => rw [hl] at h; cases h; exact lexL_bad hl
  | good ts => rw [hl] at h; exact nz_items _ _ _ _ (Nat.le_refl _) (good_end ts s) h
end Go.Proofs.YthmiapolpohklaaGreatDoor
