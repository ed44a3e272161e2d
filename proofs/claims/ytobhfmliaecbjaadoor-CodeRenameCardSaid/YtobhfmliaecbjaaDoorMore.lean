/-
  A program with more behind each function's last instruction, and a function more, may be run; so may a function that calls nothing, alone. No conditions: lemmas.
-/
import Derived.Test.YtobhfmliaecbjaaDoorValid
namespace Go.Proofs.YtobhfmliaecbjaaDoor
open Go.RowKit

def cstI (k : Nat) : In := ⟨0, k, k, 0, []⟩
def tailI (last : In) (n : Nat) : List In := (List.range n).flatMap fun k => [cstI k, last]
def endF : List In := [⟨29, 0, 0, 0, []⟩]

theorem tailI_len (last : In) (n : Nat) : (tailI last n).length = n * 2 := by
  induction n with
  | zero => rfl
  | succ n ih => rw [tailI, List.range_succ, List.flatMap_append, List.length_append]; show (tailI last n).length + _ = _; rw [ih]; simp; omega
theorem tailI_mem {last x : In} {n : Nat} (h : x ∈ tailI last n) : x = last ∨ ∃ k, k < n ∧ x = cstI k := by
  obtain ⟨k, hk, hx⟩ := List.mem_flatMap.1 h
  simp at hx hk
  rcases hx with hx | hx
  · exact .inr ⟨k, hk, hx⟩
  · exact .inl hx
theorem tailI_last {last : In} {n : Nat} : (tailI last (n + 1))[n * 2 + 1]? = some last := by
  rw [tailI, List.range_succ, List.flatMap_append, List.getElem?_append_right (by show (tailI last n).length ≤ _; rw [tailI_len]; omega)]
  show _[_ - (tailI last n).length]? = _
  rw [tailI_len, show n * 2 + 1 - n * 2 = 1 from by omega]
  rfl

theorem isB_more {ks : List Int} {n k : Int} (h : isB ks n k = true) : isB (ks ++ [0]) n k = true := by
  simp only [isB, Bool.and_eq_true, below_iff, beq_iff_eq, List.getD_eq_getElem?_getD] at h ⊢
  obtain ⟨⟨h0, h1⟩, h2⟩ := h
  refine ⟨⟨h0, by rw [List.length_append, List.length_singleton]; omega⟩, ?_⟩
  rw [List.getElem?_append_left (by omega)]
  exact h2
theorem setK_more {ks : List Int} {i k : Int} (h : below i ks.length = true) : setK (ks ++ [0]) i k = setK ks i k ++ [0] := by
  obtain ⟨h0, h1⟩ := below_iff.1 h
  rw [setK, setK, if_pos h, if_pos (below_iff.2 ⟨h0, by rw [List.length_append, List.length_singleton]; omega⟩), List.set_append_left _ _ (by omega)]
theorem markAll_more (l : List Int) (k : Int) : ∀ ks : List Int, (∀ i ∈ l, below i ks.length = true) → markAll (ks ++ [0]) l k = markAll ks l k ++ [0] := by
  induction l with
  | nil => intro ks _; rfl
  | cons i l ih =>
    intro ks h
    show markAll (setK (ks ++ [0]) i k) l k = markAll (setK ks i k) l k ++ [0]
    rw [setK_more (h i (by simp)), ih _ (fun j hj => by rw [setK_len]; exact h j (by simp [hj]))]
theorem kindsL_more {p : Pg} {fs : List (List In)} (hl : fs.length = p.fs.length + 1) (h : ∀ c ∈ p.cs, coB (kindsL p) c = true) : kindsL ⟨fs, p.cs⟩ = kindsL p ++ [0] := by
  have h1 : ∀ c ∈ p.cs, below c.re p.fs.length = true ∧ below c.ca p.fs.length = true := fun c hc => by
    have := h c hc
    simp only [coB, isB, Bool.and_eq_true, kindsL_len] at this
    exact ⟨this.1.1, this.2.1.1⟩
  show markAll (markAll (List.replicate fs.length 0) (p.cs.map Cr.ca) 2) (p.cs.map Cr.re) 1 = _
  rw [hl, List.replicate_succ', markAll_more _ _ _ ?_, markAll_more _ _ _ ?_]
  · rfl
  · intro i hi
    obtain ⟨c, hc, rfl⟩ := List.mem_map.1 hi
    rw [markAll_len, List.length_replicate]
    exact (h1 c hc).1
  · intro i hi
    obtain ⟨c, hc, rfl⟩ := List.mem_map.1 hi
    rw [List.length_replicate]
    exact (h1 c hc).2
theorem fits_more {nc : Nat} {ks : List Int} {n f : Int} (h : fitsB nc ks n f = true) : fitsB nc (ks ++ [0]) n f = true := by
  unfold fitsB at h ⊢
  repeat' split at h
  all_goals first | (simp_all; done) | skip
  all_goals (rw [if_neg (by omega), if_neg (by omega), if_neg (by omega), if_neg (by omega), if_neg (by omega), if_pos (by assumption)]; exact isB_more h)
theorem instr_more {nc : Nat} {ks : List Int} {k n m : Int} {x : In} (hm : n ≤ m) (h : instrB nc ks k n x = true) : instrB nc (ks ++ [0]) k m x = true := by
  rw [instrB_iff] at h ⊢
  obtain ⟨a, b, c, d, e, f, g⟩ := h
  exact ⟨a, b, fits_more c, fits_more d, fits_more e, fun l hl => ⟨(f l hl).1, by have := (f l hl).2; omega⟩, g⟩
theorem cst_ok {nc : Nat} {ks : List Int} {k n : Int} {i : Nat} (hi : i < 5) : instrB nc ks k n (cstI i) = true := by
  rw [instrB_iff]
  have e : shp (cstI i).op = ⟨2, 3, 0, 0⟩ := rfl
  rw [e]
  refine ⟨rfl, rfl, ?_, rfl, rfl, fun l hl => by simp [cstI] at hl, rfl⟩
  show fitsB nc ks i 2 = true
  unfold fitsB
  rw [if_neg (by decide), if_pos (by decide), below_iff]
  omega
theorem un_more {f g : List In} {z : Nat → Bool} {r i : Nat} (hF : Fit f) (h0 : 0 < f.length) (h : Un (f ++ g) z r i) : i < f.length ∧ Un f z r i := by
  induction h with
  | start hz => exact ⟨h0, .start hz⟩
  | step _ hx hw hg ih =>
    obtain ⟨hi, hu⟩ := ih
    rw [List.getElem?_append_left hi] at hx
    exact ⟨hF.goes hx hg, .step hu hx hw hg⟩
theorem fn_more {nc : Nat} {ks : List Int} {k : Int} {f : List In} {last : In} {n : Nat} (h : FnOk nc ks k f) (hl : f[f.length - 1]? = some last) (hn : n ≤ 5) (hs : f.length ≤ 60000) : FnOk nc (ks ++ [0]) k (f ++ tailI last n) := by
  have hF := Fit.of h.ins h.last
  have hle : ((f.length : Nat) : Int) ≤ (f ++ tailI last n).length := by rw [List.length_append]; omega
  refine ⟨by rw [List.length_append]; have := h.pos; omega, by rw [List.length_append, tailI_len]; omega, fun x hx => ?_, fun x hx => ?_, fun i x r hx hr hu => ?_⟩
  · cases n with
    | zero => rw [show tailI last 0 = [] from rfl, List.append_nil] at hx; exact h.last x hx
    | succ n =>
      have hp := h.pos
      rw [List.length_append, tailI_len, List.getElem?_append_right (by omega), show f.length + (n + 1) * 2 - 1 - f.length = n * 2 + 1 from by omega, tailI_last] at hx
      cases hx
      exact h.last _ hl
  · rcases List.mem_append.1 hx with h1 | h1
    · exact instr_more hle (h.ins x h1)
    · rcases tailI_mem h1 with rfl | ⟨j, hj, rfl⟩
      · exact instr_more hle (h.ins _ (List.mem_of_getElem? hl))
      · exact cst_ok (by omega)
  · obtain ⟨hi, hu'⟩ := un_more hF h.pos hu
    rw [List.getElem?_append_left hi] at hx
    exact h.ahead i x r hx hr hu'
theorem end_ok {nc : Nat} {ks : List Int} : FnOk nc ks 0 endF := by
  refine ⟨by decide, by decide, fun x hx => ?_, fun x hx => ?_, fun i x r hx hr _ => ?_⟩
  · simp [endF] at hx; subst hx; rfl
  · simp [endF] at hx; subst hx; rfl
  · have hm := List.mem_of_getElem? hx
    simp [endF] at hm
    subst hm
    have e : readsL (⟨29, 0, 0, 0, []⟩ : In) = [] := rfl
    rw [e] at hr
    cases hr
/-- each function with more behind it, and one function more -/
theorem pg_more {p : Pg} {gs : List (List In)} {n : Nat} (h : PgOk p) (hn : n ≤ 5) (hfs : p.fs.length ≤ 60000) (hf : ∀ f ∈ p.fs, f.length ≤ 60000) (hl : gs.length = p.fs.length)
    (hg : ∀ (i : Nat) (f g : List In), p.fs[i]? = some f → gs[i]? = some g → ∃ last, f[f.length - 1]? = some last ∧ g = f ++ tailI last n) : PgOk ⟨gs ++ [endF], p.cs⟩ := by
  have hk : kindsL ⟨gs ++ [endF], p.cs⟩ = kindsL p ++ [0] := kindsL_more (by simp [hl]) h.co
  refine ⟨by show (gs ++ [endF]).length ≤ _; simp [hl]; omega, h.cs, fun c hc => ?_, fun i g hi => ?_⟩
  · rw [hk]
    have := h.co c hc
    simp only [coB, Bool.and_eq_true] at this ⊢
    exact ⟨isB_more this.1, isB_more this.2.1, this.2.2⟩
  · rw [hk]
    show FnOk p.cs.length _ _ g
    replace hi : (gs ++ [endF])[i]? = some g := hi
    by_cases hil : i < gs.length
    · rw [List.getElem?_append_left hil] at hi
      obtain ⟨f, hfi⟩ : ∃ f, p.fs[i]? = some f := ⟨_, List.getElem?_eq_getElem (by omega)⟩
      obtain ⟨last, hla, rfl⟩ := hg i f g hfi hi
      have e : (kindsL p ++ [0]).getD i 0 = (kindsL p).getD i 0 := by
        simp only [List.getD_eq_getElem?_getD]
        rw [List.getElem?_append_left (by rw [kindsL_len]; omega)]
      rw [e]
      exact fn_more (h.fn i f hfi) hla hn (hf f (List.mem_of_getElem? hfi))
    · rw [List.getElem?_append_right (by omega)] at hi
      have e0 : i - gs.length = 0 := by have := (List.getElem?_eq_some_iff.1 hi).1; simp at this; omega
      rw [e0] at hi
      simp at hi
      subst hi
      have e : (kindsL p ++ [0]).getD i 0 = 0 := by
        simp only [List.getD_eq_getElem?_getD]
        rw [List.getElem?_append_right (by rw [kindsL_len]; omega), kindsL_len, show i - p.fs.length = 0 from by omega]
        rfl
      rw [e]
      exact end_ok

/-- a function that calls nothing, alone -/
theorem tab_67 : ∀ k : Fin 30, k.val = 26 ∨ k.val = 22 ∨ (((tab.getD k.val ⟨0, 0, 0, 0⟩).f0 ≠ 6 ∧ (tab.getD k.val ⟨0, 0, 0, 0⟩).f0 ≠ 7) ∧ ((tab.getD k.val ⟨0, 0, 0, 0⟩).f1 ≠ 6 ∧ (tab.getD k.val ⟨0, 0, 0, 0⟩).f1 ≠ 7) ∧ ((tab.getD k.val ⟨0, 0, 0, 0⟩).f2 ≠ 6 ∧ (tab.getD k.val ⟨0, 0, 0, 0⟩).f2 ≠ 7)) := by decide
theorem fits_67 {nc mc : Nat} {ks ls : List Int} {n f : Int} (h6 : f ≠ 6) (h7 : f ≠ 7) (h : fitsB nc ks n f = true) : fitsB mc ls n f = true := by
  unfold fitsB at h ⊢
  rw [if_neg h6, if_neg h7] at h ⊢
  exact h
theorem pg_alone {nc : Nat} {ks : List Int} {f : List In} (h : FnOk nc ks 0 f) (hc : ∀ x ∈ f, x.op ≠ 26 ∧ x.op ≠ 22) : PgOk ⟨[f], []⟩ := by
  refine ⟨by show 1 ≤ 65536; omega, by show 0 ≤ 65536; omega, fun c hc => (by cases hc), fun i g hi => ?_⟩
  have hm := List.mem_of_getElem? hi
  simp at hm
  subst hm
  have hi0 : i = 0 := by have := (List.getElem?_eq_some_iff.1 hi).1; simp at this; omega
  subst hi0
  show FnOk 0 (kindsL ⟨[g], []⟩) 0 g
  refine ⟨h.pos, h.small, h.last, fun x hx => ?_, h.ahead⟩
  have h1 := h.ins x hx
  rw [instrB_iff] at h1 ⊢
  obtain ⟨a, b, c, d, e, r⟩ := h1
  have h01 : 0 ≤ x.op ∧ x.op < 30 := by simpa [known] using a
  have hop := hc x hx
  have hs : shp x.op = tab.getD x.op.toNat ⟨0, 0, 0, 0⟩ := by rw [shp, if_pos h01.1]
  have ht := tab_67 ⟨x.op.toNat, by omega⟩
  simp only at ht
  rw [← hs] at ht
  rcases ht with ht | ht | ⟨⟨t1, t2⟩, ⟨t3, t4⟩, t5, t6⟩
  · exact absurd (by omega) hop.1
  · exact absurd (by omega) hop.2
  · exact ⟨a, b, fits_67 t1 t2 c, fits_67 t3 t4 d, fits_67 t5 t6 e, r⟩
end Go.Proofs.YtobhfmliaecbjaaDoor
