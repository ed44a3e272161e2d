/-
  A program whose registers are turned round may be run just if it may be. No conditions: lemmas.
-/
import Derived.Test.YtobhfmliaecbjaaDoorMore
namespace Go.Proofs.YtobhfmliaecbjaaDoor
open Go.RowKit

def turn (n : Int) : Int := if 1 ≤ n ∧ n ≤ 15 then 16 - n else n
theorem turn_turn (n : Int) : turn (turn n) = n := by
  by_cases h : 1 ≤ n ∧ n ≤ 15
  · have e : turn n = 16 - n := if_pos h
    rw [e, turn, if_pos (by omega)]
    omega
  · have e : turn n = n := if_neg h
    rw [e, e]
theorem turn_fits {n : Int} (h : 0 ≤ n ∧ n < 16) : 0 ≤ turn n ∧ turn n < 16 := by unfold turn; split <;> omega
theorem turn_inj {a b : Int} (h : turn a = turn b) : a = b := by rw [← turn_turn a, h, turn_turn]
def rnI (x : In) : In := ⟨x.op, if (shp x.op).f0 = 0 then x.a else turn x.a, if (shp x.op).f1 = 1 then turn x.b else x.b, if (shp x.op).f2 = 1 then turn x.c else x.c, x.l⟩
def rnP (p : Pg) : Pg := ⟨p.fs.map (List.map rnI), p.cs⟩
theorem rnI_rnI (x : In) : rnI (rnI x) = x := by
  obtain ⟨op, a, b, c, l⟩ := x
  simp only [rnI, In.mk.injEq, true_and, and_true]
  refine ⟨?_, ?_, ?_⟩
  · split <;> simp [turn_turn]
  · split <;> simp [turn_turn]
  · split <;> simp [turn_turn]
theorem rnP_rnP (p : Pg) : rnP (rnP p) = p := by
  obtain ⟨fs, cs⟩ := p
  have h1 : (List.map rnI ∘ List.map rnI) = id := by
    funext f
    have : (rnI ∘ rnI) = id := by funext x; exact rnI_rnI x
    simp [List.map_map, this]
  simp [rnP, List.map_map, h1]

theorem tab_f : ∀ k : Fin 30, ((tab.getD k.val ⟨0, 0, 0, 0⟩).f0 = 0 ∨ (tab.getD k.val ⟨0, 0, 0, 0⟩).f0 = 1 ∨ (tab.getD k.val ⟨0, 0, 0, 0⟩).f0 = 2) ∧ (tab.getD k.val ⟨0, 0, 0, 0⟩).f1 ≠ 2 ∧ (tab.getD k.val ⟨0, 0, 0, 0⟩).f2 ≠ 2 := by decide
theorem shp_f (op : Int) : ((shp op).f0 = 0 ∨ (shp op).f0 = 1 ∨ (shp op).f0 = 2) ∧ (shp op).f1 ≠ 2 ∧ (shp op).f2 ≠ 2 := by
  unfold shp
  split
  · by_cases h : op.toNat < 30
    · exact tab_f ⟨op.toNat, h⟩
    · rw [List.getD_eq_getElem?_getD, List.getElem?_eq_none (by show 30 ≤ op.toNat; omega)]
      decide
  · decide
theorem fl_rn (f z : Int) : fl f (if f = 1 then turn z else z) = (fl f z).map turn := by
  unfold fl
  split
  · rfl
  · rfl
theorem fl_rn0 (f z : Int) (_h : f = 0 ∨ f = 1 ∨ f = 2) : fl f (if f = 0 then z else turn z) = (fl f z).map turn := by
  unfold fl
  split
  · next h1 => rw [if_neg (by omega)]; rfl
  · rfl
theorem reads_rn (x : In) : readsL (rnI x) = (readsL x).map turn := by
  show fl (shp x.op).f0 _ ++ fl (shp x.op).f1 _ ++ fl (shp x.op).f2 _ = _
  simp only [rnI]
  rw [fl_rn0 _ _ (shp_f x.op).1, fl_rn, fl_rn, readsL, List.map_append, List.map_append]
theorem writes_rn (x : In) : writesO (rnI x) = (writesO x).map turn := by
  obtain ⟨_, h1, h2⟩ := shp_f x.op
  have e : (rnI x).op = x.op := rfl
  unfold writesO
  rw [e, if_neg h1, if_neg h2, if_neg h1, if_neg h2]
  split
  · next h => simp only [rnI]; rw [if_neg (by omega)]; rfl
  · rfl

def turnN (r : Nat) : Nat := (turn r).toNat
theorem turnN_eq (r : Nat) : ((turnN r : Nat) : Int) = turn r := by unfold turnN turn; split <;> omega
theorem zk_turn (k : Int) (r : Nat) : (zk k).testBit (turnN r) = (zk k).testBit r := by
  unfold zk
  split
  · have h0 : ∀ m : Nat, Nat.testBit 1 m = decide (m = 0) := fun m => by rw [show (1 : Nat) = 2 ^ 0 from rfl, Nat.testBit_two_pow]; simp [eq_comm]
    rw [h0, h0]
    have : turnN r = 0 ↔ r = 0 := by have := turnN_eq r; unfold turn at this; split at this <;> omega
    simp only [this]
  · simp
theorem un_rn {f : List In} {k : Int} {r i : Nat} (h : Un (f.map rnI) (zk k).testBit r i) : Un f (zk k).testBit (turnN r) i := by
  induction h with
  | start hz => exact .start (by rw [zk_turn]; exact hz)
  | @step i j x _ hx hw hg ih =>
    rw [List.getElem?_map] at hx
    obtain ⟨y, hy, rfl⟩ := Option.map_eq_some_iff.1 hx
    refine .step ih hy (fun e => hw ?_) hg
    rw [writes_rn, e, turnN_eq, Option.map_some, turn_turn]
theorem fits_rn0 {nc : Nat} {ks : List Int} {n f : Int} (hf : f = 0 ∨ f = 1 ∨ f = 2) (h : fitsB nc ks n f = true) : fitsB nc ks (if f = 0 then n else turn n) f = true := by
  split
  · exact h
  · have h16 := fits_reg h (by omega)
    unfold fitsB
    rw [if_neg (by omega), if_pos (by omega)]
    exact below_iff.2 (turn_fits h16)
theorem fits_rn {nc : Nat} {ks : List Int} {n f : Int} (h : fitsB nc ks n f = true) : fitsB nc ks (if f = 1 then turn n else n) f = true := by
  split
  · have h16 := fits_reg h (by omega)
    unfold fitsB
    rw [if_neg (by omega), if_pos (by omega)]
    exact below_iff.2 (turn_fits h16)
  · exact h
theorem instr_rn {nc : Nat} {ks : List Int} {k n : Int} {x : In} (h : instrB nc ks k n x = true) : instrB nc ks k n (rnI x) = true := by
  rw [instrB_iff] at h ⊢
  obtain ⟨a, b, c, d, e, r⟩ := h
  exact ⟨a, b, fits_rn0 (shp_f x.op).1 c, fits_rn d, fits_rn e, r⟩
theorem fn_rn {nc : Nat} {ks : List Int} {k : Int} {f : List In} (h : FnOk nc ks k f) : FnOk nc ks k (f.map rnI) := by
  refine ⟨by rw [List.length_map]; exact h.pos, by rw [List.length_map]; exact h.small, fun x hx => ?_, fun x hx => ?_, fun i x r hx hr hu => ?_⟩
  · rw [List.length_map, List.getElem?_map] at hx
    obtain ⟨y, hy, rfl⟩ := Option.map_eq_some_iff.1 hx
    exact h.last y hy
  · obtain ⟨y, hy, rfl⟩ := List.mem_map.1 hx
    rw [List.length_map]
    exact instr_rn (h.ins y hy)
  · rw [List.getElem?_map] at hx
    obtain ⟨y, hy, rfl⟩ := Option.map_eq_some_iff.1 hx
    rw [reads_rn] at hr
    obtain ⟨n, hn, he⟩ := List.mem_map.1 hr
    refine h.ahead i y (turnN r) hy ?_ (un_rn hu)
    rw [turnN_eq, ← he, turn_turn]
    exact hn
theorem kinds_rn (p : Pg) : kindsL (rnP p) = kindsL p := by simp [kindsL, rnP]
theorem pg_rn {p : Pg} (h : PgOk p) : PgOk (rnP p) := by
  refine ⟨by show (p.fs.map _).length ≤ _; rw [List.length_map]; exact h.fs, h.cs, fun c hc => by rw [kinds_rn]; exact h.co c hc, fun i f hf => ?_⟩
  rw [kinds_rn]
  replace hf : (p.fs.map (List.map rnI))[i]? = some f := hf
  rw [List.getElem?_map] at hf
  obtain ⟨g, hg, rfl⟩ := Option.map_eq_some_iff.1 hf
  exact fn_rn (h.fn i g hg)
theorem pg_rn_iff (p : Pg) : PgOk (rnP p) ↔ PgOk p := ⟨fun h => by have := pg_rn h; rwa [rnP_rnP] at this, pg_rn⟩
end Go.Proofs.YtobhfmliaecbjaaDoor
