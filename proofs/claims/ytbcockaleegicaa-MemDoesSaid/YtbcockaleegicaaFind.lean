/-
  The walks of (*mem.Memory).find, one for each way. Conditions: the memory lies in the heap.
-/
import Derived.Test.YtbcockaleegicaaBase
namespace Go.Proofs.Ytbcockaleegicaa
open Go.RowKit

theorem below_drewN {B : Nat} {w w' : World} (h : Below B w w') (n : Nat) : Below B w (w'.drewN n) := h.trans ⟨rfl, rfl, rfl, Nat.le_refl _, fun _ _ => rfl⟩
theorem below_box (w : World) (c : Array Value) (t : TypeId) (n : Nat) : Below w.heap.size w ((w.alloc (.cells c t)).drewN n) := below_drewN ((Below.refl _ _).alloc (Nat.le_refl _) _) n
theorem heap_box {w : World} (c : Array Value) (t : TypeId) (n b : Nat) (h : b < w.heap.size) : ((w.alloc (.cells c t)).drewN n).heap[b]? = w.heap[b]? := (below_box w c t n).block b h

theorem obj_cells {w : World} {mb : Nat} {r q m : Int} {lm : Option Nat} (h : w.heap[mb]? = some (memObj r q m lm)) :
    w.cell? ⟨mb, 0, none⟩ = some (.int .i64 r) ∧ w.cell? ⟨mb, 1, none⟩ = some (.int .i64 q) ∧ w.cell? ⟨mb, 2, none⟩ = some (.int .i64 m) ∧ w.cell? ⟨mb, 3, none⟩ = some (.map lm) := by
  refine ⟨?_, ?_, ?_, ?_⟩ <;> simp [World.cell?, h, memObj]

set_option maxHeartbeats 400000 in
theorem find_kind (mb : Nat) (a n : Int) (w : World) :
    Calls Try.prog 33 #[.pointer (some ⟨mb, 0, none⟩), .agg #[.bool false, .int .i64 a, .int .i64 n]] w fun e w' => e = .returned (.tuple #[.slice none 0 0, .int .i64 11]) ∧ Below w.heap.size w w' := by
  go_enter Try.func33, Try.ntmps33
  go_wp2
  go_returns
  exact ⟨rfl, by go_grown⟩

set_option maxHeartbeats 400000 in
theorem find_low (mb : Nat) (a n : Int) (w : World) (ha : a < 1) :
    Calls Try.prog 33 #[.pointer (some ⟨mb, 0, none⟩), .agg #[.bool true, .int .i64 a, .int .i64 n]] w fun e w' => e = .returned (.tuple #[.slice none 0 0, .int .i64 13]) ∧ Below w.heap.size w w' := by
  have hd : decide (a < 1) = true := by simpa using ha
  go_enter Try.func33, Try.ntmps33
  go_wp2
  go_quiet (fail)
  go_wp2
  go_returns
  exact ⟨rfl, below_box _ _ _ _⟩

set_option maxHeartbeats 400000 in
theorem find_high (mb : Nat) (a n m : Int) (w : World) (c2 : w.cell? ⟨mb, 2, none⟩ = some (.int .i64 m)) (hmb : mb < w.heap.size) (ha : 1 ≤ a) (hm : m < a) :
    Calls Try.prog 33 #[.pointer (some ⟨mb, 0, none⟩), .agg #[.bool true, .int .i64 a, .int .i64 n]] w fun e w' => e = .returned (.tuple #[.slice none 0 0, .int .i64 13]) ∧ Below w.heap.size w w' := by
  have hd : decide (a < 1) = false := by simpa using ha
  have hd2 : decide (m < a) = true := by simpa using hm
  go_enter Try.func33, Try.ntmps33
  go_wp2
  go_quiet (fail)
  go_wp2
  go_returns
  exact ⟨rfl, below_box _ _ _ _⟩

set_option maxHeartbeats 400000 in
theorem find_look (mb lb : Nat) (a n m : Int) (w : World) (v : Value) (ok : Bool) (c2 : w.cell? ⟨mb, 2, none⟩ = some (.int .i64 m)) (c3 : w.cell? ⟨mb, 3, none⟩ = some (.map (some lb))) (hmb : mb < w.heap.size) (ha : 1 ≤ a) (hm : a ≤ m) 
    (hlb : lb < w.heap.size) (hlook : ∀ w' : World, w'.heap[lb]? = w.heap[lb]? → (Instr.lookup 61 (.map (some lb)) (.int .i64 a) true).run Try.prog w' = .ok (.tuple #[v, .bool ok]) w') :
    Calls Try.prog 33 #[.pointer (some ⟨mb, 0, none⟩), .agg #[.bool true, .int .i64 a, .int .i64 n]] w fun e w' => e = .returned (if ok then .tuple #[v, .int .i64 0] else .tuple #[.slice none 0 0, .int .i64 12]) ∧ Below w.heap.size w w' := by
  have hd : decide (a < 1) = false := by simpa using ha
  have hd2 : decide (m < a) = false := by simpa using hm
  have hl := fun k => hlook ((w.alloc (.cells #[.bool true, .int .i64 a, .int .i64 n] 30)).drewN k) (by
    exact heap_box _ _ _ _ hlb)
  clear hlook
  cases ok
  all_goals
    go_enter Try.func33, Try.ntmps33
    go_wp2
    go_quiet (fail)
    go_wp2
    go_quiet (fail)
    go_wp2
    go_returns
    exact ⟨rfl, below_box _ _ _ _⟩

theorem locElem_nil {v : Value} {ps : List MemPlace} (h : locElem v = some (.nil, ps)) : v = .slice none 0 0 := by
  unfold locElem at h
  split at h
  · rfl
  · split at h
    · simp [locd] at h
    · cases h
  · cases h

def findE (S : MS) (b : Bool) (a : Int) : Int :=
  if b = false then 11 else if a < 1 ∨ (S.blocks.length : Int) < a then 13 else match S.at (a - 1).toNat with | none => 12 | some _ => 0

theorem at_lt {S : MS} {k : Nat} {l : List Cl} (h : S.at k = some l) : k < S.blocks.length := by
  unfold MS.at at h
  by_cases hk : k < S.blocks.length
  · exact hk
  · rw [List.getElem?_eq_none (by omega)] at h
    cases h

theorem find_ok {w : World} {mb : Nat} {lm : Option Nat} {loc : Nat → Nat} {S : MS} (R : RepAt w mb lm loc S) (k : Nat) (l : List Cl) (hl : S.at k = some l) (n : Int) :
    Calls Try.prog 33 #[.pointer (some ⟨mb, 0, none⟩), .agg #[.bool true, .int .i64 ((k : Int) + 1), .int .i64 n]] w fun e w' =>
      e = .returned (.tuple #[.slice (some ⟨loc k, 0, none⟩) l.length l.length, .int .i64 0]) ∧ Below w.heap.size w w' := by
  have hk := at_lt hl
  have hmade := R.made
  obtain ⟨c0, c1, c2, c3⟩ := obj_cells R.obj
  have hmb := R.lt mb (.inl rfl)
  cases lm with
  | none => rw [R.nomap rfl] at hk; simp at hk
  | some lb =>
    obtain ⟨D, hD, hM⟩ := R.map lb rfl
    obtain ⟨h1, h2⟩ := hM.some k l hl
    refine (find_look mb lb _ n _ w (.slice (some ⟨loc k, 0, none⟩) l.length l.length) true c2 c3 hmb (by omega) (by omega) hD.lt fun w' hw' => ?_).mono ?_
    · obtain ⟨es, clock, hb, r⟩ := hD
      have hD' : w'.ownsMap Try.prog 3 locElem lb S.blocks.length D := ⟨es, clock, hw'.trans hb, r⟩
      obtain ⟨v, ps, hrun, hv⟩ := hD'.look_ok keyLaw Try.underlying61 (zero64 w') (zd := .nil) (zp := []) rfl (keyOf_key (by omega : k < 1000000))
      rw [h2] at hv
      rw [locElem_inv hv, h1] at hrun
      exact hrun
    · rintro e w' ⟨rfl, hb⟩
      exact ⟨rfl, hb⟩

theorem find_err {w : World} {mb : Nat} {lm : Option Nat} {loc : Nat → Nat} {S : MS} (R : RepAt w mb lm loc S) (b : Bool) (a n er : Int) (he : findE S b a = er) (hne : er ≠ 0) :
    Calls Try.prog 33 #[.pointer (some ⟨mb, 0, none⟩), .agg #[.bool b, .int .i64 a, .int .i64 n]] w fun e w' =>
      e = .returned (.tuple #[.slice none 0 0, .int .i64 er]) ∧ Below w.heap.size w w' := by
  have hmade := R.made
  obtain ⟨c0, c1, c2, c3⟩ := obj_cells R.obj
  have hmb := R.lt mb (.inl rfl)
  unfold findE at he
  cases b with
  | false =>
    simp at he
    subst he
    exact find_kind mb a n w
  | true =>
    rw [if_neg (by simp)] at he
    by_cases h1 : a < 1
    · rw [if_pos (.inl h1)] at he
      subst he
      exact find_low mb a n w h1
    · by_cases h2 : (S.blocks.length : Int) < a
      · rw [if_pos (.inr h2)] at he
        subst he
        exact find_high mb a n _ w c2 hmb (by omega) h2
      · rw [if_neg (by omega)] at he
        cases hat : S.at (a - 1).toNat with
        | some l => rw [hat] at he; exact absurd he.symm hne
        | none =>
          rw [hat] at he
          subst he
          cases lm with
          | none => rw [R.nomap rfl] at h2; simp at h2; omega
          | some lb =>
            obtain ⟨D, hD, hM⟩ := R.map lb rfl
            have hh := hM.none _ hat
            have hka : ((a - 1).toNat : Int) + 1 = a := by omega
            have hkey := keyOf_key (by omega : (a - 1).toNat < 1000000)
            rw [hka] at hkey
            obtain ⟨es, clock, hb, r⟩ := hD
            have hlk : ∃ v, ∀ w' : World, w'.heap[lb]? = w.heap[lb]? → (Instr.lookup 61 (.map (some lb)) (.int .i64 a) true).run Try.prog w' = .ok (.tuple #[v, .bool false]) w' := by
              refine ⟨.slice none 0 0, fun w' hw' => ?_⟩
              have hD' : w'.ownsMap Try.prog 3 locElem lb S.blocks.length D := ⟨es, clock, hw'.trans hb, r⟩
              obtain ⟨v, ps, hrun, hv⟩ := hD'.look_ok keyLaw Try.underlying61 (zero64 w') (zd := .nil) (zp := []) rfl hkey
              rw [hh] at hrun
              rw [Maps.atKey_of_not_has hh] at hv
              rw [locElem_nil hv] at hrun
              exact hrun
            obtain ⟨v, hlk⟩ := hlk
            refine (find_look mb lb a n _ w v false c2 c3 hmb (by omega) (by omega) (World.ownsMap.lt ⟨es, clock, hb, r⟩) hlk).mono ?_
            rintro e w' ⟨rfl, hb⟩
            exact ⟨rfl, hb⟩
end Go.Proofs.Ytbcockaleegicaa
