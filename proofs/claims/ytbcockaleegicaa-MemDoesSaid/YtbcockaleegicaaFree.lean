/-
  The walk of (*mem.Memory).Free. Conditions: the memory lies in the heap.
-/
import Derived.Test.YtbcockaleegicaaCalls
namespace Go.Proofs.Ytbcockaleegicaa
open Go.RowKit

section
variable {w : World} {mb : Nat} {lm : Option Nat} {loc : Nat → Nat} {S : MS}

set_option maxHeartbeats 400000 in
theorem free_err (R : RepAt w mb lm loc S) (b : Bool) (a n er : Int) (he : findE S b a = er) (hne : er ≠ 0) :
    Calls Try.prog 17 #[.pointer (some ⟨mb, 0, none⟩), .agg #[.bool b, .int .i64 a, .int .i64 n]] w fun e w' => e = .returned (.int .i64 er) ∧ Below w.heap.size w w' := by
  have HE := Lib.hid he
  have hd : (er == 0) = false := by simpa using hne
  have hd' : (er != 0) = true := by simpa using hne
  clear he
  go_enter Try.func17, Try.ntmps17
  go_wp2_with fail
  refine (find_err (R.alloc _) b a n er HE.out hne).mono ?_
  rintro e w1 ⟨rfl, hb⟩
  go_wp2
  go_ret
  exact ⟨rfl, box_below hb⟩

set_option maxHeartbeats 400000 in
theorem free_range (R : RepAt w mb lm loc S) (k : Nat) (l : List Cl) (hl : S.at k = some l) (n : Int) (hn : n ≠ 0) :
    Calls Try.prog 17 #[.pointer (some ⟨mb, 0, none⟩), .agg #[.bool true, .int .i64 ((k : Int) + 1), .int .i64 n]] w fun e w' => e = .returned (.int .i64 13) ∧ Below w.heap.size w w' := by
  have hd : (n == 0) = false := by simpa using hn
  have hd' : (n != 0) = true := by simpa using hn
  go_enter Try.func17, Try.ntmps17
  go_wp2_with fail
  refine (find_ok (R.alloc _) k l hl n).mono ?_
  rintro e w1 ⟨rfl, hb⟩
  have q2 := box_cell hb 2 _ rfl
  go_wp2
  go_ret
  exact ⟨rfl, box_below hb⟩

theorem words_none {k : Nat} {l : List Cl} (hl : S.at k = some l) : (S.setb k none).words + l.length = S.words := by
  have := sum_set S.blocks k _ none (at_some hl)
  simp only [szO] at this
  show ((S.blocks.set k none).map szO).sum + l.length = (S.blocks.map szO).sum
  omega
theorem live_none' {k : Nat} {l : List Cl} (hl : S.at k = some l) : (S.setb k none).live + 1 = S.live := live_none S.blocks k l (at_some hl)

theorem free_rep {w1 W3 : World} {lb : Nat} {D : DataW Unit} (R : RepAt w mb (some lb) loc S) {k : Nat} {l : List Cl} (hl : S.at k = some l) (hb : Below w.heap.size w w1) (hM : MapIs S loc D) (hD : Maps.Tidy D)
    (hD3 : W3.ownsMap Try.prog 3 locElem lb S.blocks.length (D.del (key k))) (hg : (w1.setCell ⟨mb, 1, none⟩ (.int .i64 ((S.words : Int) - l.length))).drew.grownBy W3 (some lb)) :
    Turned w W3 mb (some lb) loc S (S.setb k none) := by
  have hkl := at_lt hl
  have hw := words_none hl
  have hmb := R.lt mb (.inl rfl)
  have hlb := R.lt lb (.inr (.inl rfl))
  have hs1 := hb.size
  have hne : mb ≠ lb := by
    rintro rfl
    obtain ⟨D, ⟨es, clock, hbb, _⟩, _⟩ := R.map _ rfl
    rw [R.obj] at hbb
    cases hbb
  have hobj1 : w1.heap[mb]? = some (memObj S.room S.words S.blocks.length (some lb)) := (hb.block mb hmb).trans R.obj
  have hs2 : (w1.setCell ⟨mb, 1, none⟩ (.int .i64 ((S.words : Int) - l.length))).drew.heap.size = w1.heap.size := by simp [World.setCell, World.drew]
  have old : ∀ b, b < w.heap.size → b ≠ mb → b ≠ lb → W3.heap[b]? = w.heap[b]? := fun b h1 h2 h3 =>
    (hg.block b (by rw [hs2]; omega) (by simpa using h3)).trans ((Below.heap_setCell w1 ⟨mb, 1, none⟩ _ b h2).trans (hb.block b h1))
  have hobj : W3.heap[mb]? = some (memObj S.room ((S.words : Int) - l.length) S.blocks.length (some lb)) := by
    refine (hg.block mb (by rw [hs2]; omega) (by simpa using hne)).trans ?_
    exact heap_setCell_same hobj1 1 _
  have hat : ∀ j m, (S.setb k none).at j = some m → j ≠ k ∧ S.at j = some m := fun j m hj => by
    rw [at_setb S k _ hkl] at hj
    split at hj
    · cases hj
    · exact ⟨‹_›, hj⟩
  refine ⟨some lb, loc, ⟨?_, R.room0, R.room1, ?_, ?_, by simp, ?_, ?_, ?_⟩, ?_, ?_⟩
  · rw [hobj]
    have : ((S.words : Int) - l.length) = ((S.setb k none).words : Int) := by omega
    rw [this]
    simp [MS.setb]
  · have := R.words
    show (((S.setb k none).words : Nat) : Int) ≤ S.room
    omega
  · simpa [MS.setb] using R.made
  · intro lb' e
    cases e
    refine ⟨D.del (key k), ?_, ?_, ?_, ?_⟩
    · have : (S.setb k none).blocks.length = S.blocks.length := by simp [MS.setb]
      rw [this]
      exact hD3
    · have h1 := Maps.size_del (k := key k) hD
      rw [(hM.some k l hl).1, hM.size] at h1
      have h2 := live_none' hl
      simp only [if_true] at h1
      omega
    · intro j m hj
      obtain ⟨hne', hj'⟩ := hat j m hj
      rw [Maps.has_del_other (key_ne hne')]
      exact ⟨(hM.some j m hj').1, fun z => (Maps.atKey_del_other (key_ne hne') z).trans ((hM.some j m hj').2 z)⟩
    · intro j hj
      by_cases e : j = k
      · rw [e]; exact Maps.has_del_same
      · rw [at_setb S k _ hkl, if_neg e] at hj
        rw [Maps.has_del_other (key_ne e)]
        exact hM.none j hj
  · intro j m hj
    obtain ⟨_, hj'⟩ := hat j m hj
    have ne := R.loc_ne hj'
    rw [old _ (R.lt _ (.inr (.inr ⟨j, m, hj', rfl⟩))) ne.1 fun e => ne.2 (by rw [e])]
    exact R.blk j m hj'
  · intro i j m m' hi hj e
    exact R.inj i j m m' (hat i m hi).2 (hat j m' hj).2 e
  · rintro b (rfl | h | ⟨j, m, hj, rfl⟩)
    · exact .inl (.inl rfl)
    · exact .inl (.inr (.inl h))
    · exact .inl (.inr (.inr ⟨j, m, (hat j m hj).2, rfl⟩))
  · refine ⟨hg.os.trans hb.os, hg.tape.trans hb.tape, hg.output.trans hb.output, by have := hg.size; omega, fun b h1 ho => old b h1 (fun e => ho (.inl e)) fun e => ho (.inr (.inl (by rw [e])))⟩

set_option maxHeartbeats 400000 in
theorem free_ok (R : RepAt w mb lm loc S) (k : Nat) (l : List Cl) (hl : S.at k = some l) :
    Calls Try.prog 17 #[.pointer (some ⟨mb, 0, none⟩), .agg #[.bool true, .int .i64 ((k : Int) + 1), .int .i64 0]] w fun e w' => e = .returned (.int .i64 0) ∧ Turned w w' mb lm loc S (S.setb k none) := by
  cases lm with
  | none => have := at_lt hl; rw [R.nomap rfl] at this; simp at this
  | some lb =>
  have hk := at_lt hl
  have hlen := at_len hl
  have b1 := R.room0
  have b2 := R.room1
  have b3 := R.words
  have b4 := R.made
  obtain ⟨D, hD, hM⟩ := R.map lb rfl
  have hmb0 := R.lt mb (.inl rfl)
  have hlb0 := R.lt lb (.inr (.inl rfl))
  have HO := Lib.hid R.obj
  have hne : mb ≠ lb := by
    rintro rfl
    obtain ⟨es, clock, hbb, _⟩ := hD
    rw [R.obj] at hbb
    cases hbb
  go_enter Try.func17, Try.ntmps17
  go_wp2_with fail
  refine (find_ok (R.alloc _) k l hl 0).mono ?_
  rintro e w1 ⟨rfl, hb⟩
  have q1 := box_cell hb 1 (.int .i64 ((k : Int) + 1)) rfl
  have q2 := box_cell hb 2 (.int .i64 0) rfl
  have hbw := box_below hb
  have hobj : w1.heap[mb]? = some (memObj S.room S.words S.blocks.length (some lb)) := (hbw.block mb hmb0).trans HO.out
  obtain ⟨c0, c1, c2, c3⟩ := obj_cells hobj
  have f1 : w1.frozen? ⟨mb, 1, none⟩ = false := by simp [World.frozen?, hobj, memObj]
  have hsz := hbw.size
  have hs1 : w.heap.size < w1.heap.size := by have := hb.size; simp at this; omega
  have hD1 : (w1.setCell ⟨mb, 1, none⟩ (.int .i64 ((S.words : Int) - l.length))).drew.ownsMap Try.prog 3 locElem lb S.blocks.length D := by
    obtain ⟨es, clock, hbb, r⟩ := hD
    exact ⟨es, clock, (Below.heap_setCell w1 ⟨mb, 1, none⟩ _ lb (Ne.symm hne)).trans ((hbw.block lb hlb0).trans hbb), r⟩
  obtain ⟨W3, hdel, hD3, hturn⟩ := hD1.drop keyLaw Try.underlying61 (keyOf_key (by omega : k < 1000000)) 0
  have hg := hturn.grown
  have HOB := Lib.hid hobj
  clear hobj
  go_wp2
  go_region
  go_wp2
  go_ret
  refine ⟨rfl, ?_⟩
  exact free_rep R hl hbw hM (hD.tidy keyLaw) hD3 hg
end
end Go.Proofs.Ytbcockaleegicaa
