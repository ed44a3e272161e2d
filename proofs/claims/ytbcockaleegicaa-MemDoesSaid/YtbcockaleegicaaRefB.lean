/-
  The document's own memory: drop, Alloc, Free. Conditions: it lies in the heap.
-/
import Derived.Test.YtbcockaleegicaaRef
import Derived.Deep.RegionLaw
namespace Go.Proofs.Ytbcockaleegicaa
open Go.RowKit

/-- a block that the document's memory may be made of -/
def RTy (w : World) (b : Nat) : Prop := ∃ c e f, w.heap[b]? = some (.cells c e f) ∧ (e = 46 ∨ e = 48 ∨ e = 71)
/-- only such blocks, from B on, and new ones, are other than they were -/
structure RKept (B : Nat) (w w' : World) : Prop where
  os : w'.os = w.os
  tape : w'.tape = w.tape
  output : w'.output = w.output
  size : w.heap.size ≤ w'.heap.size
  block : ∀ b, b < w.heap.size → (b < B ∨ ¬ RTy w b) → w'.heap[b]? = w.heap[b]?

theorem RKept.of_below {B : Nat} {w w' : World} (h : Below w.heap.size w w') : RKept B w w' := ⟨h.os, h.tape, h.output, h.size, fun b hb _ => h.block b hb⟩
theorem RKept.trans {B : Nat} {a b c : World} (h : RKept B a b) (k : RKept B b c) : RKept B a c := by
  refine ⟨k.os.trans h.os, k.tape.trans h.tape, k.output.trans h.output, Nat.le_trans h.size k.size, fun i hi hc => ?_⟩
  have e := h.block i hi hc
  refine (k.block i (Nat.lt_of_lt_of_le hi h.size) ?_).trans e
  rcases hc with h1 | h1
  · exact .inl h1
  · refine .inr fun ⟨c, t, f, h2, h3⟩ => h1 ⟨c, t, f, e ▸ h2, h3⟩
theorem RKept.setCell {B : Nat} {w : World} {a : Addr} (hB : B ≤ a.block) (ht : RTy w a.block) (v : Value) : RKept B w (w.setCell a v) := by
  refine ⟨rfl, rfl, rfl, by simp [World.setCell], fun b hb hc => Below.heap_setCell w a v b fun e => ?_⟩
  subst e
  rcases hc with h1 | h1
  · omega
  · exact h1 ht
theorem RKept.grown {B base e size n : Nat} {w w' : World} {v : Value} {xs : List Value} (h : w.ownsRow base e size v n xs) (hB : B ≤ base) (he : e = 46 ∨ e = 48 ∨ e = 71) (hg : w.grownBy w' v.ownBlock) : RKept B w w' := by
  refine ⟨hg.os, hg.tape, hg.output, hg.size, fun b hb hc => hg.block b hb ?_⟩
  rcases h.2 with ⟨rfl, _⟩ | ⟨g, cap, cur, rfl, hbb, hgg, _⟩
  · simp [Value.ownBlock]
  · simp only [Value.ownBlock, ne_eq, Option.some.injEq]
    rintro rfl
    rcases hc with h1 | h1
    · omega
    · exact h1 ⟨_, _, _, hgg, he⟩

/-- what a call of the document's memory that writes leaves -/
def RTurned (B : Nat) (w w' : World) (rb : Nat) (r : RS) : Prop := (∃ vb vc, RefAt B w' rb r vb vc) ∧ RKept B w w'
theorem RTurned.same {B : Nat} {w w' : World} {rb : Nat} {r : RS} {vb vc : Value} (R : RefAt B w rb r vb vc) (h : Below w.heap.size w w') : RTurned B w w' rb r := ⟨⟨vb, vc, R.below h⟩, .of_below h⟩

theorem row_base {w : World} {base base' e size n : Nat} {v : Value} {xs : List Value} (h : w.ownsRow base e size v n xs) (hb : base' ≤ base) : w.ownsRow base' e size v n xs := by
  refine ⟨h.1, ?_⟩
  rcases h.2 with hn | ⟨g, cap, cur, rfl, hbb, rest⟩
  · exact .inl hn
  · exact .inr ⟨g, cap, cur, rfl, Nat.le_trans hb hbb, rest⟩
theorem row_setCell {w : World} {base e size n : Nat} {v : Value} {xs : List Value} (h : w.ownsRow base e size v n xs) {a : Addr} {c : Array Value} {t : TypeId} {f : Nat × Nat} (ha : w.heap[a.block]? = some (.cells c t f)) (ht : t ≠ e) (u : Value) : (w.setCell a u).ownsRow base e size v n xs := by
  refine ⟨h.1, ?_⟩
  rcases h.2 with hn | ⟨g, cap, cur, rfl, hbb, hg, rest⟩
  · exact .inl hn
  · refine .inr ⟨g, cap, cur, rfl, hbb, ?_, rest⟩
    rw [Below.heap_setCell w a u g fun e' => ?_]
    · exact hg
    · rw [e', ha] at hg
      simp only [Option.some.injEq, Obj.cells.injEq] at hg
      exact ht hg.2.1

theorem info48 : (Try.prog.info? 48).map (fun i => (i.zero, i.size, i.bytes)) = some (some (.agg #[.int .i64 0, .bool false]), 2, 16) := by kernel_rfl
theorem info71 : (Try.prog.info? 71).map (fun i => (i.zero, i.size, i.bytes)) = some (some (.agg #[.int .i64 0, .int .i64 0, .bool false, .int .i64 0, .int .i64 0]), 5, 40) := by kernel_rfl

theorem cell_cells {w : World} {B : Nat} {og : Option Addr} {g cap n : Nat} {cs : List Ce} (h : w.ownsRow B 71 5 (.slice og n cap) n (cellRow cs)) (hn : n = cs.length) (hog : og = some ⟨g, 0, none⟩) (k : Nat) (c : Ce) (hc : cs[k]? = some c) :
    w.cell? ⟨g, k * 5, none⟩ = some (.int .i64 c.a) ∧ w.cell? ⟨g, k * 5 + 1, none⟩ = some (.int .i64 c.n) ∧ w.cell? ⟨g, k * 5 + 2, none⟩ = some (.bool c.x.p) ∧ w.cell? ⟨g, k * 5 + 3, none⟩ = some (.int .i64 c.x.a) ∧ w.cell? ⟨g, k * 5 + 4, none⟩ = some (.int .i64 c.x.n) := by
  have hk : k < cs.length := (List.getElem?_eq_some_iff.1 hc).1
  subst hog
  have e := fun j hj => flat_get ev 5 ev_len cs k j c hc hj
  exact ⟨(h.cellAt (k * 5) (by omega)).trans (e 0 (by decide)), (h.cellAt (k * 5 + 1) (by omega)).trans (e 1 (by decide)), (h.cellAt (k * 5 + 2) (by omega)).trans (e 2 (by decide)), (h.cellAt (k * 5 + 3) (by omega)).trans (e 3 (by decide)), (h.cellAt (k * 5 + 4) (by omega)).trans (e 4 (by decide))⟩

def other (a n : Int) (c : Ce) : Bool := !(c.a == a && c.n == n)
def RS.drop (r : RS) (a n : Int) : RS := ⟨r.room, r.bs, r.cs.filter (other a n)⟩
theorem take_filter (l : List Ce) (p : Ce → Bool) (k : Nat) (c : Ce) (h : l[k]? = some c) : (l.take (k + 1)).filter p = (l.take k).filter p ++ if p c then [c] else [] := by
  have hk : k < l.length := (List.getElem?_eq_some_iff.1 h).1
  rw [List.take_succ_eq_append_getElem hk]
  have : l[k] = c := by rw [List.getElem?_eq_getElem hk] at h; simpa using h
  rw [List.filter_append, this]
  cases hp : p c <;> simp [hp]

section
variable {B : Nat} {w : World} {rb : Nat} {r : RS} {vb vc : Value}

set_option maxHeartbeats 1000000 in
theorem rdrop_any (R : RefAt B w rb r vb vc) (a n : Int) : Calls Try.prog 38 #[.pointer (some ⟨rb, 0, none⟩), .int .i64 a, .int .i64 n] w fun e w' => e = .returned (.tuple #[]) ∧ RTurned B w w' rb (r.drop a n) := by
  obtain ⟨og, g, cap, rfl, hog⟩ := row_shape R.cells
  have hl := R.lenc
  have hrb := R.lt
  obtain ⟨i71, hi71, hz71, hs71, hb71⟩ := info_parts info71
  replace hog := Lib.hid hog
  have HI := Lib.hid (And.intro hi71 (And.intro hz71 (And.intro hs71 hb71)))
  clear hi71 hz71 hs71 hb71
  obtain ⟨o0, o1, o2⟩ := R.objs
  go_enter Try.func38, Try.ntmps38
  go_wp2
  go_loopw [6, 7] (fun ul ui wr => ∃ k : Nat, k ≤ r.cs.length ∧ ui = .int .i64 k ∧ wr.ownsRow w.heap.size 71 5 ul ((r.cs.take k).filter (other a n)).length (cellRow ((r.cs.take k).filter (other a n))) ∧ Below w.heap.size w wr) (fun _ ui _ => r.cs.length - (intOf ui).toNat)
  case atStart => exact ⟨0, by omega, rfl, World.ownsRow_nil _ _ _ _, Below.refl _ _⟩
  case round =>
    obtain ⟨k, hk, rfl, hown, hbw⟩ := hrel
    have Rr := R.below hbw
    obtain ⟨o0, o1, o2⟩ := Rr.objs
    by_cases hkl : k < r.cs.length
    · have t1 : decide ((k : Int) < r.cs.length) = true := by simpa using hkl
      have hkl' : (k : Int) < r.cs.length := by omega
      obtain rfl := hog.out (by omega)
      obtain ⟨c, hc⟩ : ∃ c, r.cs[k]? = some c := ⟨_, List.getElem?_eq_getElem hkl⟩
      obtain ⟨g0, g1, g2, g3, g4⟩ := cell_cells Rr.cells rfl rfl k c hc
      have ht := take_filter r.cs (other a n) k c hc
      have hle : ((r.cs.take k).filter (other a n)).length ≤ k := Nat.le_trans (List.length_filter_le _ _) (by simp; omega)
      obtain ⟨L, hL⟩ : ∃ L, (r.cs.take k).filter (other a n) = L := ⟨_, rfl⟩
      rw [hL] at ht hown hle
      have HT := Lib.hid ht
      clear ht hL hc
      by_cases hp : other a n c = true
      · have hne : (c.a != a) = true ∨ (c.a != a) = false ∧ (c.n != n) = true := by
          unfold other at hp
          by_cases h1 : c.a = a
          · right
            simp [h1] at hp ⊢
            exact hp
          · left; simpa using h1
        have HT' := Lib.hid (show (r.cs.take (k + 1)).filter (other a n) = L ++ [c] by rw [HT.out, hp]; rfl)
        obtain ⟨hi71, hz71, hs71, hb71⟩ := HI.out
        clear hp HT
        have hsz := hbw.size
        rcases hne with h1 | ⟨h1, h2⟩
        all_goals
          go_wp2_with (at_builtin; refine wpList_append_own _ rfl (.tmp 39) (.tmp 47) 44 rfl w.heap.size 71 i71 _ 5 40 Try.underlying44 hi71 hz71 hs71 hb71 rfl (by decide) u6 L.length _ rfl (hown.alloc _) ⟨wr.heap.size, 0, none⟩ 1 1 (ev c) rfl rfl ?c1 ?c2 ?c3 ?c4 ?c5 ?_)
          case c1 => first | exact new_cells wr (ev c) 71 _ rfl | exact fun _ _ h => h
          case c2 => intro u hu; simp [ev] at hu; rcases hu with rfl | rfl | rfl | rfl | rfl <;> rfl
          case c3 => unfold maxLen; omega
          case c4 => omega
          case c5 => first | omega | (simp; omega)
          intro v' w' hown' hgrow _
          have hb' : Below w.heap.size w w' := (hbw.alloc hsz _).grown hgrow (by simp; omega) fun j hj => (hown.lt j hj).1
          have hown2 : w'.ownsRow w.heap.size 71 5 v' (L ++ [c]).length (cellRow (L ++ [c])) := by
            rw [List.length_append, List.length_singleton]
            unfold cellRow at hown' ⊢
            rw [List.flatMap_append, List.flatMap_singleton]
            exact hown'
          clear hown' hgrow hown
          go_wp2
          go_roundw
          case rel => exact ⟨k + 1, by omega, by go_num, by rw [HT'.out]; exact hown2, hb'⟩
          case measure => simp [intOf]; omega
      · have h1 : (c.a != a) = false := by unfold other at hp; simp at hp; simp [hp.1]
        have h2 : (c.n != n) = false := by unfold other at hp; simp at hp; simp [hp.2]
        have HT' := Lib.hid (show (r.cs.take (k + 1)).filter (other a n) = L by rw [HT.out, if_neg hp, List.append_nil])
        clear hp HT
        go_wp2
        go_roundw
        case rel => exact ⟨k + 1, by omega, by go_num, by rw [HT'.out]; exact hown, hbw⟩
        case measure => simp [intOf]; omega
    · have t1 : decide ((k : Int) < r.cs.length) = false := by simpa using hkl
      obtain rfl : k = r.cs.length := by omega
      rw [List.take_length] at hown
      obtain ⟨ol, gl, cl, rfl, _⟩ := row_shape hown
      have f2 : wr.frozen? ⟨rb, 2, none⟩ = false := by simp [World.frozen?, Rr.obj]
      go_wp2
      go_end0
      refine ⟨rfl, ⟨_, _, ?_, R.base, R.room0, R.room1, row_setCell Rr.blocks Rr.obj (by decide) _, row_base (row_setCell hown Rr.obj (by decide) _) (by have := R.base; omega), R.lenb, ?_, R.words⟩, (RKept.of_below hbw).trans (RKept.setCell R.base ⟨_, _, _, Rr.obj, .inl rfl⟩ _)⟩
      · exact heap_setCell_same Rr.obj 2 _
      · exact Nat.lt_of_le_of_lt (List.length_filter_le _ _) hl
end
end Go.Proofs.Ytbcockaleegicaa
