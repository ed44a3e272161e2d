/-
  The document's own memory (cocoonref01): its plain model, how it lies in the heap, and its reading calls. Conditions: it lies in the heap.
-/
import Derived.Test.YtbcockaleegicaaRoom
namespace Go.Proofs.Ytbcockaleegicaa
open Go.RowKit

/-- a stored word, with where it stands -/
structure Ce where
  a : Int
  n : Int
  x : Wd

structure RS where
  room : Int
  bs : List (Nat × Bool)
  cs : List Ce

def bv (b : Nat × Bool) : List Value := [.int .i64 (b.1 : Int), .bool b.2]
def ev (c : Ce) : List Value := [.int .i64 c.a, .int .i64 c.n, .bool c.x.p, .int .i64 c.x.a, .int .i64 c.x.n]
def blockRow (bs : List (Nat × Bool)) : List Value := bs.flatMap bv
def cellRow (cs : List Ce) : List Value := cs.flatMap ev

theorem flat_len {α : Type} (f : α → List Value) (k : Nat) (hf : ∀ x, (f x).length = k) (l : List α) : (l.flatMap f).length = l.length * k := by
  induction l with
  | nil => simp
  | cons x l ih => rw [List.flatMap_cons, List.length_append, hf, ih, List.length_cons, Nat.succ_mul]; omega
theorem flat_get {α : Type} (f : α → List Value) (k : Nat) (hf : ∀ x, (f x).length = k) (l : List α) : ∀ (i j : Nat) (x : α), l[i]? = some x → j < k → (l.flatMap f)[i * k + j]? = (f x)[j]? := by
  induction l with
  | nil => intro i j x h; simp at h
  | cons y l ih =>
    intro i j x h hj
    rw [List.flatMap_cons]
    cases i with
    | zero =>
      simp at h
      subst h
      rw [List.getElem?_append_left (by rw [hf]; omega)]
      simp
    | succ i =>
      have hm : (i + 1) * k = i * k + k := Nat.succ_mul i k
      rw [List.getElem?_append_right (by rw [hf]; omega), hf, show (i + 1) * k + j - k = i * k + j by omega]
      exact ih i j x (by simpa using h) hj
theorem bv_len (b : Nat × Bool) : (bv b).length = 2 := rfl
theorem ev_len (c : Ce) : (ev c).length = 5 := rfl

def RS.words (r : RS) : Nat := (r.bs.map fun b => if b.2 then 0 else b.1).sum
def RS.live (r : RS) : Nat := (r.bs.filter fun b => !b.2).length
def RS.check (r : RS) (b : Bool) (a : Int) : Int :=
  if b = false then 11 else if a < 1 ∨ (r.bs.length : Int) < a then 13 else match r.bs[(a - 1).toNat]? with | some (_, false) => 0 | _ => 12
def lookc (cs : List Ce) (a n : Int) : Option Wd := (cs.find? fun c => c.a == a && c.n == n).map (·.x)

structure RefAt (B : Nat) (w : World) (rb : Nat) (r : RS) (vb vc : Value) : Prop where
  obj : w.heap[rb]? = some (.cells #[.int .i64 r.room, vb, vc] 46)
  base : B ≤ rb
  room0 : 0 ≤ r.room
  room1 : r.room ≤ 1048576
  blocks : w.ownsRow B 48 2 vb r.bs.length (blockRow r.bs)
  cells : w.ownsRow B 71 5 vc r.cs.length (cellRow r.cs)
  lenb : r.bs.length < 1000
  lenc : r.cs.length < 100000
  words : (r.words : Int) ≤ r.room

theorem RefAt.lt {B : Nat} {w : World} {rb : Nat} {r : RS} {vb vc : Value} (R : RefAt B w rb r vb vc) : rb < w.heap.size := (Array.getElem?_eq_some_iff.1 R.obj).1
theorem RefAt.below {B : Nat} {w w' : World} {rb : Nat} {r : RS} {vb vc : Value} (R : RefAt B w rb r vb vc) (h : Below w.heap.size w w') : RefAt B w' rb r vb vc :=
  ⟨(h.block rb R.lt).trans R.obj, R.base, R.room0, R.room1, row_below h R.blocks, row_below h R.cells, R.lenb, R.lenc, R.words⟩
theorem RefAt.alloc {B : Nat} {w : World} {rb : Nat} {r : RS} {vb vc : Value} (R : RefAt B w rb r vb vc) (o : Obj) : RefAt B (w.alloc o) rb r vb vc := R.below ((Below.refl _ _).alloc (Nat.le_refl _) _)
theorem RefAt.objs {B : Nat} {w : World} {rb : Nat} {r : RS} {vb vc : Value} (R : RefAt B w rb r vb vc) : w.cell? ⟨rb, 0, none⟩ = some (.int .i64 r.room) ∧ w.cell? ⟨rb, 1, none⟩ = some vb ∧ w.cell? ⟨rb, 2, none⟩ = some vc := by
  refine ⟨?_, ?_, ?_⟩ <;> simp [World.cell?, R.obj]

theorem take_words (l : List (Nat × Bool)) (k : Nat) (b : Nat × Bool) (h : l[k]? = some b) : ((l.take (k + 1)).map fun b => if b.2 then 0 else b.1).sum = ((l.take k).map fun b => if b.2 then 0 else b.1).sum + (if b.2 then 0 else b.1) := by
  have hk : k < l.length := (List.getElem?_eq_some_iff.1 h).1
  rw [List.take_succ_eq_append_getElem hk]
  have : l[k] = b := by rw [List.getElem?_eq_getElem hk] at h; simpa using h
  simp [this]
theorem take_live (l : List (Nat × Bool)) (k : Nat) (b : Nat × Bool) (h : l[k]? = some b) : ((l.take (k + 1)).filter fun b => !b.2).length = ((l.take k).filter fun b => !b.2).length + (if b.2 then 0 else 1) := by
  have hk : k < l.length := (List.getElem?_eq_some_iff.1 h).1
  rw [List.take_succ_eq_append_getElem hk]
  have : l[k] = b := by rw [List.getElem?_eq_getElem hk] at h; simpa using h
  rw [List.filter_append, List.length_append, this]
  obtain ⟨n, f⟩ := b
  cases f <;> simp

section
variable {B : Nat} {w : World} {rb : Nat} {r : RS} {vb vc : Value}

/-- a block's cells -/
theorem block_cells {og : Option Addr} {g cap n : Nat} {bs : List (Nat × Bool)} (h : w.ownsRow B 48 2 (.slice og n cap) n (blockRow bs)) (hn : n = bs.length) (hog : og = some ⟨g, 0, none⟩) (k : Nat) (b : Nat × Bool) (hb : bs[k]? = some b) :
    w.cell? ⟨g, k * 2, none⟩ = some (.int .i64 (b.1 : Int)) ∧ w.cell? ⟨g, k * 2 + 1, none⟩ = some (.bool b.2) := by
  have hk : k < bs.length := (List.getElem?_eq_some_iff.1 hb).1
  subst hog
  have e0 := flat_get bv 2 bv_len bs k 0 b hb (by decide)
  have e1 := flat_get bv 2 bv_len bs k 1 b hb (by decide)
  exact ⟨(h.cellAt (k * 2) (by omega)).trans e0, (h.cellAt (k * 2 + 1) (by omega)).trans e1⟩

set_option maxHeartbeats 400000 in
theorem rwords_any (R : RefAt B w rb r vb vc) : Calls Try.prog 30 #[.pointer (some ⟨rb, 0, none⟩)] w fun e w' => e = .returned (.int .i64 r.words) ∧ w = w' := by
  obtain ⟨o0, o1, o2⟩ := R.objs
  obtain ⟨og, g, cap, rfl, hog⟩ := row_shape R.blocks
  have hrow := R.blocks
  have hl := R.lenb
  have hw1 := R.words
  have hr1 := R.room1
  have hmono : ∀ k, ((r.bs.take k).map fun b => if b.2 then 0 else b.1).sum ≤ r.words := fun k => by
    have h := congrArg (fun l => (l.map fun b : Nat × Bool => if b.2 then 0 else b.1).sum) (List.take_append_drop k r.bs)
    simp only [List.map_append, List.sum_append] at h
    show _ ≤ (r.bs.map fun b => if b.2 then 0 else b.1).sum
    omega
  replace hog := Lib.hid hog
  replace hrow := Lib.hid hrow
  replace hmono := Lib.hid hmono
  obtain ⟨bs, hbs⟩ : ∃ bs, r.bs = bs := ⟨_, rfl⟩
  rw [hbs] at hrow hl hmono hog o1
  have HBS := Lib.hid hbs
  have HW := Lib.hid (show r.words = (bs.map fun b => if b.2 then 0 else b.1).sum by rw [← hbs]; rfl)
  clear hbs
  rw [HW.out] at hmono hw1
  rw [HW.out]
  go_enter Try.func30, Try.ntmps30
  go_wp2
  go_loop [3, 4] (fun un ui => ∃ k s : Nat, k ≤ bs.length ∧ ui = .int .i64 k ∧ un = .int .i64 s ∧ s = ((bs.take k).map fun b => if b.2 then 0 else b.1).sum) (fun _ ui => bs.length - (intOf ui).toNat)
  case atStart => exact ⟨0, 0, by omega, rfl, rfl, by simp⟩
  case round =>
    obtain ⟨k, s, hk, rfl, rfl, hs⟩ := hrel
    have HS := Lib.hid hs
    have hs1 : s ≤ 1048576 := by have := hmono.out k; omega
    clear hs
    by_cases hkl : k < bs.length
    · have t1 : decide ((k : Int) < bs.length) = true := by simpa using hkl
      obtain rfl := hog.out (by omega)
      obtain ⟨b, hb⟩ : ∃ b, bs[k]? = some b := ⟨_, List.getElem?_eq_getElem hkl⟩
      obtain ⟨g0, g1⟩ := block_cells hrow.out rfl rfl k b hb
      have HB := Lib.hid hb
      have ht := take_words bs k b hb
      have hm := hmono.out (k + 1)
      rw [ht, ← HS.out] at hm
      rw [← HS.out] at ht
      obtain ⟨n, f⟩ := b
      cases f with
      | true =>
        have HT := Lib.hid ht
        clear hb ht hm
        go_wp2
        go_round
        case rel => exact ⟨k + 1, s, by omega, by go_num, rfl, by rw [HT.out]; simp⟩
        case measure => simp [intOf]; omega
      | false =>
        simp only [Bool.false_eq_true, if_false] at hm ht
        have HT := Lib.hid ht
        have hn : n ≤ 1048576 := by omega
        clear hb ht hm
        go_wp2
        go_round
        case rel => exact ⟨k + 1, s + n, by omega, by go_num, by go_num, HT.out.symm⟩
        case measure => simp [intOf]; omega
    · have t1 : decide ((k : Int) < bs.length) = false := by simpa using hkl
      go_wp2
      go_ret
      refine ⟨?_, rfl⟩
      have e := HS.out
      rw [List.take_of_length_le (by omega)] at e
      rw [← e]
      rfl
set_option maxHeartbeats 400000 in
theorem rlive_any (R : RefAt B w rb r vb vc) : Calls Try.prog 28 #[.pointer (some ⟨rb, 0, none⟩)] w fun e w' => e = .returned (.int .i64 r.live) ∧ w = w' := by
  obtain ⟨o0, o1, o2⟩ := R.objs
  obtain ⟨og, g, cap, rfl, hog⟩ := row_shape R.blocks
  have hrow := R.blocks
  have hl := R.lenb
  replace hog := Lib.hid hog
  replace hrow := Lib.hid hrow
  obtain ⟨bs, hbs⟩ : ∃ bs, r.bs = bs := ⟨_, rfl⟩
  rw [hbs] at hrow hl hog o1
  have HW := Lib.hid (show r.live = (bs.filter fun b => !b.2).length by rw [← hbs]; rfl)
  clear hbs
  rw [HW.out]
  go_enter Try.func28, Try.ntmps28
  go_wp2
  go_loop [3, 4] (fun un ui => ∃ k s : Nat, k ≤ bs.length ∧ ui = .int .i64 k ∧ un = .int .i64 s ∧ s = ((bs.take k).filter fun b => !b.2).length) (fun _ ui => bs.length - (intOf ui).toNat)
  case atStart => exact ⟨0, 0, by omega, rfl, rfl, by simp⟩
  case round =>
    obtain ⟨k, s, hk, rfl, rfl, hs⟩ := hrel
    have HS := Lib.hid hs
    have hs1 : s ≤ 1000 := by have h1 := List.length_filter_le (fun b : Nat × Bool => !b.2) (bs.take k); rw [← hs, List.length_take] at h1; omega
    clear hs
    by_cases hkl : k < bs.length
    · have t1 : decide ((k : Int) < bs.length) = true := by simpa using hkl
      obtain rfl := hog.out (by omega)
      obtain ⟨b, hb⟩ : ∃ b, bs[k]? = some b := ⟨_, List.getElem?_eq_getElem hkl⟩
      obtain ⟨g0, g1⟩ := block_cells hrow.out rfl rfl k b hb
      have ht := take_live bs k b hb
      rw [← HS.out] at ht
      obtain ⟨n, f⟩ := b
      cases f with
      | true =>
        have HT := Lib.hid ht
        clear hb ht
        go_wp2
        go_round
        case rel => exact ⟨k + 1, s, by omega, by go_num, rfl, by rw [HT.out]; simp⟩
        case measure => simp [intOf]; omega
      | false =>
        simp only [Bool.false_eq_true, if_false] at ht
        have HT := Lib.hid ht
        clear hb ht
        go_wp2
        go_round
        case rel => exact ⟨k + 1, s + 1, by omega, by go_num, by go_num, HT.out.symm⟩
        case measure => simp [intOf]; omega
    · have t1 : decide ((k : Int) < bs.length) = false := by simpa using hkl
      go_wp2
      go_ret
      refine ⟨?_, rfl⟩
      have e := HS.out
      rw [List.take_of_length_le (by omega)] at e
      rw [← e]
      rfl

set_option maxHeartbeats 400000 in
theorem rcheck_any (R : RefAt B w rb r vb vc) (b : Bool) (a n : Int) : Calls Try.prog 34 #[.pointer (some ⟨rb, 0, none⟩), .agg #[.bool b, .int .i64 a, .int .i64 n]] w fun e w' => e = .returned (.int .i64 (r.check b a)) ∧ Below w.heap.size w w' := by
  obtain ⟨o0, o1, o2⟩ := R.objs
  obtain ⟨og, g, cap, rfl, hog⟩ := row_shape R.blocks
  have hrow := R.blocks
  have hl := R.lenb
  have hrb := R.lt
  replace hog := Lib.hid hog
  replace hrow := Lib.hid hrow
  cases b with
  | false =>
    have HE := Lib.hid (show r.check false a = 11 from rfl)
    rw [HE.out]
    go_enter Try.func34, Try.ntmps34
    go_wp2
    go_ret
    exact ⟨rfl, by go_grown⟩
  | true =>
    by_cases h1 : a < 1
    · have s1 : decide (a < 1) = true := by simpa using h1
      have HE := Lib.hid (show r.check true a = 13 by unfold RS.check; rw [if_neg (by simp), if_pos (.inl h1)])
      rw [HE.out]
      go_enter Try.func34, Try.ntmps34
      go_wp2
      go_quiet (fail)
      go_wp2
      go_ret
      exact ⟨rfl, below_box _ _ _ _⟩
    · have s1 : decide (a < 1) = false := by simpa using h1
      by_cases h2 : (r.bs.length : Int) < a
      · have s2 : decide ((r.bs.length : Int) < a) = true := by simpa using h2
        have HE := Lib.hid (show r.check true a = 13 by unfold RS.check; rw [if_neg (by simp), if_pos (.inr h2)])
        rw [HE.out]
        go_enter Try.func34, Try.ntmps34
        go_wp2
        go_quiet (fail)
        go_wp2
        go_ret
        exact ⟨rfl, below_box _ _ _ _⟩
      · have s2 : decide ((r.bs.length : Int) < a) = false := by simpa using h2
        obtain ⟨k, rfl⟩ : ∃ k : Nat, a = (k : Int) + 1 := ⟨(a - 1).toNat, by omega⟩
        obtain rfl := hog.out (by omega)
        have hkl : k < r.bs.length := by omega
        obtain ⟨x, hx⟩ : ∃ x, r.bs[k]? = some x := ⟨_, List.getElem?_eq_getElem hkl⟩
        obtain ⟨g0, g1⟩ := block_cells hrow.out rfl rfl k x hx
        have hE : r.check true ((k : Int) + 1) = if x.2 then 12 else 0 := by
          unfold RS.check
          rw [if_neg (by simp), if_neg (by omega), show ((k : Int) + 1 - 1).toNat = k by omega, hx]
          obtain ⟨n, f⟩ := x
          cases f <;> rfl
        rw [hE]
        clear hx
        have hwr : IntKind.i64.wrap (k : Int) = k := IntWalk.i64_in _ (by omega)
        have hgl : g < w.heap.size := World.block_lt_of_cell? w _ g0
        obtain ⟨m, f⟩ := x
        cases f
        all_goals
          go_enter Try.func34, Try.ntmps34
          go_wp2
          go_quiet (fail)
          go_wp2
          go_quiet (fail)
          go_wp2
          go_ret
          exact ⟨rfl, below_box _ _ _ _⟩

set_option maxHeartbeats 400000 in
theorem rhas_any (R : RefAt B w rb r vb vc) (k m : Nat) (f : Bool) (hk : r.bs[k]? = some (m, f)) (hm : m ≤ 1048576) (b : Bool) (n c : Int) (hc : 0 ≤ c ∧ c ≤ 9223372036854775807) :
    Calls Try.prog 36 #[.pointer (some ⟨rb, 0, none⟩), .agg #[.bool b, .int .i64 ((k : Int) + 1), .int .i64 n], .int .i64 c] w fun e w' => e = .returned (.bool (decide (0 ≤ n ∧ n + c ≤ m))) ∧ Below w.heap.size w w' := by
  obtain ⟨o0, o1, o2⟩ := R.objs
  obtain ⟨og, g, cap, rfl, hog⟩ := row_shape R.blocks
  have hrow := R.blocks
  have hl := R.lenb
  have hrb := R.lt
  have hkl : k < r.bs.length := (List.getElem?_eq_some_iff.1 hk).1
  have hkl' : (k : Int) < r.bs.length := by omega
  obtain rfl := hog (by omega)
  obtain ⟨g0, g1⟩ := block_cells hrow rfl rfl k _ hk
  clear hk hrow
  have hwr : IntKind.i64.wrap (k : Int) = k := IntWalk.i64_in _ (by omega)
  have hgl : g < w.heap.size := World.block_lt_of_cell? w _ g0
  by_cases h1 : 0 ≤ n
  · have s1 : decide (0 ≤ n) = true := by simpa using h1
    by_cases h2 : c ≤ m
    · have s2 : decide (c ≤ (m : Int)) = true := by simpa using h2
      by_cases h3 : n ≤ (m : Int) - c
      · have s3 : decide (n ≤ (m : Int) - c) = true := by simpa using h3
        have HE := Lib.hid (show decide (0 ≤ n ∧ n + c ≤ (m : Int)) = true by simp; omega)
        rw [HE.out]
        go_enter Try.func36, Try.ntmps36
        go_wp2
        go_quiet (fail)
        go_wp2
        go_ret
        exact ⟨rfl, below_box _ _ _ _⟩
      · have s3 : decide (n ≤ (m : Int) - c) = false := by simpa using h3
        have HE := Lib.hid (show decide (0 ≤ n ∧ n + c ≤ (m : Int)) = false by simp; omega)
        rw [HE.out]
        go_enter Try.func36, Try.ntmps36
        go_wp2
        go_quiet (fail)
        go_wp2
        go_ret
        exact ⟨rfl, below_box _ _ _ _⟩
    · have s2 : decide (c ≤ (m : Int)) = false := by simpa using h2
      have HE := Lib.hid (show decide (0 ≤ n ∧ n + c ≤ (m : Int)) = false by simp; omega)
      rw [HE.out]
      go_enter Try.func36, Try.ntmps36
      go_wp2
      go_quiet (fail)
      go_wp2
      go_ret
      exact ⟨rfl, below_box _ _ _ _⟩
  · have s1 : decide (0 ≤ n) = false := by simpa using h1
    have HE := Lib.hid (show decide (0 ≤ n ∧ n + c ≤ (m : Int)) = false by simp; omega)
    rw [HE.out]
    go_enter Try.func36, Try.ntmps36
    go_wp2
    go_quiet (fail)
    go_wp2
    go_ret
    exact ⟨rfl, below_box _ _ _ _⟩
end
end Go.Proofs.Ytbcockaleegicaa
