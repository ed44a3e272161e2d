/-
  Which registers may be unwritten at a place: the plain account, and how marking places finds it. No conditions: definitions and plain lemmas.
-/
import Derived.Test.YtobhfmliaecbjaaDoorMark
namespace Go.Proofs.YtobhfmliaecbjaaDoor
open Go.RowKit

/-- where an instruction at i goes on -/
def goes (x : In) (i j : Nat) : Prop := (j : Int) ∈ x.l ∨ (fallsB x.op = true ∧ j = i + 1)

/-- there is a way to a place on which register r is never written -/
inductive Un (f : List In) (z : Nat → Bool) (r : Nat) : Nat → Prop
  | start : z r = false → Un f z r 0
  | step {i j : Nat} {x : In} : Un f z r i → f[i]? = some x → writesO x ≠ some (r : Int) → goes x i j → Un f z r j

/-- each register is written ahead of where it is read, on all ways -/
def Ahead (f : List In) (z : Nat → Bool) : Prop := ∀ (i : Nat) (x : In) (r : Nat), f[i]? = some x → ((r : Nat) : Int) ∈ readsL x → ¬ Un f z r i

/-- registers and labels are such -/
structure Fit (f : List In) : Prop where
  reads : ∀ (i : Nat) (x : In), f[i]? = some x → ∀ n, n ∈ readsL x → 0 ≤ n ∧ n < 16
  writes : ∀ (i : Nat) (x : In), f[i]? = some x → ∀ n, writesO x = some n → 0 ≤ n ∧ n < 16
  labels : ∀ (i : Nat) (x : In), f[i]? = some x → ∀ n, n ∈ x.l → 0 ≤ n ∧ n < f.length
  last : ∀ (i : Nat) (x : In), f[i]? = some x → fallsB x.op = true → i + 1 < f.length

theorem Fit.goes {f : List In} (h : Fit f) {i j : Nat} {x : In} (hx : f[i]? = some x) (hg : goes x i j) : j < f.length := by
  rcases hg with h1 | ⟨h1, rfl⟩
  · have := h.labels i x hx _ h1; omega
  · exact h.last i x hx h1

def cnt (m : Nat) : Nat := (List.range 16).countP fun r => m.testBit r
def wt : Option Nat → Nat
  | none => 17
  | some m => cnt m
def phi (st : Md) : Nat := (st.map wt).sum
def mu (st : Md) (todo : List Int) : Nat := 2 * phi st + todo.length

theorem cnt_le (m : Nat) : cnt m ≤ 16 := Nat.le_trans List.countP_le_length (by simp)
theorem countP_lt {α : Type} (p q : α → Bool) : ∀ l : List α, (∀ x ∈ l, q x = true → p x = true) → (∃ x ∈ l, p x = true ∧ q x = false) → l.countP q < l.countP p
  | [], _, h => by obtain ⟨x, hx, _⟩ := h; simp at hx
  | a :: l, h1, h2 => by
    have hl : l.countP q ≤ l.countP p := List.countP_mono_left fun x hx => h1 x (by simp [hx])
    simp only [List.countP_cons]
    obtain ⟨x, hx, hp, hq⟩ := h2
    rcases List.mem_cons.1 hx with rfl | hx
    · simp [hp, hq]; omega
    · have := countP_lt p q l (fun y hy => h1 y (by simp [hy])) ⟨x, hx, hp, hq⟩
      have h3 := h1 a (by simp)
      cases ha : q a with
      | false => simp; omega
      | true => simp [h3 ha]; omega
theorem cnt_and {now m : Nat} {r : Nat} (hr : r < 16) (h1 : m.testBit r = true) (h2 : now.testBit r = false) : cnt (now &&& m) < cnt m := by
  refine countP_lt _ _ _ (fun x _ h => ?_) ⟨r, by simp [hr], h1, by simp [h2]⟩
  simp at h
  exact h.2
theorem phi_set : ∀ (st : Md) (i : Nat) (o o' : Option Nat), st[i]? = some o → phi (st.set i o') + wt o = phi st + wt o'
  | [], _, _, _, h => by simp at h
  | a :: st, 0, o, o', h => by
    simp at h; subst h
    simp [phi]; omega
  | a :: st, i + 1, o, o', h => by
    have := phi_set st i o o' (by simpa using h)
    simp only [phi, List.set_cons_succ, List.map_cons, List.sum_cons] at this ⊢
    omega

/-- what holds whenever a place is taken -/
structure Inv0 (f : List In) (z : Nat → Bool) (st : Md) (todo : List Int) : Prop where
  len : st.length = f.length
  small : ∀ m, some m ∈ st → m < 65536
  tod : ∀ p ∈ todo, ∃ (i m : Nat), p = i ∧ st[i]? = some (some m)
  zero : ∃ m : Nat, st[0]? = some (some m) ∧ ∀ r, r < 16 → m.testBit r = true → z r = true
  sound : ∀ (i m r : Nat), st[i]? = some (some m) → r < 16 → m.testBit r = false → Un f z r i

def Flown (st : Md) (x : In) (i m : Nat) : Prop := ∀ j, goes x i j → ∃ m' : Nat, st[j]? = some (some m') ∧ ∀ r, r < 16 → m'.testBit r = true → m.testBit r = true ∨ writesO x = some (r : Int)
def Done (f : List In) (st : Md) (todo : List Int) (k : Nat) : Prop := ∀ (m : Nat) (x : In), st[k]? = some (some m) → (k : Int) ∉ todo → f[k]? = some x → (∀ r : Nat, (r : Int) ∈ readsL x → m.testBit r = true) ∧ Flown st x k m

structure Inv (f : List In) (z : Nat → Bool) (st : Md) (todo : List Int) : Prop where
  base : Inv0 f z st todo
  done : ∀ k, Done f st todo k

/-- .. while the places that i goes on with are marked -/
structure Mid (f : List In) (z : Nat → Bool) (st : Md) (todo : List Int) (i A now : Nat) (x : In) (dn : Nat → Prop) : Prop where
  base : Inv0 f z st todo
  done : ∀ k, k ≠ i → Done f st todo k
  at_ : f[i]? = some x
  reads : ∀ r : Nat, (r : Int) ∈ readsL x → A.testBit r = true
  nowlt : now < 65536
  nows : ∀ r, r < 16 → (now.testBit r = true ↔ A.testBit r = true ∨ writesO x = some (r : Int))
  un : ∀ r, r < 16 → now.testBit r = false → ∀ j, goes x i j → Un f z r j
  me : (i : Int) ∈ todo ∨ (st[i]? = some (some A) ∧ ∀ j, dn j → ∃ m' : Nat, st[j]? = some (some m') ∧ ∀ r, r < 16 → m'.testBit r = true → now.testBit r = true)

theorem markS_mu (st : Md) (todo : List Int) (pl now : Nat) (hp : pl < st.length) (hs : ∀ m, some m ∈ st → m < 65536) (hn : now < 65536) : mu (markS st todo pl now).1 (markS st todo pl now).2 ≤ mu st todo := by
  obtain ⟨o, ho⟩ : ∃ o, st[pl]? = some o := ⟨_, List.getElem?_eq_getElem hp⟩
  cases o with
  | none =>
    have := phi_set st pl none (some now) ho
    have h2 := cnt_le now
    simp only [markS, ho, mu, List.length_append, List.length_singleton]
    simp only [wt] at this
    omega
  | some m =>
    have hm := hs m (List.mem_of_getElem? ho)
    simp only [markS, ho]
    split
    · exact Nat.le_refl _
    · rename_i hc
      rw [andNot16 m now hm hn] at hc
      simp only [Classical.not_forall] at hc
      obtain ⟨r, h1, h2⟩ := hc
      have hr : r < 16 := by
        by_cases hr : r < 16
        · exact hr
        · exfalso
          have : m.testBit r = false := Nat.testBit_lt_two_pow (Nat.lt_of_lt_of_le hm (by simpa using Nat.pow_le_pow_right (show 0 < 2 by decide) (show 16 ≤ r by omega)))
          rw [this] at h1; cases h1
      have h3 := cnt_and (now := now) hr h1 (by simpa using h2)
      have := phi_set st pl (some m) (some (now &&& m)) ho
      simp only [mu, List.length_append, List.length_singleton]
      simp only [wt] at this
      omega

/-- what marking a place leaves: as it was, or less and to do -/
theorem markS_cases (st : Md) (todo : List Int) (j now : Nat) (hp : j < st.length) (hs : ∀ m, some m ∈ st → m < 65536) (hn : now < 65536) :
    (∃ m : Nat, st[j]? = some (some m) ∧ (∀ r : Nat, m.testBit r = true → now.testBit r = true) ∧ markS st todo j now = (st, todo)) ∨
    (∃ m1 : Nat, m1 < 65536 ∧ markS st todo j now = (st.set j (some m1), todo ++ [(j : Int)]) ∧ (∀ r : Nat, m1.testBit r = true → now.testBit r = true) ∧
      (∀ m : Nat, st[j]? = some (some m) → ∀ r : Nat, m1.testBit r = true → m.testBit r = true) ∧ ∀ r : Nat, m1.testBit r = false → now.testBit r = false ∨ ∃ m : Nat, st[j]? = some (some m) ∧ m.testBit r = false) := by
  obtain ⟨o, ho⟩ : ∃ o, st[j]? = some o := ⟨_, List.getElem?_eq_getElem hp⟩
  cases o with
  | none => exact .inr ⟨now, hn, by simp [markS, ho], fun r h => h, fun (m : Nat) hm => (by rw [ho] at hm; cases hm), fun r h => .inl h⟩
  | some m =>
    have hm := hs m (List.mem_of_getElem? ho)
    by_cases hc : (bits .andNot .u16 (m : Int) (now : Int) == 0) = true
    · exact .inl ⟨m, ho, (andNot16 m now hm hn).1 hc, by simp only [markS, ho]; rw [if_pos hc]⟩
    · refine .inr ⟨now &&& m, Nat.lt_of_le_of_lt Nat.and_le_left hn, by simp only [markS, ho]; rw [if_neg hc], fun r h => by simp at h; exact h.1, fun m' hm' r h => ?_, fun r h => ?_⟩
      · rw [ho] at hm'; cases hm'
        simp at h; exact h.2
      · rw [Nat.testBit_and] at h
        cases hh : now.testBit r with
        | false => exact .inl rfl
        | true => rw [hh] at h; exact .inr ⟨m, ho, by simpa using h⟩

theorem get_set {st : Md} {j k m1 : Nat} {o : Option Nat} (h : (st.set j (some m1))[k]? = some o) : (k = j ∧ o = some m1) ∨ (k ≠ j ∧ st[k]? = some o) := by
  rw [List.getElem?_set] at h
  split at h
  · rename_i e
    split at h
    · cases h; exact .inl ⟨e.symm, rfl⟩
    · cases h
  · rename_i e
    exact .inr ⟨fun h => e h.symm, h⟩
theorem set_get {st : Md} {j m1 : Nat} (hj : j < st.length) : (st.set j (some m1))[j]? = some (some m1) := by simp [hj]
theorem set_ne {st : Md} {j k m1 : Nat} (h : k ≠ j) : (st.set j (some m1))[k]? = st[k]? := by rw [List.getElem?_set, if_neg (fun e => h e.symm)]

theorem Mid.mark {f : List In} {z : Nat → Bool} {st : Md} {todo : List Int} {i A now : Nat} {x : In} {dn : Nat → Prop} (M : Mid f z st todo i A now x dn) (hF : Fit f) (j : Nat) (hg : goes x i j) :
    Mid f z (markS st todo j now).1 (markS st todo j now).2 i A now x fun k => dn k ∨ k = j := by
  have hjl : j < st.length := by rw [M.base.len]; exact hF.goes M.at_ hg
  rcases markS_cases st todo j now hjl M.base.small M.nowlt with ⟨m, hm, hle, e⟩ | ⟨m1, hm1, e, hnow, hold, hfalse⟩
  · rw [e]
    refine ⟨M.base, M.done, M.at_, M.reads, M.nowlt, M.nows, M.un, ?_⟩
    rcases M.me with h | ⟨h1, h2⟩
    · exact .inl h
    · refine .inr ⟨h1, fun k hk => ?_⟩
      rcases hk with hk | rfl
      · exact h2 k hk
      · exact ⟨m, hm, fun r _ h => hle r h⟩
  · rw [e]
    -- what a place is now, against before
    have less : ∀ (k m' : Nat), st[k]? = some (some m') → ∃ m'' : Nat, (st.set j (some m1))[k]? = some (some m'') ∧ ∀ r, m''.testBit r = true → m'.testBit r = true := fun k m' hk => by
      by_cases ek : k = j
      · subst ek
        exact ⟨m1, set_get hjl, fun r h => hold m' hk r h⟩
      · exact ⟨m', (set_ne ek).trans hk, fun r h => h⟩
    refine ⟨⟨?_, ?_, ?_, ?_, ?_⟩, ?_, M.at_, M.reads, M.nowlt, M.nows, M.un, ?_⟩
    · rw [List.length_set]; exact M.base.len
    · intro m hm
      rcases List.mem_or_eq_of_mem_set hm with h | h
      · exact M.base.small m h
      · cases h; exact hm1
    · intro p hp
      rcases List.mem_append.1 hp with h | h
      · obtain ⟨k, m, h1, h2⟩ := M.base.tod p h
        obtain ⟨m'', h3, _⟩ := less k m h2
        exact ⟨k, m'', h1, h3⟩
      · simp at h
        exact ⟨j, m1, h, set_get hjl⟩
    · obtain ⟨m, h1, h2⟩ := M.base.zero
      obtain ⟨m'', h3, h4⟩ := less 0 m h1
      exact ⟨m'', h3, fun r hr h => h2 r hr (h4 r h)⟩
    · intro k m r hk hr hb
      rcases get_set hk with ⟨rfl, h⟩ | ⟨h1, h2⟩
      · cases h
        rcases hfalse r hb with h | ⟨m, h1, h2⟩
        · exact M.un r hr h _ hg
        · exact M.base.sound _ m r h1 hr h2
      · exact M.base.sound k m r h2 hr hb
    · intro k hki m y hk hnt hy
      have hkj : k ≠ j := fun e => hnt (by simp [e])
      have hk0 : st[k]? = some (some m) := by rw [← hk, set_ne hkj]
      obtain ⟨h1, h2⟩ := M.done k hki m y hk0 (fun h => hnt (by simp [h])) hy
      refine ⟨h1, fun t ht => ?_⟩
      obtain ⟨m', h3, h4⟩ := h2 t ht
      obtain ⟨m'', h5, h6⟩ := less t m' h3
      exact ⟨m'', h5, fun r hr h => h4 r hr (h6 r h)⟩
    · by_cases eij : i = j
      · exact .inl (by simp [eij])
      · rcases M.me with h | ⟨h1, h2⟩
        · exact .inl (by simp [h])
        · refine .inr ⟨(set_ne eij).trans h1, fun k hk => ?_⟩
          by_cases ek : k = j
          · subst ek
            exact ⟨m1, set_get hjl, fun r _ h => hnow r h⟩
          · rcases hk with hk | hk
            · obtain ⟨m', h3, h4⟩ := h2 k hk
              exact ⟨m', (set_ne ek).trans h3, h4⟩
            · exact absurd hk ek

theorem Mid.fin {f : List In} {z : Nat → Bool} {st : Md} {todo : List Int} {i A now : Nat} {x : In} {dn : Nat → Prop} (M : Mid f z st todo i A now x dn) (hd : ∀ j, goes x i j → dn j) : Inv f z st todo := by
  refine ⟨M.base, fun k => ?_⟩
  by_cases hk : k = i
  · subst hk
    intro m y hm hnt hy
    rw [M.at_] at hy
    cases hy
    rcases M.me with h | ⟨h1, h2⟩
    · exact absurd h hnt
    · rw [h1] at hm
      cases hm
      refine ⟨M.reads, fun j hj => ?_⟩
      obtain ⟨m', h3, h4⟩ := h2 j (hd j hj)
      exact ⟨m', h3, fun r hr h => (M.nows r hr).1 (h4 r hr h)⟩
  · exact M.done k hk

theorem Inv.pop {f : List In} {z : Nat → Bool} {st : Md} {todo : List Int} {i A now : Nat} {x : In} (h : Inv f z st (todo ++ [(i : Int)])) (hi : st[i]? = some (some A)) (hx : f[i]? = some x) (hr : ∀ r : Nat, (r : Int) ∈ readsL x → A.testBit r = true)
    (hlt : now < 65536) (hn : ∀ r, r < 16 → (now.testBit r = true ↔ A.testBit r = true ∨ writesO x = some (r : Int))) : Mid f z st todo i A now x fun _ => False := by
  refine ⟨⟨h.base.len, h.base.small, fun p hp => h.base.tod p (by simp [hp]), h.base.zero, h.base.sound⟩, fun k hk m y hm hnt hy => h.done k m y hm (by simp [hnt]; omega) hy, hx, hr, hlt, hn, fun r hr' hb j hg => ?_, .inr ⟨hi, fun j hj => hj.elim⟩⟩
  have h1 : A.testBit r = false ∧ writesO x ≠ some (r : Int) := by
    have := mt (hn r hr').2 (by simp [hb])
    constructor
    · cases hA : A.testBit r with
      | false => rfl
      | true => exact absurd (.inl hA) this
    · exact fun e => this (.inr e)
  exact .step (h.base.sound i A r hi hr' h1.1) hx h1.2 hg

theorem Inv.ahead {f : List In} {z : Nat → Bool} {st : Md} (h : Inv f z st []) (hF : Fit f) : Ahead f z := by
  have key : ∀ r : Nat, r < 16 → ∀ i, Un f z r i → ∃ m, st[i]? = some (some m) ∧ m.testBit r = false := fun r hr i hu => by
    induction hu with
    | start hz =>
      obtain ⟨m, h1, h2⟩ := h.base.zero
      refine ⟨m, h1, ?_⟩
      cases hb : m.testBit r with
      | false => rfl
      | true => rw [h2 r hr hb] at hz; cases hz
    | step hu hx hw hg ih =>
      obtain ⟨m, h1, h2⟩ := ih
      obtain ⟨_, h4⟩ := h.done _ m _ h1 (by simp) hx
      obtain ⟨m', h5, h6⟩ := h4 _ hg
      refine ⟨m', h5, ?_⟩
      cases hb : m'.testBit r with
      | false => rfl
      | true =>
        rcases h6 r hr hb with h | h
        · rw [h2] at h; cases h
        · exact absurd h hw
  intro i x r hx hr hu
  have hr16 : r < 16 := by have := hF.reads i x hx _ hr; omega
  obtain ⟨m, h1, h2⟩ := key r hr16 i hu
  have := (h.done i m x h1 (by simp) hx).1 r hr
  rw [h2] at this
  cases this

theorem Inv.not_ahead {f : List In} {z : Nat → Bool} {st : Md} {todo : List Int} {i A r : Nat} {x : In} (h : Inv0 f z st todo) (hi : st[i]? = some (some A)) (hx : f[i]? = some x) (hr : (r : Int) ∈ readsL x) (hr16 : r < 16) (hb : A.testBit r = false) : ¬ Ahead f z := fun hA =>
  hA i x r hx hr (h.sound i A r hi hr16 hb)

/-- the beginning -/
theorem Inv.first (f : List In) (z : Nat) (hz : z < 65536) (hf : 0 < f.length) : Inv f z.testBit (markS (List.replicate f.length none) [] 0 z).1 (markS (List.replicate f.length none) [] 0 z).2 := by
  have h0 : (List.replicate f.length (none : Option Nat))[0]? = some none := by simp [hf]
  have e : markS (List.replicate f.length none) [] 0 z = ((List.replicate f.length none).set 0 (some z), [0]) := by simp [markS, h0]
  rw [e]
  have only : ∀ (k m : Nat), ((List.replicate f.length (none : Option Nat)).set 0 (some z))[k]? = some (some m) → k = 0 ∧ m = z := fun k m hk => by
    rcases get_set hk with ⟨h1, h2⟩ | ⟨_, h2⟩
    · cases h2; exact ⟨h1, rfl⟩
    · simp [List.getElem?_replicate] at h2
  refine ⟨⟨by simp, ?_, ?_, ⟨z, set_get (by simpa using hf), fun r _ h => h⟩, fun i m r hi _ hb => ?_⟩, fun k m x hk hnt _ => ?_⟩
  · intro m hm
    rcases List.mem_or_eq_of_mem_set hm with h | h
    · simp [List.mem_replicate] at h
    · cases h; exact hz
  · intro p hp
    simp at hp
    exact ⟨0, z, by simpa using hp, set_get (by simpa using hf)⟩
  · obtain ⟨rfl, rfl⟩ := only i m hi
    exact .start hb
  · obtain ⟨rfl, rfl⟩ := only k m hk
    exact absurd (by simp) hnt

theorem mu_first (f : List In) (z : Nat) (hz : z < 65536) (hf : 0 < f.length) : mu (markS (List.replicate f.length none) [] 0 z).1 (markS (List.replicate f.length none) [] 0 z).2 ≤ 34 * f.length := by
  refine Nat.le_trans (markS_mu _ _ 0 z (by simpa using hf) (fun m hm => by simp [List.mem_replicate] at hm) hz) ?_
  simp [mu, phi, wt]
  omega
end Go.Proofs.YtobhfmliaecbjaaDoor
