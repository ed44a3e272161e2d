/-
  mem's memory and the document's answer alike: the plain part. No conditions: lemmas.
-/
import Derived.Test.YtbcockaleegicaaKeep
import Derived.Test.YtbcockaleegicaaRefG
namespace Go.Proofs.Ytbcockaleegicaa
open Go.RowKit

theorem look_drop (cs : List Ce) (a n a' n' : Int) : lookc (cs.filter (other a n)) a' n' = if a' = a ∧ n' = n then none else lookc cs a' n' := by
  induction cs with
  | nil => simp [lookc]
  | cons c cs ih =>
    unfold lookc at ih ⊢
    by_cases h : other a n c = true
    · rw [List.filter_cons_of_pos h, List.find?_cons, List.find?_cons]
      cases hb : (c.a == a' && c.n == n') with
      | true =>
        simp only [Option.map_some]
        rw [if_neg]
        rintro ⟨rfl, rfl⟩
        unfold other at h
        simp [hb] at h
      | false => exact ih
    · rw [List.filter_cons_of_neg h, ih, List.find?_cons]
      have h2 : c.a = a ∧ c.n = n := by unfold other at h; simpa using h
      by_cases hh : a' = a ∧ n' = n
      · rw [if_pos hh, if_pos hh]
      · rw [if_neg hh, if_neg hh]
        have : (c.a == a' && c.n == n') = false := by
          rw [h2.1, h2.2]
          by_cases e : a = a'
          · subst e
            have : n ≠ n' := fun e => hh ⟨rfl, e.symm⟩
            simp [this]
          · simp [e]
        rw [this]
theorem look_append (cs : List Ce) (c : Ce) (a' n' : Int) (h : lookc cs c.a c.n = none) : lookc (cs ++ [c]) a' n' = if a' = c.a ∧ n' = c.n then some c.x else lookc cs a' n' := by
  unfold lookc at *
  rw [List.find?_append]
  by_cases hh : a' = c.a ∧ n' = c.n
  · obtain ⟨rfl, rfl⟩ := hh
    rw [if_pos ⟨rfl, rfl⟩]
    have : cs.find? (fun e => e.a == c.a && e.n == c.n) = none := by simpa using h
    rw [this]
    simp
  · rw [if_neg hh]
    have : (c.a == a' && c.n == n') = false := by
      by_cases e : c.a = a'
      · have : c.n ≠ n' := fun e2 => hh ⟨e.symm, e2.symm⟩
        simp [this]
      · simp [e]
    cases hf : cs.find? (fun e => e.a == a' && e.n == n') with
    | none => simp [this]
    | some y => simp
theorem look_store (cs : List Ce) (a n : Int) (x : Wd) (a' n' : Int) : lookc (cs.filter (other a n) ++ [⟨a, n, x⟩]) a' n' = if a' = a ∧ n' = n then some x else lookc cs a' n' := by
  rw [look_append _ _ _ _ (by rw [look_drop]; simp), look_drop]
  by_cases h : a' = a ∧ n' = n
  · rw [if_pos h, if_pos h]
  · rw [if_neg h, if_neg h, if_neg h]

/-- the two answer alike -/
structure Sim (S : MS) (r : RS) : Prop where
  room : S.room = r.room
  len : S.blocks.length = r.bs.length
  alive : ∀ (k m : Nat), r.bs[k]? = some (m, false) → ∃ l, S.at k = some l ∧ l.length = m ∧ ∀ (i : Nat) (c : Cl), l[i]? = some c → lookc r.cs ((k : Int) + 1) i = c
  dead : ∀ (k m : Nat), r.bs[k]? = some (m, true) → S.at k = none
  words : S.words = r.words
  live : S.live = r.live
  fresh : ∀ c ∈ r.cs, c.a ≤ r.bs.length

theorem Sim.at_bs {S : MS} {r : RS} (h : Sim S r) {k : Nat} {l : List Cl} (hl : S.at k = some l) : r.bs[k]? = some (l.length, false) := by
  have hk := at_lt hl
  rw [h.len] at hk
  obtain ⟨⟨m, f⟩, hb⟩ : ∃ b, r.bs[k]? = some b := ⟨_, List.getElem?_eq_getElem hk⟩
  cases f
  · obtain ⟨l', h1, h2, _⟩ := h.alive k m hb
    rw [hl] at h1
    cases h1
    rw [hb, h2]
  · have := h.dead k m hb
    rw [hl] at this
    cases this
theorem Sim.look {S : MS} {r : RS} (h : Sim S r) {k : Nat} {l : List Cl} (hl : S.at k = some l) {i : Nat} {c : Cl} (hc : l[i]? = some c) : lookc r.cs ((k : Int) + 1) i = c := by
  obtain ⟨l', h1, _, h3⟩ := h.alive k _ (h.at_bs hl)
  rw [hl] at h1
  cases h1
  exact h3 i c hc

theorem Sim.find {S : MS} {r : RS} (h : Sim S r) (b : Bool) (a : Int) : findE S b a = r.check b a := by
  unfold findE RS.check
  rw [h.len]
  by_cases hb : b = false
  · rw [if_pos hb, if_pos hb]
  · rw [if_neg hb, if_neg hb]
    by_cases h1 : a < 1 ∨ (r.bs.length : Int) < a
    · rw [if_pos h1, if_pos h1]
    · rw [if_neg h1, if_neg h1]
      have hk : (a - 1).toNat < r.bs.length := by omega
      obtain ⟨⟨m, f⟩, hbb⟩ : ∃ b, r.bs[(a - 1).toNat]? = some b := ⟨_, List.getElem?_eq_getElem hk⟩
      rw [hbb]
      cases f
      · obtain ⟨l, hl, _⟩ := h.alive _ m hbb
        rw [hl]
      · rw [h.dead _ m hbb]
theorem Sim.span {S : MS} {r : RS} (h : Sim S r) (b : Bool) (a n c : Int) : spanE S b a n c = if r.check b a ≠ 0 then r.check b a else if ¬ (0 ≤ n ∧ n + c ≤ r.size a) then 13 else 0 := by
  unfold spanE
  rw [h.find]
  by_cases h1 : r.check b a = 0
  · rw [if_neg (by simpa using h1), if_neg (by simpa using h1)]
    have h2 := h1
    rw [← h.find] at h2
    obtain ⟨k, l, rfl, rfl, hl⟩ := findE_zero h2
    rw [show ((k : Int) + 1 - 1).toNat = k by omega, hl, size_at (h.at_bs hl)]
    by_cases h3 : 0 ≤ n ∧ n + c ≤ l.length
    · rw [if_neg (by simpa using h3)]
      show (if n < 0 ∨ (l.length : Int) < n + c then (13 : Int) else 0) = 0
      rw [if_neg (by omega)]
    · rw [if_pos h3]
      show (if n < 0 ∨ (l.length : Int) < n + c then (13 : Int) else 0) = 13
      rw [if_pos (by omega)]
  · rw [if_pos h1, if_pos h1]

theorem scan_one (l : List Cl) (N : Nat) : scanE (l.drop N) 1 = match l[N]? with | none => 13 | some none => 14 | some (some _) => 0 := by
  have hd := scanE_drop l N 1 0 (by omega)
  simp only [Nat.add_zero, Nat.sub_zero] at hd
  rw [hd]
  cases l[N]? with
  | none => rfl
  | some c =>
    cases c
    · rfl
    · show scanE (l.drop (N + (0 + 1))) 0 = 0
      cases l.drop (N + (0 + 1)) <;> rfl

theorem scan_all : ∀ (C : Nat) (l : List Cl) (N : Nat), scanE (l.drop N) C = 0 → ∀ j, j < C → ∃ y, l[N + j]? = some (some y)
  | 0, _, _, _, j, hj => absurd hj (Nat.not_lt_zero _)
  | C + 1, l, N, h, j, hj => by
    have hd := scanE_drop l N (C + 1) 0 (by omega)
    simp only [Nat.add_zero, Nat.sub_zero] at hd
    rw [hd] at h
    cases hx : l[N]? with
    | none => rw [hx] at h; simp at h
    | some c =>
      cases c with
      | none => rw [hx] at h; simp at h
      | some y =>
        rw [hx] at h
        by_cases e : j = 0
        · subst e; exact ⟨y, hx⟩
        · obtain ⟨z, hz⟩ := scan_all C l (N + 1) (by simpa using h) (j - 1) (by omega)
          exact ⟨z, by rw [show N + j = N + 1 + (j - 1) by omega]; exact hz⟩

theorem Sim.load {S : MS} {r : RS} (h : Sim S r) (b : Bool) (a n : Int) : loadR S b a n = r.loadR b a n := by
  unfold loadR RS.loadR
  by_cases h1 : r.check b a = 0
  · have h2 := h1
    rw [← h.find] at h2
    obtain ⟨k, l, rfl, rfl, hl⟩ := findE_zero h2
    rw [if_neg (c := r.check true ((k : Int) + 1) ≠ 0) (by simpa using h1), size_at (h.at_bs hl), storedE_at hl n 1 (by decide), show ((k : Int) + 1 - 1).toNat = k by omega, hl]
    by_cases h3 : 0 ≤ n ∧ n + 1 ≤ l.length
    · rw [if_neg (c := ¬ (0 ≤ n ∧ n + 1 ≤ (l.length : Int))) (by simpa using h3)]
      obtain ⟨N, rfl⟩ : ∃ N : Nat, n = N := ⟨n.toNat, by omega⟩
      rw [if_neg (c := (N : Int) < 0 ∨ (l.length : Int) ≤ N) (by omega), Int.toNat_natCast, show (1 : Int).toNat = 1 from rfl, scan_one]
      obtain ⟨c, hc⟩ : ∃ c, l[N]? = some c := ⟨_, List.getElem?_eq_getElem (by omega)⟩
      rw [hc, h.look hl hc]
      cases c <;> simp [z3, hc]
    · rw [if_pos (c := n < 0 ∨ (l.length : Int) ≤ n) (by omega), if_pos (by simp), if_pos h3]
      rfl
  · rw [if_pos h1]
    have he : storedE S b a n 1 = r.check b a := by
      unfold storedE
      rw [if_neg (by decide), h.find, if_pos h1]
    rw [he, if_pos h1]
    rfl

theorem Sim.read {S : MS} {r : RS} (h : Sim S r) (b : Bool) (a n : Int) (C : Nat) : storedE S b a n C = r.readE b a n C 0 := by
  cases C with
  | zero => rfl
  | succ C =>
    by_cases h1 : r.check b a = 0
    · have h2 := h1
      rw [← h.find] at h2
      obtain ⟨k, l, rfl, rfl, hl⟩ := findE_zero h2
      have hld : ∀ n, (r.loadR true ((k : Int) + 1) n).2 = if n < 0 ∨ (l.length : Int) ≤ n then 13 else scanE (l.drop n.toNat) 1 := by
        intro n
        rw [← h.load]
        unfold loadR
        rw [storedE_at hl n 1 (by decide), show ((k : Int) + 1 - 1).toNat = k by omega, hl, show (1 : Int).toNat = 1 from rfl]
        by_cases h3 : n < 0 ∨ (l.length : Int) ≤ n
        · rw [if_pos h3]; simp
        · rw [if_neg h3, scan_one]
          obtain ⟨c, hc⟩ : ∃ c, l[n.toNat]? = some c := ⟨_, List.getElem?_eq_getElem (by omega)⟩
          rw [hc]
          cases c <;> simp [hc]
      rw [storedE_at hl _ _ (by omega), Int.toNat_natCast]
      by_cases h3 : n < 0 ∨ (l.length : Int) ≤ n
      · rw [if_pos h3]
        unfold RS.readE
        rw [show n + ((0 : Nat) : Int) = n by omega, hld, if_pos h3, if_neg (by decide)]
      · rw [if_neg h3]
        obtain ⟨N, rfl⟩ : ∃ N : Nat, n = N := ⟨n.toNat, by omega⟩
        have key : ∀ c i : Nat, scanE (l.drop (N + i)) c = r.readE true ((k : Int) + 1) N c i := by
          intro c
          induction c with
          | zero => intro i; unfold RS.readE; cases l.drop (N + i) <;> rfl
          | succ c ih =>
            intro i
            unfold RS.readE
            rw [hld]
            have hd := scanE_drop l (N + i) (c + 1) 0 (by omega)
            simp only [Nat.add_zero, Nat.sub_zero] at hd
            rw [hd]
            by_cases h4 : (l.length : Int) ≤ N + i
            · rw [if_pos (c := (N : Int) + i < 0 ∨ (l.length : Int) ≤ N + i) (by omega), if_neg (by decide), List.getElem?_eq_none (by omega)]
            · rw [if_neg (c := (N : Int) + i < 0 ∨ (l.length : Int) ≤ N + i) (by omega), show ((N : Int) + i).toNat = N + i by omega, scan_one]
              obtain ⟨e, he⟩ : ∃ e, l[N + i]? = some e := ⟨_, List.getElem?_eq_getElem (by omega)⟩
              rw [he]
              cases e with
              | none => simp
              | some y => simpa [Nat.add_assoc] using ih (i + 1)
        have := key (C + 1) 0
        simpa using this
    · unfold storedE RS.readE
      have he : (r.loadR b a (n + ((0 : Nat) : Int))).2 = r.check b a := by unfold RS.loadR; rw [if_pos h1]
      rw [if_neg (by omega), h.find, if_pos h1, he, if_neg h1]

theorem Sim.mk' (m : Int) : Sim ⟨m, []⟩ ⟨m, [], []⟩ := ⟨rfl, rfl, fun k m h => by simp at h, fun k m h => by simp at h, rfl, rfl, fun c h => by cases h⟩

theorem Sim.push {S : MS} {r : RS} (h : Sim S r) (n : Nat) : Sim (S.push n) ⟨r.room, r.bs ++ [(n, false)], r.cs⟩ := by
  refine ⟨h.room, by rw [push_len, List.length_append, h.len]; rfl, ?_, ?_, by rw [words_push, words_push', h.words], ?_, fun c hc => ?_⟩
  · intro k m hk
    show ∃ l, (S.push n).at k = some l ∧ _
    rw [at_push]
    rcases Nat.lt_trichotomy k r.bs.length with h1 | h1 | h1
    · rw [if_neg (by rw [h.len]; omega)]
      exact h.alive k m (by rw [List.getElem?_append_left h1] at hk; exact hk)
    · subst h1
      rw [if_pos h.len.symm]
      simp at hk
      subst hk
      refine ⟨_, rfl, by simp, fun i c hc => ?_⟩
      have hc' : c = none := by
        rw [List.getElem?_replicate] at hc
        split at hc
        · cases hc; rfl
        · cases hc
      subst hc'
      show (r.cs.find? _).map _ = none
      rw [Option.map_eq_none_iff, List.find?_eq_none]
      intro c hc
      have := h.fresh c hc
      have h3 : c.a ≠ (r.bs.length : Int) + 1 := by omega
      simp [h3]
    · rw [List.getElem?_eq_none (by simp; omega)] at hk
      cases hk
  · intro k m hk
    rw [at_push]
    rcases Nat.lt_trichotomy k r.bs.length with h1 | h1 | h1
    · rw [if_neg (by rw [h.len]; omega)]
      exact h.dead k m (by rw [List.getElem?_append_left h1] at hk; exact hk)
    · subst h1; simp at hk
    · rw [List.getElem?_eq_none (by simp; omega)] at hk
      cases hk
  · rw [live_push, h.live]
    show _ = ((r.bs ++ [(n, false)]).filter _).length
    rw [List.filter_append, List.length_append]
    rfl
  · have := h.fresh c hc
    show c.a ≤ ((r.bs ++ [(n, false)]).length : Int)
    rw [List.length_append]
    simp
    omega

theorem live_free (bs : List (Nat × Bool)) (k m : Nat) (h : bs[k]? = some (m, false)) : ((bs.set k (m, true)).filter fun b => !b.2).length + 1 = (bs.filter fun b => !b.2).length := by
  induction bs generalizing k with
  | nil => simp at h
  | cons z l ih =>
    cases k with
    | zero => simp at h; subst h; simp
    | succ k =>
      have := ih k (by simpa using h)
      rw [List.set_cons_succ, List.filter_cons, List.filter_cons]
      obtain ⟨q, f⟩ := z
      cases f
      · exact congrArg (· + 1) this
      · exact this

theorem Sim.free {S : MS} {r : RS} (h : Sim S r) {k : Nat} {l : List Cl} (hl : S.at k = some l) : Sim (S.setb k none) ⟨r.room, r.bs.set k (l.length, true), r.cs⟩ := by
  have hb := h.at_bs hl
  have hk := at_lt hl
  refine ⟨h.room, by rw [setb_len, List.length_set, h.len], ?_, ?_, ?_, ?_, fun c hc => ?_⟩
  · intro j m hj
    rw [at_setb _ _ _ hk]
    by_cases e : j = k
    · subst e
      rw [List.getElem?_set_self (by rw [← h.len]; exact hk)] at hj
      simp at hj
    · rw [if_neg e]
      exact h.alive j m (by rwa [List.getElem?_set_ne (fun e' => e e'.symm)] at hj)
  · intro j m hj
    rw [at_setb _ _ _ hk]
    by_cases e : j = k
    · rw [if_pos e]
    · rw [if_neg e]
      exact h.dead j m (by rwa [List.getElem?_set_ne (fun e' => e e'.symm)] at hj)
  · have h1 := words_none hl
    have h2 := words_free' hb
    have h3 := h.words
    omega
  · have h1 := live_none' hl
    have h2 := live_free _ _ _ hb
    have h3 := h.live
    have h4 : (⟨r.room, r.bs.set k (l.length, true), r.cs⟩ : RS).live + 1 = r.live := h2
    omega
  · have := h.fresh c hc
    show c.a ≤ ((r.bs.set k (l.length, true)).length : Int)
    rw [List.length_set]
    exact this

/-- what a block holds is other than it was -/
theorem Sim.put {S : MS} {r r' : RS} (h : Sim S r) {k : Nat} {l l' : List Cl} (hl : S.at k = some l) (hlen : l'.length = l.length) (hr : r'.room = r.room) (hbs : r'.bs = r.bs)
    (hin : ∀ (i : Nat) (c : Cl), l'[i]? = some c → lookc r'.cs ((k : Int) + 1) i = c) (hout : ∀ (j i : Nat), j ≠ k → lookc r'.cs ((j : Int) + 1) i = lookc r.cs ((j : Int) + 1) i) (hf : ∀ c ∈ r'.cs, c.a ≤ r.bs.length) : Sim (S.setb k (some l')) r' := by
  have hk := at_lt hl
  refine ⟨h.room.trans hr.symm, by rw [setb_len, hbs, h.len], ?_, ?_, ?_, ?_, fun c hc => by rw [hbs]; exact hf c hc⟩
  · intro j m hj
    rw [hbs] at hj
    rw [at_setb _ _ _ hk]
    obtain ⟨l2, h1, h2, h3⟩ := h.alive j m hj
    by_cases e : j = k
    · subst e
      rw [if_pos rfl]
      rw [hl] at h1
      cases h1
      exact ⟨l', rfl, by rw [hlen, h2], hin⟩
    · rw [if_neg e]
      exact ⟨l2, h1, h2, fun i c hc => by rw [hout j i e]; exact h3 i c hc⟩
  · intro j m hj
    rw [hbs] at hj
    rw [at_setb _ _ _ hk]
    by_cases e : j = k
    · subst e
      have := h.at_bs hl
      rw [this] at hj
      simp at hj
    · rw [if_neg e]
      exact h.dead j m hj
  · rw [words_setb hl hlen]
    have : r'.words = r.words := by unfold RS.words; rw [hbs]
    rw [this]; exact h.words
  · rw [live_setb hl]
    have : r'.live = r.live := by unfold RS.live; rw [hbs]
    rw [this]; exact h.live

theorem mem_store {cs : List Ce} {a n : Int} {x : Wd} {c : Ce} (h : c ∈ cs.filter (other a n) ++ [⟨a, n, x⟩]) : c ∈ cs ∨ c.a = a := by
  rcases List.mem_append.1 h with h | h
  · exact .inl (List.mem_filter.1 h).1
  · right; rw [List.mem_singleton.1 h]

theorem Sim.allocR {S : MS} {r : RS} (h : Sim S r) (n : Int) : (allocR S n).1 = (r.allocR n).1 ∧ Sim (allocR S n).2 (r.allocR n).2 := by
  unfold Go.Proofs.Ytbcockaleegicaa.allocR RS.allocR
  rw [h.room, h.words, h.len]
  split
  · exact ⟨rfl, h⟩
  · split
    · exact ⟨rfl, h⟩
    · exact ⟨rfl, h.push _⟩
theorem Sim.freeR {S : MS} {r : RS} (h : Sim S r) (b : Bool) (a n : Int) : (freeR S b a n).1 = (r.freeR b a n).1 ∧ Sim (freeR S b a n).2 (r.freeR b a n).2 := by
  unfold Go.Proofs.Ytbcockaleegicaa.freeR RS.freeR
  rw [h.find]
  by_cases h1 : r.check b a = 0
  · rw [if_neg (c := r.check b a ≠ 0) (by simpa using h1), if_neg (c := r.check b a ≠ 0) (by simpa using h1)]
    by_cases h2 : n = 0
    · rw [if_neg (c := n ≠ 0) (by simpa using h2), if_neg (c := n ≠ 0) (by simpa using h2)]
      have h3 := h1
      rw [← h.find] at h3
      obtain ⟨k, l, rfl, rfl, hl⟩ := findE_zero h3
      rw [show ((k : Int) + 1 - 1).toNat = k by omega, size_at (h.at_bs hl)]
      exact ⟨rfl, h.free hl⟩
    · rw [if_pos (c := n ≠ 0) h2, if_pos (c := n ≠ 0) h2]
      exact ⟨rfl, h⟩
  · rw [if_pos (c := r.check b a ≠ 0) h1, if_pos (c := r.check b a ≠ 0) h1]
    exact ⟨rfl, h⟩
theorem Sim.storeR {S : MS} {r : RS} (h : Sim S r) (b : Bool) (a n : Int) (x : Wd) : (storeR S b a n x).1 = (r.storeR b a n x).1 ∧ Sim (storeR S b a n x).2 (r.storeR b a n x).2 := by
  unfold Go.Proofs.Ytbcockaleegicaa.storeR RS.storeR
  rw [h.span]
  by_cases h1 : r.check b a = 0
  · rw [if_neg (c := r.check b a ≠ 0) (by simpa using h1), if_neg (c := r.check b a ≠ 0) (by simpa using h1)]
    by_cases h2 : 0 ≤ n ∧ n + 1 ≤ r.size a
    · rw [if_neg (c := ¬ (0 ≤ n ∧ n + 1 ≤ (r.size a : Int))) (by simpa using h2), if_neg (c := ¬ (0 ≤ n ∧ n + 1 ≤ (r.size a : Int))) (by simpa using h2), if_neg (by simp)]
      have h3 := h1
      rw [← h.find] at h3
      obtain ⟨k, l, rfl, rfl, hl⟩ := findE_zero h3
      obtain ⟨N, rfl⟩ : ∃ N : Nat, n = N := ⟨n.toNat, by omega⟩
      rw [show ((k : Int) + 1 - 1).toNat = k by omega, hl]
      refine ⟨rfl, h.put hl (by simp) rfl rfl (fun i c hc => ?_) (fun j i hj => ?_) fun c hc => ?_⟩
      · show lookc (r.cs.filter _ ++ _) _ _ = _
        rw [look_store]
        rw [Int.toNat_natCast, List.getElem?_set] at hc
        by_cases e : N = i
        · subst e
          rw [if_pos rfl] at hc
          split at hc
          · cases hc; rw [if_pos ⟨rfl, rfl⟩]
          · cases hc
        · rw [if_neg e] at hc
          rw [if_neg (by omega)]
          exact h.look hl hc
      · show lookc (r.cs.filter _ ++ _) _ _ = _
        rw [look_store, if_neg (by omega)]
      · rcases mem_store hc with h4 | h4
        · exact h.fresh c h4
        · have := at_lt hl; rw [h.len] at this; omega
    · rw [if_pos (c := ¬ (0 ≤ n ∧ n + 1 ≤ (r.size a : Int))) h2, if_pos (c := ¬ (0 ≤ n ∧ n + 1 ≤ (r.size a : Int))) h2, if_pos (by decide)]
      exact ⟨rfl, h⟩
  · rw [if_pos (c := r.check b a ≠ 0) h1, if_pos (c := r.check b a ≠ 0) h1, if_pos h1]
    exact ⟨rfl, h⟩

theorem dropN_room (r : RS) (a n : Int) : ∀ C, (r.dropN a n C).room = r.room ∧ (r.dropN a n C).bs = r.bs
  | 0 => ⟨rfl, rfl⟩
  | C + 1 => dropN_room r a n C
theorem dropN_mem (r : RS) (a n : Int) (c : Ce) : ∀ C, c ∈ (r.dropN a n C).cs → c ∈ r.cs
  | 0, h => h
  | C + 1, h => dropN_mem r a n c C (List.mem_filter.1 h).1
theorem dropN_look (r : RS) (a n a' n' : Int) : ∀ C : Nat, lookc (r.dropN a n C).cs a' n' = if a' = a ∧ n ≤ n' ∧ n' < n + C then none else lookc r.cs a' n'
  | 0 => by rw [if_neg (by omega)]; rfl
  | C + 1 => by
    show lookc ((r.dropN a n C).cs.filter (other a (n + C))) a' n' = _
    rw [look_drop, dropN_look r a n a' n' C]
    by_cases h1 : a' = a ∧ n' = n + C
    · rw [if_pos h1, if_pos (by omega)]
    · rw [if_neg h1]
      by_cases h2 : a' = a ∧ n ≤ n' ∧ n' < n + C
      · rw [if_pos h2, if_pos (by omega)]
      · rw [if_neg h2, if_neg (by omega)]

theorem Sim.clearR {S : MS} {r : RS} (h : Sim S r) (b : Bool) (a n c : Int) : (clearR S b a n c).1 = (r.clearR b a n c).1 ∧ Sim (clearR S b a n c).2 (r.clearR b a n c).2 := by
  unfold Go.Proofs.Ytbcockaleegicaa.clearR RS.clearR
  rw [h.span]
  by_cases h0 : c < 0
  · rw [if_pos h0, if_pos h0]
    exact ⟨rfl, h⟩
  · rw [if_neg h0, if_neg h0]
    by_cases h1 : r.check b a = 0
    · rw [if_neg (c := r.check b a ≠ 0) (by simpa using h1), if_neg (c := r.check b a ≠ 0) (by simpa using h1)]
      by_cases h2 : 0 ≤ n ∧ n + c ≤ r.size a
      · rw [if_neg (c := ¬ (0 ≤ n ∧ n + c ≤ (r.size a : Int))) (by simpa using h2), if_neg (c := ¬ (0 ≤ n ∧ n + c ≤ (r.size a : Int))) (by simpa using h2), if_neg (by simp)]
        have h3 := h1
        rw [← h.find] at h3
        obtain ⟨k, l, rfl, rfl, hl⟩ := findE_zero h3
        rw [size_at (h.at_bs hl)] at h2
        obtain ⟨N, rfl⟩ : ∃ N : Nat, n = N := ⟨n.toNat, by omega⟩
        obtain ⟨C, rfl⟩ : ∃ C : Nat, c = C := ⟨c.toNat, by omega⟩
        rw [show ((k : Int) + 1 - 1).toNat = k by omega, hl, Int.toNat_natCast, Int.toNat_natCast]
        have hle : N + (List.replicate C (none : Cl)).length ≤ l.length := by rw [List.length_replicate]; omega
        refine ⟨rfl, h.put hl (lay_length _ _ _ hle) (dropN_room _ _ _ _).1 (dropN_room _ _ _ _).2 (fun i c hc => ?_) (fun j i hj => ?_) fun c hc => h.fresh c (dropN_mem _ _ _ _ _ hc)⟩
        · rw [dropN_look]
          rw [lay_get _ _ _ _ hle, List.length_replicate] at hc
          by_cases e1 : i < N
          · rw [if_pos e1] at hc
            rw [if_neg (by omega)]
            exact h.look hl hc
          · rw [if_neg e1] at hc
            by_cases e2 : i < N + C
            · rw [if_pos e2, List.getElem?_replicate, if_pos (by omega)] at hc
              cases hc
              rw [if_pos (by omega)]
            · rw [if_neg e2] at hc
              rw [if_neg (by omega)]
              exact h.look hl hc
        · rw [dropN_look, if_neg (by omega)]
      · rw [if_pos (c := ¬ (0 ≤ n ∧ n + c ≤ (r.size a : Int))) h2, if_pos (c := ¬ (0 ≤ n ∧ n + c ≤ (r.size a : Int))) h2, if_pos (by decide)]
        exact ⟨rfl, h⟩
    · rw [if_pos (c := r.check b a ≠ 0) h1, if_pos (c := r.check b a ≠ 0) h1, if_pos h1]
      exact ⟨rfl, h⟩

theorem storeN_room (r : RS) (a n : Int) (ws : Nat → Wd) : ∀ C, (r.storeN a n ws C).room = r.room ∧ (r.storeN a n ws C).bs = r.bs
  | 0 => ⟨rfl, rfl⟩
  | C + 1 => by
    have ih := storeN_room r a n ws C
    show ((r.storeN a n ws C).storeR true a (n + C) (ws C)).2.room = _ ∧ ((r.storeN a n ws C).storeR true a (n + C) (ws C)).2.bs = _
    unfold RS.storeR
    split
    · exact ih
    · split
      · exact ih
      · exact ih
theorem storeN_step (r : RS) (k m : Nat) (hk : r.bs[k]? = some (m, false)) (N : Nat) (ws : Nat → Wd) (C : Nat) (h : N + C + 1 ≤ m) :
    (r.storeN ((k : Int) + 1) N ws (C + 1)).cs = (r.storeN ((k : Int) + 1) N ws C).cs.filter (other ((k : Int) + 1) ((N : Int) + C)) ++ [⟨(k : Int) + 1, (N : Int) + C, ws C⟩] := by
  have hb := (storeN_room r ((k : Int) + 1) N ws C).2
  show ((r.storeN ((k : Int) + 1) N ws C).storeR true ((k : Int) + 1) ((N : Int) + C) (ws C)).2.cs = _
  have hk' : (r.storeN ((k : Int) + 1) N ws C).bs[k]? = some (m, false) := by rw [hb]; exact hk
  have hc : (r.storeN ((k : Int) + 1) N ws C).check true ((k : Int) + 1) = 0 := by
    unfold RS.check
    have := (List.getElem?_eq_some_iff.1 hk').1
    rw [if_neg (by simp), if_neg (by omega), show ((k : Int) + 1 - 1).toNat = k by omega, hk']
  unfold RS.storeR
  rw [if_neg (by simpa using hc), size_at hk', if_neg (by omega)]
theorem storeN_look (r : RS) (k m : Nat) (hk : r.bs[k]? = some (m, false)) (N : Nat) (ws : Nat → Wd) (a' n' : Int) : ∀ C : Nat, N + C ≤ m →
    lookc (r.storeN ((k : Int) + 1) N ws C).cs a' n' = if a' = (k : Int) + 1 ∧ (N : Int) ≤ n' ∧ n' < N + C then some (ws (n' - N).toNat) else lookc r.cs a' n'
  | 0, _ => by rw [if_neg (by omega)]; rfl
  | C + 1, h => by
    rw [storeN_step r k m hk N ws C (by omega), look_store, storeN_look r k m hk N ws a' n' C (by omega)]
    by_cases h1 : a' = (k : Int) + 1 ∧ n' = (N : Int) + C
    · rw [if_pos h1, if_pos (by omega), h1.2, show ((N : Int) + C - N).toNat = C by omega]
    · rw [if_neg h1]
      by_cases h2 : a' = (k : Int) + 1 ∧ (N : Int) ≤ n' ∧ n' < N + C
      · rw [if_pos h2, if_pos (by omega)]
      · rw [if_neg h2, if_neg (by omega)]
theorem storeN_mem (r : RS) (k m : Nat) (hk : r.bs[k]? = some (m, false)) (N : Nat) (ws : Nat → Wd) (c : Ce) : ∀ C : Nat, N + C ≤ m → c ∈ (r.storeN ((k : Int) + 1) N ws C).cs → c ∈ r.cs ∨ c.a = (k : Int) + 1
  | 0, _, h => .inl h
  | C + 1, hC, h => by
    rw [storeN_step r k m hk N ws C (by omega)] at h
    rcases mem_store h with h | h
    · exact storeN_mem r k m hk N ws c C (by omega) h
    · exact .inr h

theorem Sim.copyR {S : MS} {r : RS} (h : Sim S r) (b : Bool) (a n : Int) (b' : Bool) (a' n' c : Int) : (copyR S b a n b' a' n' c).1 = (r.copyR b a n b' a' n' c).1 ∧ Sim (copyR S b a n b' a' n' c).2 (r.copyR b a n b' a' n' c).2 := by
  unfold Go.Proofs.Ytbcockaleegicaa.copyR RS.copyR
  rw [h.span]
  by_cases h0 : c < 0
  · rw [if_pos h0, if_pos h0]
    exact ⟨rfl, h⟩
  · rw [if_neg h0, if_neg h0]
    obtain ⟨C, rfl⟩ : ∃ C : Nat, c = C := ⟨c.toNat, by omega⟩
    rw [h.read, Int.toNat_natCast]
    by_cases hr : r.readE b' a' n' C 0 = 0
    · rw [if_neg (c := r.readE b' a' n' C 0 ≠ 0) (by simpa using hr), if_neg (c := r.readE b' a' n' C 0 ≠ 0) (by simpa using hr)]
      by_cases h1 : r.check b a = 0
      · rw [if_neg (c := r.check b a ≠ 0) (by simpa using h1), if_neg (c := r.check b a ≠ 0) (by simpa using h1)]
        by_cases h2 : 0 ≤ n ∧ n + C ≤ r.size a
        · rw [if_neg (c := ¬ (0 ≤ n ∧ n + C ≤ (r.size a : Int))) (by simpa using h2), if_neg (c := ¬ (0 ≤ n ∧ n + C ≤ (r.size a : Int))) (by simpa using h2), if_neg (by simp)]
          by_cases hC : C = 0
          · subst hC
            rw [if_pos (by rfl)]
            exact ⟨rfl, h⟩
          · rw [if_neg (by omega)]
            have h3 := h1
            rw [← h.find] at h3
            obtain ⟨k, l, rfl, rfl, hl⟩ := findE_zero h3
            have hb := h.at_bs hl
            rw [size_at hb] at h2
            obtain ⟨N, rfl⟩ : ∃ N : Nat, n = N := ⟨n.toNat, by omega⟩
            have hr2 := hr
            rw [← h.read] at hr2
            obtain ⟨k', N', l', rfl, rfl, rfl, hl', hN', hs⟩ := storedE_zero hr2 (by omega)
            rw [Int.toNat_natCast] at hs
            rw [show ((k : Int) + 1 - 1).toNat = k by omega, show ((k' : Int) + 1 - 1).toNat = k' by omega, hl, hl', Int.toNat_natCast, Int.toNat_natCast]
            have hsl := scanE_len _ _ hs
            have hln : ((l'.drop N').take C).length = C := by rw [List.length_take]; omega
            have hle : N + ((l'.drop N').take C).length ≤ l.length := by rw [hln]; omega
            refine ⟨rfl, h.put hl (lay_length _ _ _ hle) (storeN_room _ _ _ _ _).1 (storeN_room _ _ _ _ _).2 (fun i c hc => ?_) (fun j i hj => ?_) fun c hc => ?_⟩
            · rw [storeN_look r k _ hb N _ _ _ C (by omega)]
              show _ = c
              change (lay l N ((l'.drop N').take C))[i]? = some c at hc
              rw [lay_get _ _ _ _ hle, hln] at hc
              by_cases e1 : i < N
              · rw [if_pos e1] at hc
                rw [if_neg (by omega)]
                exact h.look hl hc
              · rw [if_neg e1] at hc
                by_cases e2 : i < N + C
                · rw [if_pos e2, List.getElem?_take, if_pos (by omega), List.getElem?_drop] at hc
                  rw [if_pos (by omega)]
                  have hj : ∀ j, j < C → ∃ y, l'[N' + j]? = some (some y) := scan_all _ _ _ hs
                  obtain ⟨y, hy⟩ := hj (i - N) (by omega)
                  rw [hy] at hc
                  cases hc
                  have hi : ((i : Int) - N).toNat = i - N := by omega
                  rw [hi]
                  unfold RS.reads
                  rw [← h.load, show ((N' : Int) + ((i - N : Nat) : Int)) = ((N' + (i - N) : Nat) : Int) by omega]
                  unfold loadR
                  have hlt := (List.getElem?_eq_some_iff.1 hy).1
                  rw [storedE_at hl' _ 1 (by decide), if_neg (c := ((N' + (i - N) : Nat) : Int) < 0 ∨ (l'.length : Int) ≤ ((N' + (i - N) : Nat) : Int)) (by omega), Int.toNat_natCast, show (1 : Int).toNat = 1 from rfl, scan_one, hy, show ((k' : Int) + 1 - 1).toNat = k' by omega, hl']
                  simp [hy]
                · rw [if_neg e2] at hc
                  rw [if_neg (by omega)]
                  exact h.look hl hc
            · rw [storeN_look r k _ hb N _ _ _ C (by omega), if_neg (by omega)]
            · rcases storeN_mem r k _ hb N _ c C (by omega) hc with h4 | h4
              · exact h.fresh c h4
              · have := at_lt hl; rw [h.len] at this; omega
        · rw [if_pos (c := ¬ (0 ≤ n ∧ n + C ≤ (r.size a : Int))) h2, if_pos (c := ¬ (0 ≤ n ∧ n + C ≤ (r.size a : Int))) h2, if_pos (by decide)]
          exact ⟨rfl, h⟩
      · rw [if_pos (c := r.check b a ≠ 0) h1, if_pos (c := r.check b a ≠ 0) h1, if_pos h1]
        exact ⟨rfl, h⟩
    · rw [if_pos (c := r.readE b' a' n' C 0 ≠ 0) hr, if_pos (c := r.readE b' a' n' C 0 ≠ 0) hr]
      exact ⟨rfl, h⟩
end Go.Proofs.Ytbcockaleegicaa
