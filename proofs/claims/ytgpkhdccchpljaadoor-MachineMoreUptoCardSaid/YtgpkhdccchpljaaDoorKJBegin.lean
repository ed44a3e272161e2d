/-
  Several texts of the proof in one: KHeap, KLeave, KBegin. No conditions of their own: each lemma states its own.
-/
import Derived.Test.YtgpkhdccchpljaaDoorKJFrame
namespace Go.Proofs.YtgpkhdccchpljaaDoor
open Go.RowKit
open M (Wd MS RepAt Owned Kept Turned)

/-- where a machine and its session lie -/
structure Ly where
  mc : Nat
  sk : Nat
  mb : Nat
  lm : Option Nat
  loc : Nat → Nat
  em : Option Nat
  tv : Value
  rb : List Nat

def upV : List Nat → Value
  | [] => .pointer none
  | b :: _ => .pointer (some ⟨b, 0, none⟩)
def wd3 (x : Wd) : List Value := [.bool x.p, .int .i64 x.a, .int .i64 x.n]
def ruC (up fv : Value) (r : Ru) : List Value := [up, fv, .int .i64 r.nx] ++ (wd3 r.fr ++ r.rg.flatMap wd3)
def evC (e : Ev) : List Value := [.int .i64 e.k, .int .i64 e.t, .int .i64 e.a, .int .i64 e.n]

/-- runs, the topmost first; their functions lie in the world w0 -/
def RunsAt (w0 w : World) : List Nat → List Ru → Prop
  | [], [] => True
  | b :: bs, r :: rs => (∃ fv, w.heap[b]? = some (.cells (ruC (upV bs) fv r).toArray 120) ∧ C.FunV w0 fv r.fn) ∧ r.rg.length = 16 ∧ b ∉ bs ∧ RunsAt w0 w bs rs
  | _, _ => False

/-- the blocks that a machine and its session are made of -/
def Own (L : Ly) (S : MS) (b : Nat) : Prop := b = L.mc ∨ b = L.sk ∨ Owned L.mb L.lm L.loc S b ∨ L.em = some b ∨ L.tv.ownBlock = some b ∨ b ∈ L.rb

/-- how an int is read in a map -/
def intElem : Value → Option (DataW Unit × List MemPlace)
  | .int .i64 n => some (.lit (.int .i64 n), [])
  | _ => none
/-- what events brought -/
def EvAt (w : World) (em : Option Nat) (evs : List (Int × Int)) : Prop :=
  (em = none → evs = []) ∧ ∀ b, em = some b → ∃ D, w.ownsMap Tryd.prog 3 intElem b evs.length D ∧
    ∀ e, match brought evs e with
      | some n => Maps.has D (.int .i64 e) = true ∧ ∀ z, D.atKey (.int .i64 e) z = .lit (.int .i64 n)
      | none => Maps.has D (.int .i64 e) = false

def sesC (L : Ly) (task fuel : Int) : Obj := .cells #[.pointer (some ⟨L.mc, 0, none⟩), .int .i64 task, .int .i64 fuel, upV L.rb] 72

/-- what the program is made of stays as it is -/
structure Under (w0 w : World) : Prop where
  size : w0.heap.size ≤ w.heap.size
  cell' : ∀ (p : Addr) v, w0.cell? p = some v → w.cell? p = some v
def Free (w0 : World) (b : Nat) : Prop := ∀ p : Addr, p.block = b → w0.cell? p = none
theorem free_of_ge {w0 : World} {b : Nat} (h : w0.heap.size ≤ b) : Free w0 b := fun p hp => by
  cases hc : w0.cell? p with
  | none => rfl
  | some v => exact absurd (World.block_lt_of_cell? w0 p hc) (by omega)
theorem Under.next {w0 w w' : World} (h : Under w0 w) (size : w.heap.size ≤ w'.heap.size) (hk : ∀ b, b < w.heap.size → ¬ Free w0 b → w'.heap[b]? = w.heap[b]?) : Under w0 w' :=
  ⟨Nat.le_trans h.size size, fun p v hv => by
    have h1 := h.cell' p v hv
    exact (World.cell?_of_block (w := w) (hk p.block (World.block_lt_of_cell? w p h1) fun hf => by rw [hf p rfl] at hv; cases hv)).trans h1⟩
theorem Under.below {w0 w w' : World} (h : Under w0 w) (hb : Below w.heap.size w w') : Under w0 w' := h.next hb.size fun b hl _ => hb.block b hl
theorem intsV_under {w0 w : World} {v : Value} {l : List Int} (hb : Under w0 w) (h : C.IntsV w0 v l) : C.IntsV w v l := by
  obtain ⟨oa, cap, b, off, rfl, h1, h2, h3, h4⟩ := h
  exact ⟨oa, cap, b, off, rfl, h1, h2, fun h => ⟨(h3 h).1, Nat.lt_of_lt_of_le (h3 h).2 hb.size⟩, fun i z hz => hb.cell' _ _ (h4 i z hz)⟩
theorem inC_under {w0 w : World} (hb : Under w0 w) {b o : Nat} {x : C.In} (h : C.InC w0 b o x) : C.InC w b o x := by
  obtain ⟨lv, h0, h1, h2, h3, h4, h5⟩ := h
  exact ⟨lv, hb.cell' _ _ h0, hb.cell' _ _ h1, hb.cell' _ _ h2, hb.cell' _ _ h3, hb.cell' _ _ h4, intsV_under hb h5⟩
theorem funV_under {w0 w : World} (hb : Under w0 w) {v : Value} {f : List C.In} (h : C.FunV w0 v f) : C.FunV w v f := by
  obtain ⟨oa, cap, b, off, rfl, h1, h2, h3, h4⟩ := h
  exact ⟨oa, cap, b, off, rfl, h1, h2, fun h => ⟨(h3 h).1, Nat.lt_of_lt_of_le (h3 h).2 hb.size⟩, fun i x hx => inC_under hb (h4 i x hx)⟩
theorem funsV_under {w0 w : World} (hb : Under w0 w) {v : Value} {fs : List (List C.In)} (h : C.FunsV w0 v fs) : C.FunsV w v fs := by
  obtain ⟨oa, cap, b, off, rfl, h1, h2, h3, h4⟩ := h
  refine ⟨oa, cap, b, off, rfl, h1, h2, fun h => ⟨(h3 h).1, Nat.lt_of_lt_of_le (h3 h).2 hb.size⟩, fun i f hf => ?_⟩
  obtain ⟨fv, hv, hF⟩ := h4 i f hf
  exact ⟨fv, hb.cell' _ _ hv, funV_under hb hF⟩
theorem cosV_under {w0 w : World} (hb : Under w0 w) {v : Value} {cs : List C.Cr} (h : C.CosV w0 v cs) : C.CosV w v cs := by
  obtain ⟨oa, cap, b, off, rfl, h1, h2, h3, h4⟩ := h
  refine ⟨oa, cap, b, off, rfl, h1, h2, fun h => ⟨(h3 h).1, Nat.lt_of_lt_of_le (h3 h).2 hb.size⟩, fun i c hc => ?_⟩
  obtain ⟨s, g0, g1, g2, g3, g4⟩ := h4 i c hc
  exact ⟨s, hb.cell' _ _ g0, hb.cell' _ _ g1, hb.cell' _ _ g2, hb.cell' _ _ g3, hb.cell' _ _ g4⟩
theorem pgV_under {w0 w : World} (hb : Under w0 w) {fv cv : Value} {p : C.Pg} (h : C.PgV w0 fv cv p) : C.PgV w fv cv p := ⟨funsV_under hb h.1, cosV_under hb h.2⟩

/-- a machine and its session; what the program is made of lies in the world w0, which nobody turns -/
structure SesAt (w0 w : World) (L : Ly) (c : Cx) (s : Se) : Prop where
  mach : ∃ fv cv, w.heap[L.mc]? = some (.cells #[fv, cv, .pointer (some ⟨L.mb, 0, none⟩), .map L.em, L.tv] 62) ∧ C.PgV w0 fv cv c.p
  ses : w.heap[L.sk]? = some (sesC L c.task s.fuel)
  mem : RepAt w L.mb L.lm L.loc s.S
  told : w.ownsRow w0.heap.size 80 4 L.tv s.told.length (s.told.flatMap evC)
  runs : RunsAt w0 w L.rb s.rs
  below : Under w0 w
  own : ∀ b, Own L s.S b → Free w0 b
  apart : ∀ b, L.em = some b → ¬ Owned L.mb L.lm L.loc s.S b
  evs : EvAt w L.em c.evs

theorem RunsAt.keep {w0 w w' : World} : ∀ (bs : List Nat) (rs : List Ru), RunsAt w0 w bs rs → (∀ b ∈ bs, w'.heap[b]? = w.heap[b]?) → RunsAt w0 w' bs rs
  | [], [], _, _ => trivial
  | b :: bs, r :: rs, h, hk => by
    obtain ⟨⟨fv, h1, h2⟩, h3, h4, h5⟩ := h
    exact ⟨⟨fv, (hk b (by simp)).trans h1, h2⟩, h3, h4, RunsAt.keep bs rs h5 fun b hb => hk b (by simp [hb])⟩
  | [], _ :: _, h, _ => h.elim
  | _ :: _, [], h, _ => h.elim
theorem RunsAt.blk {w0 w : World} : ∀ (bs : List Nat) (rs : List Ru), RunsAt w0 w bs rs → ∀ b ∈ bs, ∃ cs : Array Value, w.heap[b]? = some (.cells cs 120)
  | [], [], _, b, hb => by simp at hb
  | b :: bs, r :: rs, h, b', hb => by
    obtain ⟨⟨fv, h1, h2⟩, h3, h4, h5⟩ := h
    rcases List.mem_cons.1 hb with rfl | hb
    · exact ⟨_, h1⟩
    · exact RunsAt.blk bs rs h5 b' hb
  | [], _ :: _, h, _, _ => h.elim
  | _ :: _, [], h, _, _ => h.elim

theorem own_keep {base e size n : Nat} {w w' : World} {v : Value} {xs : List Value} (h : w.ownsRow base e size v n xs) (hk : ∀ b, v.ownBlock = some b → w'.heap[b]? = w.heap[b]?) : w'.ownsRow base e size v n xs := by
  refine ⟨h.1, ?_⟩
  rcases h.2 with hn | ⟨g, cap, cur, rfl, hbb, hgg, rest⟩
  · exact .inl hn
  · exact .inr ⟨g, cap, cur, rfl, hbb, (hk g rfl).trans hgg, rest⟩
theorem own_blk {base e size n b : Nat} {w : World} {v : Value} {xs : List Value} (h : w.ownsRow base e size v n xs) (hb : v.ownBlock = some b) : ∃ cs : Array Value, w.heap[b]? = some (.cells cs e) := by
  rcases h.2 with ⟨rfl, _⟩ | ⟨g, cap, cur, rfl, hbb, hgg, rest⟩
  · cases hb
  · cases hb
    exact ⟨_, hgg⟩

theorem SesAt.keep {w0 w w' : World} {L : Ly} {c : Cx} {s : Se} (h : SesAt w0 w L c s) (hb : Under w0 w') (hk : ∀ b, Own L s.S b → w'.heap[b]? = w.heap[b]?) : SesAt w0 w' L c s := by
  obtain ⟨fv, cv, h1, h2⟩ := h.mach
  exact ⟨⟨fv, cv, (hk _ (.inl rfl)).trans h1, h2⟩, (hk _ (.inr (.inl rfl))).trans h.ses, h.mem.keep fun b hb => hk b (.inr (.inr (.inl hb))),
    own_keep h.told fun b hb => hk b (.inr (.inr (.inr (.inr (.inl hb))))), RunsAt.keep _ _ h.runs fun b hb => hk b (.inr (.inr (.inr (.inr (.inr hb))))), hb, h.own, h.apart, h.evs.1, fun b hb => by
    obtain ⟨D, ⟨es, clock, h5, h6⟩, h7⟩ := h.evs.2 b hb
    exact ⟨D, ⟨es, clock, (hk b (.inr (.inr (.inr (.inl hb))))).trans h5, h6⟩, h7⟩⟩

/-- a block of another type than mem's is none of mem's -/
theorem not_owned {w : World} {mb b : Nat} {t : TypeId} {lm : Option Nat} {loc : Nat → Nat} {S : MS} (R : RepAt w mb lm loc S) (ht : t ≠ 96 ∧ t ≠ 126) {c : Array Value} (h : w.heap[b]? = some (.cells c t)) : ¬ Owned mb lm loc S b := by
  rintro (rfl | e | ⟨k, l, hk, rfl⟩)
  · rw [R.obj] at h; simp [M.memObj] at h; exact ht.1 h.2.symm
  · obtain ⟨D, ⟨es, clock, hb, _⟩, _⟩ := R.map _ e
    rw [h] at hb; cases hb
  · rw [R.blk k l hk] at h; simp at h; exact ht.2 h.2.symm

theorem SesAt.lt {w0 w : World} {L : Ly} {c : Cx} {s : Se} (h : SesAt w0 w L c s) (b : Nat) (hb : Own L s.S b) : b < w.heap.size := by
  rcases hb with rfl | rfl | hb | hb | hb | hb
  · obtain ⟨_, _, h1, _⟩ := h.mach
    exact (Array.getElem?_eq_some_iff.1 h1).1
  · exact (Array.getElem?_eq_some_iff.1 h.ses).1
  · exact h.mem.lt b hb
  · obtain ⟨D, ⟨es, clock, h5, _⟩, _⟩ := h.evs.2 b hb
    exact (Array.getElem?_eq_some_iff.1 h5).1
  · obtain ⟨_, h1⟩ := own_blk h.told hb
    exact (Array.getElem?_eq_some_iff.1 h1).1
  · obtain ⟨_, h1⟩ := RunsAt.blk _ _ h.runs b hb
    exact (Array.getElem?_eq_some_iff.1 h1).1

/-- new blocks change nothing -/
theorem SesAt.under {w0 w w' : World} {L : Ly} {c : Cx} {s : Se} (h : SesAt w0 w L c s) (hb : Below w.heap.size w w') : SesAt w0 w' L c s :=
  h.keep (h.below.below hb) fun b ho => hb.block b (h.lt b ho)

/-- the session's own block is none of the others -/
theorem SesAt.ses_ne {w0 w : World} {L : Ly} {c : Cx} {s : Se} (h : SesAt w0 w L c s) : L.mc ≠ L.sk ∧ ¬ Owned L.mb L.lm L.loc s.S L.sk ∧ L.em ≠ some L.sk ∧ L.tv.ownBlock ≠ some L.sk ∧ L.sk ∉ L.rb := by
  have h0 := h.ses
  rw [sesC] at h0
  refine ⟨fun e => ?_, not_owned h.mem (by decide) h0, fun e => ?_, fun e => ?_, fun e => ?_⟩
  · obtain ⟨_, _, h1, _⟩ := h.mach
    rw [e, h0] at h1
    simp at h1
  · obtain ⟨D, ⟨es, clock, h5, _⟩, _⟩ := h.evs.2 _ e
    rw [h0] at h5; cases h5
  · obtain ⟨_, h1⟩ := own_blk h.told e
    rw [h0] at h1; simp at h1
  · obtain ⟨_, h1⟩ := RunsAt.blk _ _ h.runs _ e
    rw [h0] at h1; simp at h1

/-- the session's block is turned: other fuel, other runs of those that lie there -/
theorem SesAt.put {w0 w w' : World} {L : Ly} {c : Cx} {s : Se} (h : SesAt w0 w L c s) (bs : List Nat) (rs : List Ru) (fuel : Int) (hr : RunsAt w0 w bs rs) (hs : ∀ b ∈ bs, b ∈ L.rb)
    (_ : w'.os = w.os) (_ : w'.tape = w.tape) (_ : w'.output = w.output) (size : w.heap.size ≤ w'.heap.size)
    (hk : ∀ b, b ≠ L.sk → b < w.heap.size → w'.heap[b]? = w.heap[b]?) (hn : w'.heap[L.sk]? = some (sesC { L with rb := bs } c.task fuel)) : SesAt w0 w' { L with rb := bs } c { s with fuel := fuel, rs := rs } := by
  obtain ⟨n1, n2, n3, n4, n5⟩ := h.ses_ne
  obtain ⟨fv, cv, h1, h2⟩ := h.mach
  have hlt := h.lt
  have hso := h.own L.sk (.inr (.inl rfl))
  refine ⟨⟨fv, cv, (hk _ n1 (hlt _ (.inl rfl))).trans h1, h2⟩, hn, h.mem.keep fun b hb => hk b (fun e => n2 (e ▸ hb)) (hlt b (.inr (.inr (.inl hb)))),
    own_keep h.told fun b hb => hk b (fun e => n4 (e ▸ hb)) (hlt b (.inr (.inr (.inr (.inr (.inl hb)))))), RunsAt.keep _ _ hr fun b hb => hk b (fun e => n5 (e ▸ hs b hb)) (hlt b (.inr (.inr (.inr (.inr (.inr (hs b hb))))))), ?_, ?_, h.apart, h.evs.1, fun b hb => ?_⟩
  · exact h.below.next size fun b hl hf => hk b (fun e => hf (e ▸ hso)) hl
  · rintro b (rfl | rfl | hb | hb | hb | hb)
    · exact h.own _ (.inl rfl)
    · exact hso
    · exact h.own _ (.inr (.inr (.inl hb)))
    · exact h.own _ (.inr (.inr (.inr (.inl hb))))
    · exact h.own _ (.inr (.inr (.inr (.inr (.inl hb)))))
    · exact h.own _ (.inr (.inr (.inr (.inr (.inr (hs b hb))))))
  · obtain ⟨D, ⟨es, clock, h5, h6⟩, h7⟩ := h.evs.2 b hb
    exact ⟨D, ⟨es, clock, (hk b (fun e => n3 (e ▸ hb)) (hlt b (.inr (.inr (.inr (.inl hb)))))).trans h5, h6⟩, h7⟩

/-- no type of a block that a machine is made of -/
def Loc (t : TypeId) : Prop := t ≠ 62 ∧ t ≠ 72 ∧ t ≠ 120 ∧ t ≠ 80 ∧ t ≠ 96 ∧ t ≠ 126
theorem SesAt.not_own {w0 w : World} {L : Ly} {c : Cx} {s : Se} (h : SesAt w0 w L c s) {t : TypeId} (ht : Loc t) {b : Nat} {cs : Array Value} (hb : w.heap[b]? = some (.cells cs t)) : ¬ Own L s.S b := by
  obtain ⟨t1, t2, t3, t4, t5, t6⟩ := ht
  rintro (rfl | rfl | e | e | e | e)
  · obtain ⟨_, _, h1, _⟩ := h.mach
    rw [hb] at h1; simp at h1; exact t1 h1.2
  · have h1 := h.ses
    rw [hb, sesC] at h1; simp at h1; exact t2 h1.2
  · exact not_owned h.mem ⟨t5, t6⟩ hb e
  · obtain ⟨D, ⟨es, clock, h5, _⟩, _⟩ := h.evs.2 _ e
    rw [hb] at h5; cases h5
  · obtain ⟨_, h1⟩ := own_blk h.told e
    rw [hb] at h1; simp at h1; exact t4 h1.2
  · obtain ⟨_, h1⟩ := RunsAt.blk _ _ h.runs _ e
    rw [hb] at h1; simp at h1; exact t3 h1.2

/-- a local of the caller is written -/
theorem SesAt.cell {w0 w : World} {L : Ly} {c : Cx} {s : Se} (h : SesAt w0 w L c s) {t : TypeId} (ht : Loc t) {b : Nat} {cs : Array Value} (hb : w.heap[b]? = some (.cells cs t)) (hB : w0.heap.size ≤ b) (j : Nat) (v : Value) : SesAt w0 (w.setCell ⟨b, j, none⟩ v) L c s :=
  h.keep (h.below.next (by simp [World.setCell]) fun b' _ hf => Below.heap_setCell _ _ _ _ (show b' ≠ b from fun e => hf (e ▸ free_of_ge hB))) fun b' ho => Below.heap_setCell _ _ _ _ (show b' ≠ b from fun e => h.not_own ht hb (e ▸ ho))
theorem kept_cell {O : Nat → Prop} {w w1 : World} (h : Kept O w w1) {b : Nat} (hb : w.heap.size ≤ b) (j : Nat) (v : Value) : Kept O w (w1.setCell ⟨b, j, none⟩ v) :=
  ⟨h.os, h.tape, h.output, by have := h.size; simp [World.setCell]; omega, fun b' hl hn => (Below.heap_setCell _ _ _ _ (show b' ≠ b by omega)).trans (h.block b' hl hn)⟩
theorem kept_trans {O O' : Nat → Prop} {w w1 w2 : World} (h : Kept O w w1) (h' : Kept O' w1 w2) (ho : ∀ b, O' b → O b ∨ w.heap.size ≤ b) : Kept O w w2 :=
  ⟨h'.os.trans h.os, h'.tape.trans h.tape, h'.output.trans h.output, Nat.le_trans h.size h'.size, fun b hl hn => (h'.block b (Nat.lt_of_lt_of_le hl h.size) fun e => by
    rcases ho b e with h1 | h1
    · exact hn h1
    · omega).trans (h.block b hl hn)⟩
/-- what a call does to a session: it lies anew, in blocks that were its own or are new; all others are as they were -/
def Turns (w0 w w' : World) (L : Ly) (c : Cx) (s s' : Se) : Prop :=
  ∃ L', L'.mc = L.mc ∧ L'.sk = L.sk ∧ L'.mb = L.mb ∧ L'.em = L.em ∧ SesAt w0 w' L' c s' ∧ (∀ b, Own L' s'.S b → Own L s.S b ∨ w.heap.size ≤ b) ∧ Kept (Own L s.S) w w'
theorem Turns.trans {w0 w w1 w2 : World} {L : Ly} {c : Cx} {s s1 s2 : Se} (h : Turns w0 w w1 L c s s1) (h' : ∀ L1, L1.mc = L.mc → L1.sk = L.sk → SesAt w0 w1 L1 c s1 → Turns w0 w1 w2 L1 c s1 s2) : Turns w0 w w2 L c s s2 := by
  obtain ⟨L1, e1, e2, e3, e4, h1, h2, h3⟩ := h
  obtain ⟨L2, f1, f2, f3, f4, g1, g2, g3⟩ := h' L1 e1 e2 h1
  refine ⟨L2, f1.trans e1, f2.trans e2, f3.trans e3, f4.trans e4, g1, fun b hb => ?_, kept_trans h3 g3 h2⟩
  rcases g2 b hb with h5 | h5
  · exact h2 b h5
  · exact .inr (Nat.le_trans h3.size h5)
theorem Turns.under {w0 w w1 w2 : World} {L : Ly} {c : Cx} {s s' : Se} (hb : Below w.heap.size w w1) (h : Turns w0 w1 w2 L c s s') : Turns w0 w w2 L c s s' := by
  obtain ⟨L1, e1, e2, e3, e4, h1, h2, h3⟩ := h
  refine ⟨L1, e1, e2, e3, e4, h1, fun b hb' => ?_, kept_trans (Kept.of_below hb) h3 fun b hb => .inl hb⟩
  rcases h2 b hb' with h5 | h5
  · exact .inl h5
  · exact .inr (Nat.le_trans hb.size h5)
theorem Turns.below {w0 w w1 w2 : World} {L : Ly} {c : Cx} {s s' : Se} (h : Turns w0 w w1 L c s s') (hb : Below w1.heap.size w1 w2) : Turns w0 w w2 L c s s' := by
  obtain ⟨L1, e1, e2, e3, e4, h1, h2, h3⟩ := h
  exact ⟨L1, e1, e2, e3, e4, h1.under hb, h2, kept_trans h3 (Kept.of_below (O := Own L s.S) hb) fun b hb => .inl hb⟩
theorem Turns.cell {w0 w w1 : World} {L : Ly} {c : Cx} {s s' : Se} (h : Turns w0 w w1 L c s s') (hw : w0.heap.size ≤ w.heap.size) {t : TypeId} (ht : Loc t) {b : Nat} {cs : Array Value} (hb : w1.heap[b]? = some (.cells cs t)) (hB : w.heap.size ≤ b) (j : Nat) (v : Value) : Turns w0 w (w1.setCell ⟨b, j, none⟩ v) L c s s' := by
  obtain ⟨L1, e1, e2, e3, e4, h1, h2, h3⟩ := h
  exact ⟨L1, e1, e2, e3, e4, h1.cell ht hb (by omega) j v, h2, kept_cell h3 hB j v⟩
/-- a local of the caller stays as it is -/
theorem Turns.local {w0 w w1 : World} {L : Ly} {c : Cx} {s s' : Se} (h : Turns w0 w w1 L c s s') (hs : SesAt w0 w L c s) {t : TypeId} (ht : Loc t) {b : Nat} {cs : Array Value} (hb : w.heap[b]? = some (.cells cs t)) : w1.heap[b]? = some (.cells cs t) := by
  obtain ⟨L1, e1, e2, e3, e4, h1, h2, h3⟩ := h
  exact (h3.block b (Array.getElem?_eq_some_iff.1 hb).1 (hs.not_own ht hb)).trans hb
end Go.Proofs.YtgpkhdccchpljaaDoor

namespace Go.Proofs.YtgpkhdccchpljaaDoor
open Go.RowKit
open M (Wd MS RepAt Owned Kept Turned)

theorem cells2 {w : World} {k : Nat} {v0 v1 : Value} {t : TypeId} (h : w.heap[k]? = some (.cells #[v0, v1] t)) :
    w.cell? ⟨k, 0, none⟩ = some v0 ∧ w.cell? ⟨k, 1, none⟩ = some v1 ∧ (∀ j, w.frozen? ⟨k, j, none⟩ = false) ∧ k < w.heap.size := by
  have hl := (Array.getElem?_eq_some_iff.1 h).1
  exact ⟨by simp [World.cell?, h], by simp [World.cell?, h], fun j => by simp [World.frozen?, h], hl⟩
theorem cells4m {w : World} {k : Nat} {v0 v1 v2 v3 : Value} {t : TypeId} (h : w.heap[k]? = some (.cells #[v0, v1, v2, v3] t)) :
    w.cell? ⟨k, 0, none⟩ = some v0 ∧ w.cell? ⟨k, 1, none⟩ = some v1 ∧ w.cell? ⟨k, 2, none⟩ = some v2 ∧ w.cell? ⟨k, 3, none⟩ = some v3 ∧ (∀ j, w.frozen? ⟨k, j, none⟩ = false) ∧ k < w.heap.size := by
  have hl := (Array.getElem?_eq_some_iff.1 h).1
  exact ⟨by simp [World.cell?, h], by simp [World.cell?, h], by simp [World.cell?, h], by simp [World.cell?, h], fun j => by simp [World.frozen?, h], hl⟩
theorem set2 {w : World} {k : Nat} {v0 v1 u0 u1 : Value} {t : TypeId} (h : w.heap[k]? = some (.cells #[v0, v1] t)) : ((w.setCell ⟨k, 0, none⟩ u0).setCell ⟨k, 1, none⟩ u1).heap[k]? = some (.cells #[u0, u1] t) := by
  have h1 := heap_setCell_same w k 0 _ t u0 h
  have h2 := heap_setCell_same _ k 1 _ t u1 h1
  simpa using h2

/-- how something came out, as a value -/
def outV (o : Out) : Value := .agg #[.int .i64 o.k, .int .i64 o.n]

theorem upV_head {w0 w : World} {b : Nat} {bs : List Nat} {rs : List Ru} (h : RunsAt w0 w (b :: bs) rs) : w.cell? ⟨b, 0, none⟩ = some (upV bs) := by
  cases rs with
  | nil => exact h.elim
  | cons r rs =>
    obtain ⟨⟨fv, h1, _⟩, _⟩ := h
    simp [World.cell?, h1, ruC]

set_option maxRecDepth 100000 in
set_option maxHeartbeats 2000000 in
theorem leave_any {w0 w : World} {L : Ly} {c : Cx} {s : Se} {b : Nat} {bs : List Nat} (H : SesAt w0 w L c s) (hb : L.rb = b :: bs) (o : Out) :
    Calls Tryd.prog 65 #[.pointer (some ⟨L.sk, 0, none⟩), .agg #[.int .i64 o.k, .int .i64 o.n]] w fun e w' => e = .returned (outV o) ∧ Turns w0 w w' L c s s.leave := by
  obtain ⟨W, hW⟩ : ∃ W, W = (w.alloc (.cells #[.int .i64 o.k, .int .i64 o.n] 41)).alloc (.cells #[.int .i64 0, .int .i64 0] 41) := ⟨_, rfl⟩
  have hbW : Below w.heap.size w W := by rw [hW]; exact (C.alloc_below _ _).alloc (by simp) _
  have hx : W.heap[w.heap.size]? = some (.cells #[.int .i64 o.k, .int .i64 o.n] 41) := by rw [hW, Below.heap_alloc _ _ _ (by simp), heap_alloc_new]
  have hr : W.heap[w.heap.size + 1]? = some (.cells #[.int .i64 0, .int .i64 0] 41) := by
    have := heap_alloc_new (w.alloc (.cells #[.int .i64 o.k, .int .i64 o.n] 41)) (.cells #[.int .i64 0, .int .i64 0] 41)
    rw [hW]; simpa using this
  have HS := H.under hbW
  have hses := HS.ses
  rw [sesC, hb] at hses
  have hrun := HS.runs
  rw [hb] at hrun
  obtain ⟨z0, z1, z2, z3, zf, zl⟩ := cells4m hses
  have u0 := upV_head hrun
  obtain ⟨x0, x1, xf, xl⟩ := cells2 hx
  obtain ⟨r0, r1, rf, rl⟩ := cells2 hr
  have hsl := H.lt L.sk (.inr (.inl rfl))
  have hne1 : w.heap.size ≠ L.sk := Nat.ne_of_gt hsl
  have hne2 : w.heap.size + 1 ≠ L.sk := by omega
  obtain ⟨B, hB⟩ : ∃ B, B = w.heap.size := ⟨_, rfl⟩
  have HWb := Lib.hid hbW
  have HH := Lib.hid HS
  have HR := Lib.hid hr
  have HX := Lib.hid hx
  have hw0 := HS.below.size
  have hw00 := H.below.size
  have HH0 := Lib.hid H
  have HRB := Lib.hid hb
  have HSES := Lib.hid hses
  go_enter Tryd.func65, Tryd.ntmps65
  go_upto_region 1 with fail
  rw [← hW]
  clear hW hbW hx hr HS hses hrun H hb
  rw [← hB] at x0 x1 xl r0 r1 rl hne1 hne2 HR HX
  simp only [← hB] at xf rf ⊢
  replace hB := Lib.hid hB
  obtain ⟨ua, hup⟩ : ∃ ua, upV bs = .pointer ua := by cases bs <;> exact ⟨_, rfl⟩
  rw [hup] at u0
  have hsk : (W.setCell ⟨L.sk, 3, none⟩ (.pointer ua)).heap[L.sk]? = some (sesC { L with rb := bs } c.task s.fuel) := by
    rw [heap_setCell_same W L.sk 3 _ 72 _ HSES.out]
    simp [sesC, hup]
  have hput := HH.out.put (w' := W.setCell ⟨L.sk, 3, none⟩ (.pointer ua)) bs s.rs.tail s.fuel (by
    have h1 := HH.out.runs
    rw [HRB.out] at h1
    cases hrs : s.rs with
    | nil => rw [hrs] at h1; exact h1.elim
    | cons r rs => rw [hrs] at h1; exact h1.2.2.2) (fun b hb => by rw [HRB.out]; simp [hb]) rfl rfl rfl (by simp [World.setCell]) (fun b hb _ => Below.heap_setCell _ _ _ _ hb) hsk
  have hres : (W.setCell ⟨L.sk, 3, none⟩ (.pointer ua)).heap[B + 1]? = some (.cells #[.int .i64 0, .int .i64 0] 41) := by
    rw [Below.heap_setCell _ _ _ _ hne2]; exact HR.out
  have hkp : Kept (Own L s.S) w (W.setCell ⟨L.sk, 3, none⟩ (.pointer ua)) := ⟨HWb.out.os, HWb.out.tape, HWb.out.output, by have := HWb.out.size; simp [World.setCell]; omega, fun b hb hn => by
    rw [Below.heap_setCell _ _ _ _ (show b ≠ L.sk from fun e => hn (.inr (.inl e)))]; exact HWb.out.block b hb⟩
  have hT : Turns w0 w (W.setCell ⟨L.sk, 3, none⟩ (.pointer ua)) L c s s.leave := ⟨{ L with rb := bs }, rfl, rfl, rfl, rfl, hput, fun b hb => .inl (by
    rcases hb with h | h | h | h | h | h
    · exact .inl h
    · exact .inr (.inl h)
    · exact .inr (.inr (.inl h))
    · exact .inr (.inr (.inr (.inl h)))
    · exact .inr (.inr (.inr (.inr (.inl h))))
    · exact .inr (.inr (.inr (.inr (.inr (by rw [HRB.out]; simp [show b ∈ bs from h])))))), hkp⟩
  have hbx : (W.setCell ⟨L.sk, 3, none⟩ (.pointer ua)).heap[B]? = some (.cells #[.int .i64 o.k, .int .i64 o.n] 41) := by
    rw [Below.heap_setCell _ _ _ _ hne1]; exact HX.out
  have HT := Lib.hid hT
  have HRES := Lib.hid hres
  have HBX := Lib.hid hbx
  clear hput hsk hres hkp hup hT hbx
  rw [show upV (b :: bs) = .pointer (some ⟨b, 0, none⟩) from rfl] at z3
  go_upto_region 2 with fail
  generalize W.setCell ⟨L.sk, 3, none⟩ (.pointer ua) = W2 at HT HRES HBX ⊢
  clear x0 x1 xf xl r0 r1 rf rl
  obtain ⟨x0, x1, xf, xl⟩ := cells2 HBX.out
  obtain ⟨r0, r1, rf, rl⟩ := cells2 HRES.out
  have hfz := Lib.hid (set2 (u0 := .int .i64 o.k) (u1 := .int .i64 o.n) HRES.out)
  have hBw : w.heap.size ≤ B + 1 := by have := hB.out; omega
  have hfin := Lib.hid ((HT.out.cell hw00 (t := 41) (by unfold Loc; decide) HRES.out hBw 0 (.int .i64 o.k)).cell hw00 (t := 41) (by unfold Loc; decide) (heap_setCell_same W2 (B + 1) 0 _ 41 (.int .i64 o.k) HRES.out) hBw 1 (.int .i64 o.n))
  go_wp2
  have hf := hfz.out
  clear hfz
  generalize (W2.setCell ⟨B + 1, 0, none⟩ (.int .i64 o.k)).setCell ⟨B + 1, 1, none⟩ (.int .i64 o.n) = WW at hf hfin ⊢
  obtain ⟨y0, y1, yf, yl⟩ := cells2 hf
  exact bodyPost_ret (v := outV o) (by simp [results, Tryd.results65, go_sem, y0, y1, outV]) rfl ⟨rfl, hfin.out⟩
end Go.Proofs.YtgpkhdccchpljaaDoor

namespace Go.Proofs.YtgpkhdccchpljaaDoor
open Go.RowKit
open M (Wd MS RepAt Owned Kept Turned)

/-- the session's block is turned: other fuel, other runs, that lie there behind it -/
theorem SesAt.put2 {w0 w w' : World} {L : Ly} {c : Cx} {s : Se} (h : SesAt w0 w L c s) (bs : List Nat) (rs : List Ru) (fuel : Int) (hr : RunsAt w0 w' bs rs) (hs : ∀ b ∈ bs, Free w0 b)
    (_ : w'.os = w.os) (_ : w'.tape = w.tape) (_ : w'.output = w.output) (size : w.heap.size ≤ w'.heap.size)
    (hk : ∀ b, b ≠ L.sk → b < w.heap.size → w'.heap[b]? = w.heap[b]?) (hn : w'.heap[L.sk]? = some (sesC { L with rb := bs } c.task fuel)) : SesAt w0 w' { L with rb := bs } c { s with fuel := fuel, rs := rs } := by
  obtain ⟨n1, n2, n3, n4, n5⟩ := h.ses_ne
  obtain ⟨fv, cv, h1, h2⟩ := h.mach
  have hlt := h.lt
  have hso := h.own L.sk (.inr (.inl rfl))
  refine ⟨⟨fv, cv, (hk _ n1 (hlt _ (.inl rfl))).trans h1, h2⟩, hn, h.mem.keep fun b hb => hk b (fun e => n2 (e ▸ hb)) (hlt b (.inr (.inr (.inl hb)))),
    own_keep h.told fun b hb => hk b (fun e => n4 (e ▸ hb)) (hlt b (.inr (.inr (.inr (.inr (.inl hb)))))), hr, ?_, ?_, h.apart, h.evs.1, fun b hb => ?_⟩
  · exact h.below.next size fun b hl hf => hk b (fun e => hf (e ▸ hso)) hl
  · rintro b (rfl | rfl | hb | hb | hb | hb)
    · exact h.own _ (.inl rfl)
    · exact hso
    · exact h.own _ (.inr (.inr (.inl hb)))
    · exact h.own _ (.inr (.inr (.inr (.inl hb))))
    · exact h.own _ (.inr (.inr (.inr (.inr (.inl hb)))))
    · exact hs b hb
  · obtain ⟨D, ⟨es, clock, h5, h6⟩, h7⟩ := h.evs.2 b hb
    exact ⟨D, ⟨es, clock, (hk b (fun e => n3 (e ▸ hb)) (hlt b (.inr (.inr (.inr (.inl hb)))))).trans h5, h6⟩, h7⟩

/-- a run more is laid, and is the topmost -/
theorem Turns.push {w0 w : World} {L : Ly} {c : Cx} {s : Se} (h : SesAt w0 w L c s) {fv : Value} {r : Ru} (hf : C.FunV w0 fv r.fn) (hl : r.rg.length = 16) :
    Turns w0 w ((w.setCell ⟨L.sk, 3, none⟩ (.pointer (some ⟨w.heap.size, 0, none⟩))).alloc (.cells (ruC (upV L.rb) fv r).toArray 120)).drew L c s { s with rs := r :: s.rs } := by
  have hsl := h.lt L.sk (.inr (.inl rfl))
  have hne : w.heap.size ≠ L.sk := Nat.ne_of_gt hsl
  have hsz : (w.setCell ⟨L.sk, 3, none⟩ (.pointer (some ⟨w.heap.size, 0, none⟩))).heap.size = w.heap.size := by simp [World.setCell]
  have hk : ∀ b, b ≠ L.sk → b < w.heap.size → ((w.setCell ⟨L.sk, 3, none⟩ (.pointer (some ⟨w.heap.size, 0, none⟩))).alloc (.cells (ruC (upV L.rb) fv r).toArray 120)).drew.heap[b]? = w.heap[b]? := fun b hb hlb =>
    (Below.heap_alloc _ _ _ (by rw [hsz]; exact hlb)).trans (Below.heap_setCell _ _ _ _ hb)
  have hnew : ((w.setCell ⟨L.sk, 3, none⟩ (.pointer (some ⟨w.heap.size, 0, none⟩))).alloc (.cells (ruC (upV L.rb) fv r).toArray 120)).drew.heap[w.heap.size]? = some (.cells (ruC (upV L.rb) fv r).toArray 120) := by
    have := heap_alloc_new (w.setCell ⟨L.sk, 3, none⟩ (.pointer (some ⟨w.heap.size, 0, none⟩))) (.cells (ruC (upV L.rb) fv r).toArray 120)
    rw [hsz] at this
    exact this
  have hss : ((w.setCell ⟨L.sk, 3, none⟩ (.pointer (some ⟨w.heap.size, 0, none⟩))).alloc (.cells (ruC (upV L.rb) fv r).toArray 120)).drew.heap[L.sk]? = some (sesC { L with rb := w.heap.size :: L.rb } c.task s.fuel) := by
    refine (Below.heap_alloc _ _ _ (by rw [hsz]; exact hsl)).trans ?_
    have h5 := h.ses
    rw [sesC] at h5
    rw [heap_setCell_same w L.sk 3 _ 72 _ h5]
    simp [sesC, upV]
  have hos : ∀ {α : Type} (q : World → α), True := fun _ => trivial
  clear hos
  generalize hWe : ((w.setCell ⟨L.sk, 3, none⟩ (.pointer (some ⟨w.heap.size, 0, none⟩))).alloc (.cells (ruC (upV L.rb) fv r).toArray 120)).drew = W at hk hnew hss ⊢
  have e1 : W.os = w.os := by rw [← hWe]; rfl
  have e2 : W.tape = w.tape := by rw [← hWe]; rfl
  have e3 : W.output = w.output := by rw [← hWe]; rfl
  have e4 : w.heap.size ≤ W.heap.size := Nat.le_of_lt (Array.getElem?_eq_some_iff.1 hnew).1
  have hrun : RunsAt w0 W (w.heap.size :: L.rb) (r :: s.rs) :=
    ⟨⟨fv, hnew, hf⟩, hl, fun hm => absurd (h.lt _ (.inr (.inr (.inr (.inr (.inr hm)))))) (Nat.lt_irrefl _), RunsAt.keep _ _ h.runs fun b hb => hk b (fun e => h.ses_ne.2.2.2.2 (e ▸ hb)) (h.lt _ (.inr (.inr (.inr (.inr (.inr hb))))))⟩
  have hput := h.put2 (w' := W) (w.heap.size :: L.rb) (r :: s.rs) s.fuel hrun (fun b hb => by
    rcases List.mem_cons.1 hb with rfl | hb
    · exact free_of_ge h.below.size
    · exact h.own b (.inr (.inr (.inr (.inr (.inr hb)))))) e1 e2 e3 e4 hk hss
  refine ⟨{ L with rb := w.heap.size :: L.rb }, rfl, rfl, rfl, rfl, hput, fun b hb => ?_, ⟨e1, e2, e3, e4, fun b hb hn => hk b (fun e => hn (.inr (.inl e))) hb⟩⟩
  rcases hb with h | h | h | h | h | h
  · exact .inl (.inl h)
  · exact .inl (.inr (.inl h))
  · exact .inl (.inr (.inr (.inl h)))
  · exact .inl (.inr (.inr (.inr (.inl h))))
  · exact .inl (.inr (.inr (.inr (.inr (.inl h)))))
  · rcases List.mem_cons.1 (show b ∈ w.heap.size :: L.rb from h) with rfl | h
    · exact .inr (Nat.le_refl _)
    · exact .inl (.inr (.inr (.inr (.inr (.inr h)))))

set_option maxRecDepth 100000 in
set_option maxHeartbeats 4000000 in
theorem begin_any {w0 w : World} {L : Ly} {c : Cx} {s : Se} (H : SesAt w0 w L c s) (f : Nat) (hf : f < c.p.fs.length) (x : Wd) :
    Calls Tryd.prog 43 #[.pointer (some ⟨L.sk, 0, none⟩), .int .i64 f, .agg #[.bool x.p, .int .i64 x.a, .int .i64 x.n]] w fun e w' => e = .returned (.tuple #[]) ∧ Turns w0 w w' L c s (s.begin c.p f x z3) := by
  obtain ⟨W, hW⟩ : ∃ W, W = w.alloc (.cells #[.bool x.p, .int .i64 x.a, .int .i64 x.n] 38) := ⟨_, rfl⟩
  have hbW : Below w.heap.size w W := by rw [hW]; exact C.alloc_below _ _
  have hx : W.heap[w.heap.size]? = some (.cells #[.bool x.p, .int .i64 x.a, .int .i64 x.n] 38) := by rw [hW, heap_alloc_new]
  have HS := H.under hbW
  have hses := HS.ses
  rw [sesC] at hses
  obtain ⟨ua, hup⟩ : ∃ ua, upV L.rb = .pointer ua := by cases L.rb <;> exact ⟨_, rfl⟩
  rw [hup] at hses
  obtain ⟨fv, cv, hmc, hP⟩ := HS.mach
  obtain ⟨g, hg⟩ : ∃ g, c.p.fs[f]? = some g := ⟨_, List.getElem?_eq_getElem hf⟩
  have hgo : funOf c.p f = g := by simp [funOf, hg]
  obtain ⟨⟨oa, cap, bf, off, rfl, -, -, p3, p4⟩, -⟩ := hP
  obtain ⟨rfl, pb⟩ := p3 (by omega)
  obtain ⟨gv, k0, hG⟩ := p4 f g hg
  replace k0 := HS.below.cell' _ _ k0
  have hfl : bf < W.heap.size := Nat.lt_of_lt_of_le pb HS.below.size
  obtain ⟨z0, z1, z2, z3', zf, zl⟩ := cells4m hses
  obtain ⟨y0, y1, y2, y3, y4, yf, yl⟩ := cells5 hmc
  obtain ⟨x0, x1, x2, xf, xl⟩ := cells3 hx
  have hsl := H.lt L.sk (.inr (.inl rfl))
  have hml := H.lt L.mc (.inl rfl)
  have hlt : (f : Int) < c.p.fs.length := by omega
  have HT := Lib.hid (Turns.under hbW (Turns.push HS (r := ⟨g, 0, x, List.replicate 16 z3⟩) hG (by simp)))
  obtain ⟨oag, capg, hge⟩ : ∃ oag capg, gv = .slice oag g.length capg := by obtain ⟨a, b, _, _, h, _⟩ := hG; exact ⟨a, b, h⟩
  subst hge
  have HGO := Lib.hid hgo
  have HUP := Lib.hid hup
  obtain ⟨B, hB⟩ : ∃ B, B = w.heap.size := ⟨_, rfl⟩
  go_enter Tryd.func43, Tryd.ntmps43
  go_upto_region 1 with fail
  rw [← hW]
  clear hW hbW hx HS hses hmc hG p3 p4 hg hgo hup pb H hf
  rw [← hB] at x0 x1 x2 xl
  simp only [← hB] at xf ⊢
  replace hB := Lib.hid hB
  go_region
  have hT := HT.out
  rw [HUP.out, show (ruC (.pointer ua) (.slice oag g.length capg) ⟨g, 0, x, List.replicate 16 z3⟩).toArray = #[.pointer ua, .slice oag g.length capg, .int .i64 0, .bool x.p, .int .i64 x.a, .int .i64 x.n, .bool false, .int .i64 0, .int .i64 0, .bool false, .int .i64 0, .int .i64 0, .bool false, .int .i64 0, .int .i64 0, .bool false, .int .i64 0, .int .i64 0, .bool false, .int .i64 0, .int .i64 0, .bool false, .int .i64 0, .int .i64 0, .bool false, .int .i64 0, .int .i64 0, .bool false, .int .i64 0, .int .i64 0, .bool false, .int .i64 0, .int .i64 0, .bool false, .int .i64 0, .int .i64 0, .bool false, .int .i64 0, .int .i64 0, .bool false, .int .i64 0, .int .i64 0, .bool false, .int .i64 0, .int .i64 0, .bool false, .int .i64 0, .int .i64 0, .bool false, .int .i64 0, .int .i64 0, .bool false, .int .i64 0, .int .i64 0] from rfl] at hT
  have HTT := Lib.hid hT
  clear hT
  go_returns
  exact ⟨rfl, by rw [Se.begin, HGO.out]; exact HTT.out⟩
end Go.Proofs.YtgpkhdccchpljaaDoor
