/-
  Several texts of the proof in one: KInv, KInvS, KMac. No conditions of their own: each lemma states its own.
-/
import Derived.Test.YtgpkhdccchpljaaDoorKJNum
import Derived.Test.YtgpkhdccchpljaaDoorCAll
import Derived.Test.YtgpkhdccchpljaaDoorKJStepped
namespace Go.Proofs.YtgpkhdccchpljaaDoor
open Go.RowKit
open M (Wd MS Cl loadR storeR copyR clearR freeR allocR)
open C (In Cr Pg PgOk FnOk instrB_iff fitsB labB shp tab known fallsB kindsL)

def inR (n : Int) : Prop := -9223372036854775808 ≤ n ∧ n ≤ 9223372036854775807
theorem inR_wr (n : Int) : inR (wr n) := by unfold inR wr wrap64; omega
theorem inR_0 : inR 0 := by unfold inR; omega
def CsOk (l : List Cl) : Prop := ∀ x : Wd, some x ∈ l → inR x.n
def MemOk (S : MS) : Prop := ∀ l, some l ∈ S.blocks → CsOk l

theorem at_mem {S : MS} {k : Nat} {l : List Cl} (h : S.at k = some l) : some l ∈ S.blocks := by
  unfold MS.at at h
  cases hb : S.blocks[k]? with
  | none => rw [hb] at h; cases h
  | some o => rw [hb] at h; simp at h; subst h; exact List.mem_of_getElem? hb
theorem memOk_setb {S : MS} (h : MemOk S) (k : Nat) (o : Option (List Cl)) (ho : ∀ l, o = some l → CsOk l) : MemOk (S.setb k o) := by
  intro l hl
  rcases List.mem_or_eq_of_mem_set hl with h1 | h1
  · exact h l h1
  · exact ho l h1.symm
theorem len_setb (S : MS) (k : Nat) (o : Option (List Cl)) : (S.setb k o).blocks.length = S.blocks.length := by simp [MS.setb]
theorem csOk_lay {l cs : List Cl} {n : Nat} (hl : CsOk l) (hc : CsOk cs) : CsOk (M.lay l n cs) := by
  intro x hx
  simp only [M.lay, List.mem_append] at hx
  rcases hx with (h | h) | h
  · exact hl x (List.mem_of_mem_take h)
  · exact hc x h
  · exact hl x (List.mem_of_mem_drop h)
theorem csOk_nones (n : Nat) : CsOk (List.replicate n none) := fun x hx => by
  have := (List.mem_replicate.1 hx).2
  cases this
theorem memOk_map {S : MS} (h : MemOk S) (k : Nat) (f : List Cl → List Cl) (hf : ∀ l, CsOk l → CsOk (f l)) (j : Nat) : MemOk (S.setb j ((S.at k).map f)) := by
  refine memOk_setb h j _ fun l hl => ?_
  cases ha : S.at k with
  | none => rw [ha] at hl; cases hl
  | some l0 =>
    rw [ha] at hl
    simp at hl
    subst hl
    exact hf l0 (h l0 (at_mem ha))

theorem store_ok {S : MS} (h : MemOk S) (b : Bool) (a n : Int) {x : Wd} (hx : inR x.n) : MemOk (storeR S b a n x).2 ∧ (storeR S b a n x).2.blocks.length = S.blocks.length := by
  unfold storeR
  split
  · exact ⟨h, rfl⟩
  · refine ⟨memOk_map h _ _ (fun l hl y hy => ?_) _, len_setb _ _ _⟩
    rcases List.mem_or_eq_of_mem_set hy with h1 | h1
    · exact hl y h1
    · cases h1; exact hx
theorem clear_ok {S : MS} (h : MemOk S) (b : Bool) (a n c : Int) : MemOk (clearR S b a n c).2 ∧ (clearR S b a n c).2.blocks.length = S.blocks.length := by
  unfold clearR
  split
  · exact ⟨h, rfl⟩
  · split
    · exact ⟨h, rfl⟩
    · exact ⟨memOk_map h _ _ (fun l hl => csOk_lay hl (csOk_nones _)) _, len_setb _ _ _⟩
theorem copy_ok {S : MS} (h : MemOk S) (b : Bool) (a n : Int) (b' : Bool) (a' n' c : Int) : MemOk (copyR S b a n b' a' n' c).2 ∧ (copyR S b a n b' a' n' c).2.blocks.length = S.blocks.length := by
  unfold copyR
  split
  · exact ⟨h, rfl⟩
  · split
    · exact ⟨h, rfl⟩
    · split
      · exact ⟨h, rfl⟩
      · split
        · exact ⟨h, rfl⟩
        · refine ⟨memOk_map h _ _ (fun l hl => csOk_lay hl ?_) _, len_setb _ _ _⟩
          intro x hx
          have h1 := List.mem_of_mem_drop (List.mem_of_mem_take hx)
          cases ha : S.at (a' - 1).toNat with
          | none => rw [ha] at h1; simp at h1
          | some l0 => rw [ha] at h1; exact h l0 (at_mem ha) x h1
theorem free_ok {S : MS} (h : MemOk S) (b : Bool) (a n : Int) : MemOk (freeR S b a n).2 ∧ (freeR S b a n).2.blocks.length = S.blocks.length := by
  unfold freeR
  split
  · exact ⟨h, rfl⟩
  · split
    · exact ⟨h, rfl⟩
    · exact ⟨memOk_setb h _ _ (fun l hl => by cases hl), len_setb _ _ _⟩
theorem alloc_ok {S : MS} (h : MemOk S) (n : Int) : MemOk (allocR S n).2 ∧ (allocR S n).2.blocks.length ≤ S.blocks.length + 1 ∧ inR (allocR S n).1.1.n := by
  unfold allocR
  split
  · exact ⟨h, Nat.le_succ _, inR_0⟩
  · split
    · exact ⟨h, Nat.le_succ _, inR_0⟩
    · refine ⟨fun l hl => ?_, by simp [MS.push], inR_0⟩
      simp only [MS.push, List.mem_append, List.mem_singleton] at hl
      rcases hl with h1 | h1
      · exact h l h1
      · cases h1; exact csOk_nones _
theorem load_inR {S : MS} (h : MemOk S) (b : Bool) (a n : Int) : inR (loadR S b a n).1.n := by
  unfold loadR
  split
  · exact inR_0
  · split
    · exact inR_0
    · rename_i l hl
      split
      · rename_i x hx
        exact h l (at_mem hl) x (List.mem_of_getElem? hx)
      · exact inR_0
theorem lay_ok {S : MS} (h : MemOk S) (x : Wd) (k : Int) {n : Int} (hn : inR n) : MemOk (layR S x k n) ∧ (layR S x k n).blocks.length = S.blocks.length := store_ok h _ _ _ (x := nm n) hn
theorem layArgs_ok (x : Wd) : ∀ (l : List Int) (i : Nat) {S : MS}, MemOk S → (∀ n ∈ l, inR n) → MemOk (layArgs S x l i) ∧ (layArgs S x l i).blocks.length = S.blocks.length
  | [], _, S, h, _ => ⟨h, rfl⟩
  | n :: l, i, S, h, hl => by
    have h1 := lay_ok h x (3 + (i : Int)) (hl n (by simp))
    have h2 := layArgs_ok x l (i + 1) h1.1 (fun m hm => hl m (by simp [hm]))
    exact ⟨h2.1, h2.2.trans h1.2⟩
theorem frame_ok (p : Pg) {S : MS} (h : MemOk S) (co : Int) (hco : inR co) (args : List Int) (ha : ∀ n ∈ args, inR n) : MemOk (frameR p S co args).2 ∧ (frameR p S co args).2.blocks.length ≤ S.blocks.length + 1 ∧ inR (frameR p S co args).1.1.n := by
  obtain ⟨a1, a2, a3⟩ := alloc_ok h (coOf p co).wo
  unfold frameR
  split
  · exact ⟨a1, a2, inR_0⟩
  · have b1 := lay_ok a1 (allocR S (coOf p co).wo).1.1 0 inR_0
    have b2 := lay_ok b1.1 (allocR S (coOf p co).wo).1.1 2 hco
    have b3 := layArgs_ok (allocR S (coOf p co).wo).1.1 args 0 b2.1 ha
    refine ⟨b3.1, ?_, a3⟩
    have := b3.2.trans (b2.2.trans b1.2)
    simp only
    omega
theorem off_inR (x : Wd) (k : Int) : inR (offR x k).1.n := by
  unfold offR
  split
  · exact inR_wr _
  · exact inR_0

/-- a run's registers, its frame -/
structure RgOk (r : Ru) : Prop where
  len : r.rg.length = 16
  rg : ∀ x ∈ r.rg, inR x.n
  fr : inR r.fr.n
theorem RgOk.get {r : Ru} (h : RgOk r) (i : Int) : inR (r.get i).n := by
  unfold Ru.get
  rw [List.getD_eq_getElem?_getD]
  cases hg : r.rg[i.toNat]? with
  | none => exact inR_0
  | some x => exact h.rg x (List.mem_of_getElem? hg)
theorem RgOk.put {r : Ru} (h : RgOk r) (i : Int) {x : Wd} (hx : inR x.n) : RgOk (r.put i x) := by
  refine ⟨by simp [Ru.put, h.len], fun y hy => ?_, h.fr⟩
  rcases List.mem_or_eq_of_mem_set hy with h1 | h1
  · exact h.rg y h1
  · exact h1 ▸ hx

def Base (p : Pg) (r : Ru) : Prop := (∃ f : Nat, p.fs[f]? = some r.fn) ∧ RgOk r
def Exec (p : Pg) (r : Ru) : Prop := Base p r ∧ r.nx < r.fn.length
def Wait (p : Pg) (r : Ru) : Prop := Base p r ∧ r.nx < r.fn.length ∧ ∃ k x, r.nx = k + 1 ∧ r.fn[k]? = some x ∧ 23 ≤ x.op ∧ x.op ≤ 26

def mu (q : Out × Se) : Nat := 4 * q.2.fuel.toNat + 2 * q.2.rs.length + (if q.1.k = -1 then 1 else if q.1.k = 4 ∨ q.1.k = 5 ∨ q.1.k = 6 then 0 else 2)

/-- what stays so -/
structure Inv (c : Cx) (K : Nat) (q : Out × Se) : Prop where
  kb : K ≤ 900000
  mem : MemOk q.2.S
  fuel : q.2.fuel ≤ 1000000
  told : q.2.told.length + mu q ≤ 90000000
  made : q.2.S.blocks.length + q.2.fuel.toNat ≤ K
  go : q.1.k = -1 → ∃ r rs, q.2.rs = r :: rs ∧ Exec c.p r ∧ ∀ r' ∈ rs, Wait c.p r'
  wait : q.1.k ≠ -1 → q.1.k ≠ 4 → q.1.k ≠ 5 → q.1.k ≠ 6 → ∀ r' ∈ q.2.rs, Wait c.p r'

/-- what a context must be -/
structure CxOk (c : Cx) : Prop where
  pg : PgOk c.p
  b : ∀ f ∈ c.p.fs, ∀ x ∈ f, inR x.b
  ev : ∀ e n, brought c.evs e = some n → inR n

/-- what an instruction of code that may be run is -/
structure InsOk (c : Cx) (f : List In) (x : In) : Prop where
  kn : 0 ≤ x.op ∧ x.op < 30
  a : fitsB c.p.cs.length (kindsL c.p) x.a (shp x.op).f0 = true
  b : fitsB c.p.cs.length (kindsL c.p) x.b (shp x.op).f1 = true
  c : fitsB c.p.cs.length (kindsL c.p) x.c (shp x.op).f2 = true
  l : ∀ l ∈ x.l, 0 ≤ l ∧ l < f.length
  lb : labB (shp x.op).lb x.l.length = true
  ib : inR x.b
theorem CxOk.ins {c : Cx} (h : CxOk c) {r : Ru} (hb : Base c.p r) {k : Nat} {x : In} (hx : r.fn[k]? = some x) : InsOk c r.fn x ∧ (fallsB x.op = true → k + 1 < r.fn.length) ∧ r.fn.length ≤ 65536 := by
  obtain ⟨⟨f, hf⟩, -⟩ := hb
  have h1 := h.pg.fn f _ hf
  have hm := List.mem_of_getElem? hx
  obtain ⟨g1, g2, g3, g4, g5, g6, g7⟩ := instrB_iff.1 (h1.ins x hm)
  refine ⟨⟨by simpa [known] using g1, g3, g4, g5, g6, g7, h.b _ (List.mem_of_getElem? hf) x hm⟩, fun hfa => ?_, h1.small⟩
  have hlt := (List.getElem?_eq_some_iff.1 hx).1
  by_cases he : k + 1 = r.fn.length
  · have := h1.last x (by rw [← he]; exact hx)
    rw [this] at hfa
    cases hfa
  · omega
theorem InsOk.reg {c : Cx} {n f : Int} (h : fitsB c.p.cs.length (kindsL c.p) n f = true) (hf : f = 1 ∨ f = 2) : 0 ≤ n ∧ n < 16 := C.fits_reg h hf
theorem InsOk.cnt {c : Cx} {n : Int} (h : fitsB c.p.cs.length (kindsL c.p) n 5 = true) : 0 ≤ n ∧ n ≤ 1048576 := by
  have := h
  simp [fitsB, C.below] at this
  omega
theorem InsOk.co {c : Cx} {n : Int} (h : fitsB c.p.cs.length (kindsL c.p) n 6 = true) : 0 ≤ n ∧ n < c.p.cs.length := by
  have := h
  simp [fitsB, C.below] at this
  omega
theorem kinds_len (p : Pg) : (kindsL p).length = p.fs.length := by
  unfold kindsL
  rw [C.markAll_len, C.markAll_len]
  simp
theorem InsOk.fn {c : Cx} {n : Int} (h : fitsB c.p.cs.length (kindsL c.p) n 7 = true) : 0 ≤ n ∧ n < c.p.fs.length := by
  have h1 := h
  simp [fitsB, C.isB, C.below] at h1
  have := kinds_len c.p
  omega
theorem lab1 {n : Nat} (h : labB 1 n = true) : n = 1 := by simpa [labB] using h
theorem lab_lt {c : Cx} {f : List In} {x : In} (h : InsOk c f x) (i : Int) (h0 : 0 ≤ i) (h1 : i < x.l.length) : In.lab x i < f.length := by
  unfold In.lab
  rw [List.getD_eq_getElem?_getD, List.getElem?_eq_getElem (show i.toNat < x.l.length by omega)]
  have := h.l x.l[i.toNat] (List.getElem_mem _)
  simp only [Option.getD_some]
  omega
/-- a function that is begun -/
theorem exec_begin {c : Cx} (h : CxOk c) {f : Int} (hf : 0 ≤ f ∧ f < c.p.fs.length) {fr r0 : Wd} (h0 : inR r0.n) (h1 : inR fr.n) : Exec c.p ⟨funOf c.p f, 0, fr, r0 :: List.replicate 15 z3⟩ := by
  obtain ⟨g, hg⟩ : ∃ g, c.p.fs[f.toNat]? = some g := ⟨_, List.getElem?_eq_getElem (show f.toNat < c.p.fs.length by omega)⟩
  have he : funOf c.p f = g := by simp [funOf, hg]
  rw [he]
  refine ⟨⟨⟨f.toNat, hg⟩, by simp, fun x hx => ?_, h1⟩, (h.pg.fn _ _ hg).pos⟩
  rcases List.mem_cons.1 hx with rfl | hx
  · exact h0
  · rw [(List.mem_replicate.1 hx).2]; exact inR_0
end Go.Proofs.YtgpkhdccchpljaaDoor

namespace Go.Proofs.YtgpkhdccchpljaaDoor
open Go.RowKit
open M (Wd MS Cl loadR storeR copyR clearR freeR allocR)
open C (In Cr Pg PgOk FnOk instrB_iff fitsB labB shp tab known fallsB kindsL)

theorem stopO_k (e : Int) : (e = 0 ∧ (stopO e).k = -1) ∨ (e ≠ 0 ∧ ((stopO e).k = 5 ∨ (stopO e).k = 6)) := by
  unfold stopO
  by_cases h : e = 0
  · left; simp [h]
  · right
    refine ⟨h, ?_⟩
    rw [if_neg h]
    split
    · left; rfl
    · right; rfl

/-- what comes of one instruction: s1 is how it began, rs are the runs below -/
structure Fine (c : Cx) (s1 : Se) (rs : List Ru) (q : Out × Se) : Prop where
  mem : MemOk q.2.S
  fuel : q.2.fuel = s1.fuel
  told : q.2.told.length ≤ s1.told.length + 1
  made : q.2.S.blocks.length ≤ s1.S.blocks.length + 1
  len : q.2.rs.length ≤ rs.length + 2
  go : q.1.k = -1 → ∃ r' rs', q.2.rs = r' :: rs' ∧ Exec c.p r' ∧ ∀ r'' ∈ rs', Wait c.p r''
  wait : q.1.k ≠ -1 → q.1.k ≠ 4 → q.1.k ≠ 5 → q.1.k ≠ 6 → ∀ r' ∈ q.2.rs, Wait c.p r'
  len2 : q.1.k ≠ -1 → q.2.rs.length ≤ rs.length + 1

theorem fine_stop {c : Cx} {s1 s2 : Se} {rs : List Ru} {r' : Ru} (e : Int) (hm : MemOk s2.S) (hf : s2.fuel = s1.fuel) (ht : s2.told.length ≤ s1.told.length + 1) (hd : s2.S.blocks.length ≤ s1.S.blocks.length + 1) (hr : s2.rs = r' :: rs) (hx : e = 0 → Exec c.p r') (hw : ∀ r'' ∈ rs, Wait c.p r'') : Fine c s1 rs (stopO e, s2) := by
  rcases stopO_k e with ⟨h0, h1⟩ | ⟨h0, h1⟩
  · exact ⟨hm, hf, ht, hd, by simp [hr], fun _ => ⟨r', rs, hr, hx h0, hw⟩, fun h => absurd h1 h, fun h => absurd h1 h⟩
  · exact ⟨hm, hf, ht, hd, by simp [hr], fun h => by simp only at h; omega, fun _ _ h5 h6 => by simp only at h5 h6; omega, fun _ => by simp [hr]⟩
theorem fine_on {c : Cx} {s1 s2 : Se} {rs : List Ru} {r' : Ru} (hm : MemOk s2.S) (hf : s2.fuel = s1.fuel) (ht : s2.told.length ≤ s1.told.length + 1) (hd : s2.S.blocks.length ≤ s1.S.blocks.length + 1) (hr : s2.rs = r' :: rs) (hx : Exec c.p r') (hw : ∀ r'' ∈ rs, Wait c.p r'') : Fine c s1 rs (on, s2) :=
  fine_stop 0 hm hf ht hd hr (fun _ => hx) hw
theorem fine_leave {c : Cx} {s1 s2 : Se} {rs : List Ru} (o : Out) (hk : o.k ≠ -1) (hm : MemOk s2.S) (hf : s2.fuel = s1.fuel) (ht : s2.told.length ≤ s1.told.length + 1) (hd : s2.S.blocks.length ≤ s1.S.blocks.length + 1) (hr : s2.rs = rs) (hw : ∀ r'' ∈ rs, Wait c.p r'') : Fine c s1 rs (o, s2) :=
  ⟨hm, hf, ht, hd, by simp [hr], fun h => absurd h hk, fun _ _ _ _ => by rw [hr]; exact hw, fun _ => by simp [hr]⟩

theorem numE_le (x : Wd) (h : numE x ≠ 0) : numE x = 11 := by
  unfold numE at *
  split at h
  · rename_i h1; simp [h1]
  · exact absurd rfl h
theorem reck_inR (op a b : Int) : inR (reckR op a b).1 := by
  have hb : ∀ t : Bool, inR (bitI t) := fun t => by cases t <;> (unfold bitI inR; simp)
  unfold reckR
  split
  · exact inR_wr _
  · split
    · exact inR_wr _
    · split
      · exact inR_wr _
      · split
        · exact hb _
        · exact hb _

theorem look_co {p : Pg} {S : MS} {x : Wd} (h : (lookR p S x).2.2 = 0) : (lookR p S x).2.1 ∈ p.cs := by
  unfold lookR at h ⊢
  split at h
  · rename_i h1; exact absurd h h1
  · split at h
    · rename_i h1; exact absurd h h1
    · split at h
      · simp at h
      · rename_i h1 h2 h3
        rw [if_neg h1, if_neg h2, if_neg h3]
        have h4 : hasB p (numR S x 2).1 = true := by simpa using h3
        simp only [hasB, Bool.and_eq_true, decide_eq_true_eq] at h4
        simp only [coOf]
        rw [List.getD_eq_getElem?_getD, List.getElem?_eq_getElem (show (numR S x 2).1.toNat < p.cs.length by omega)]
        exact List.getElem_mem _
theorem co_fun {c : Cx} (hc : CxOk c) {cr : Cr} (h : cr ∈ c.p.cs) : (0 ≤ cr.re ∧ cr.re < c.p.fs.length) ∧ (0 ≤ cr.ca ∧ cr.ca < c.p.fs.length) := by
  have h1 := hc.pg.co cr h
  have := kinds_len c.p
  simp only [C.coB, C.isB, C.below, Bool.and_eq_true, decide_eq_true_eq] at h1
  obtain ⟨⟨h2, -⟩, ⟨h3, -⟩, -⟩ := h1
  omega

/-- a frame is gone on with, or undone: the session s2, whose topmost run waits or which has none -/
theorem fine_begin {c : Cx} (hc : CxOk c) {s1 s2 : Se} {rs : List Ru} (f : Int) (hf : 0 ≤ f ∧ f < c.p.fs.length) {x r0 : Wd} (hx : inR x.n) (h0 : inR r0.n) (hm : MemOk s2.S) (hfu : s2.fuel = s1.fuel) (ht : s2.told.length ≤ s1.told.length + 1) (hd : s2.S.blocks.length ≤ s1.S.blocks.length + 1) (hl : s2.rs.length ≤ rs.length + 1) (hw : ∀ r'' ∈ s2.rs, Wait c.p r'') : Fine c s1 rs (on, s2.begin c.p f x r0) :=
  ⟨hm, hfu, ht, hd, by simp [Se.begin]; omega, fun _ => ⟨_, s2.rs, rfl, exec_begin hc hf h0 hx, hw⟩, fun h => absurd rfl h, fun h => absurd rfl h⟩
theorem fine_goOn {c : Cx} (hc : CxOk c) {s1 : Se} {rs : List Ru} {x : Wd} (hx : inR x.n) (hm : MemOk s1.S) (hl : s1.rs.length ≤ rs.length + 1) (hw : ∀ r'' ∈ s1.rs, Wait c.p r'') : Fine c s1 rs (goOnR c.p s1 x) := by
  unfold goOnR
  split
  · rename_i h
    rcases stopO_k (lookR c.p s1.S x).2.2 with ⟨h0, h1⟩ | ⟨h0, h1⟩
    · exact absurd h0 h
    · exact ⟨hm, rfl, Nat.le_succ _, Nat.le_succ _, by simp only; omega, fun h => by simp only at h; omega, fun _ _ h5 h6 => by simp only at h5 h6; omega, fun _ => hl⟩
  · rename_i h
    split
    · exact ⟨hm, rfl, Nat.le_succ _, Nat.le_succ _, by simp only; omega, fun h => by simp at h, fun _ _ _ _ => hw, fun _ => hl⟩
    · split
      · exact ⟨hm, rfl, Nat.le_succ _, Nat.le_succ _, by simp only; omega, fun h => by simp at h, fun _ _ _ _ => hw, fun _ => hl⟩
      · exact fine_begin hc _ (co_fun hc (look_co (by simpa using h))).1 hx inR_0 hm rfl (Nat.le_succ _) (Nat.le_succ _) hl hw
theorem fine_undo {c : Cx} (hc : CxOk c) {s1 : Se} {rs : List Ru} {x : Wd} (hx : inR x.n) (hm : MemOk s1.S) (hl : s1.rs.length ≤ rs.length + 1) (hw : ∀ r'' ∈ s1.rs, Wait c.p r'') : Fine c s1 rs (undoR c.p s1 x) := by
  unfold undoR
  split
  · rename_i h
    rcases stopO_k (lookR c.p s1.S x).2.2 with ⟨h0, h1⟩ | ⟨h0, h1⟩
    · exact absurd h0 h
    · exact ⟨hm, rfl, Nat.le_succ _, Nat.le_succ _, by simp only; omega, fun h => by simp only at h; omega, fun _ _ h5 h6 => by simp only at h5 h6; omega, fun _ => hl⟩
  · rename_i h
    split
    · exact ⟨hm, rfl, Nat.le_succ _, Nat.le_succ _, by simp only; omega, fun h => by simp at h, fun _ _ _ _ => hw, fun _ => hl⟩
    · exact fine_begin hc _ (co_fun hc (look_co (by simpa using h))).2 hx inR_0 hm rfl (Nat.le_succ _) (Nat.le_succ _) hl hw

theorem word_ok {c : Cx} {S : MS} (h : MemOk S) (r : Ru) {f : List In} {x : In} (hi : InsOk c f x) : MemOk (wordR c.p S r x).2 ∧ (wordR c.p S r x).2.blocks.length ≤ S.blocks.length + 1 ∧ inR (wordR c.p S r x).1.1.n := by
  unfold wordR
  split
  · exact ⟨h, Nat.le_succ _, off_inR _ _⟩
  · split
    · exact ⟨h, Nat.le_succ _, off_inR _ _⟩
    · split
      · exact ⟨h, Nat.le_succ _, load_inR h _ _ _⟩
      · split
        · exact alloc_ok h _
        · split
          · exact frame_ok c.p h _ hi.ib [] (fun n hn => by simp at hn)
          · exact ⟨h, Nat.le_succ _, hi.ib⟩
theorem change_ok {S : MS} (h : MemOk S) {r : Ru} (hr : RgOk r) (x : In) : MemOk (changeR S r x).2 ∧ (changeR S r x).2.blocks.length = S.blocks.length := by
  unfold changeR
  split
  · exact store_ok h _ _ _ (hr.get _)
  · split
    · exact copy_ok h _ _ _ _ _ _ _
    · split
      · have h1 := copy_ok h (r.get x.a).p (r.get x.a).a (r.get x.a).n (r.get x.b).p (r.get x.b).a (r.get x.b).n x.c
        split
        · exact h1
        · have h2 := clear_ok h1.1 (r.get x.b).p (r.get x.b).a (r.get x.b).n x.c
          exact ⟨h2.1, h2.2.trans h1.2⟩
      · split
        · exact clear_ok h _ _ _ _
        · exact free_ok h _ _ _

theorem exec_fine {c : Cx} (hc : CxOk c) {s1 : Se} {r : Ru} {rs : List Ru} {x : In} {k : Nat} (hrs : s1.rs = r :: rs) (hm : MemOk s1.S) (hB : Base c.p r) (hk : r.nx = k + 1) (hx : r.fn[k]? = some x) (hw : ∀ r' ∈ rs, Wait c.p r') : Fine c s1 rs (execR c s1 r rs x) := by
  obtain ⟨hi, hfall, -⟩ := hc.ins hB hx
  have hfa : fallsB x.op = true → Exec c.p r := fun h => ⟨hB, by rw [hk]; exact hfall h⟩
  have hnx : ∀ i : Int, 0 ≤ i → i < x.l.length → Exec c.p { r with nx := In.lab x i } := fun i h0 h1 => ⟨⟨hB.1, hB.2.len, hB.2.rg, hB.2.fr⟩, lab_lt hi i h0 h1⟩
  have hput : ∀ (i : Int) {y : Wd}, inR y.n → Exec c.p r → Exec c.p (r.put i y) := fun i y hy he => ⟨⟨he.1.1, he.1.2.put i hy⟩, he.2⟩
  have hwt : 23 ≤ x.op → x.op ≤ 26 → ∀ r'' ∈ s1.rs, Wait c.p r'' := fun h1 h2 r'' h'' => by
    rw [hrs] at h''
    rcases List.mem_cons.1 h'' with rfl | h''
    · have : fallsB x.op = true := by
        have : x.op = 23 ∨ x.op = 24 ∨ x.op = 25 ∨ x.op = 26 := by omega
        rcases this with h | h | h | h <;> rw [h] <;> rfl
      exact ⟨hB, (hfa this).2, k, x, hk, hx, h1, h2⟩
    · exact hw _ h''
  have hl1 : s1.rs.length ≤ rs.length + 1 := by simp [hrs]
  unfold execR
  by_cases c1 : x.op = 0 ∨ x.op = 1 ∨ x.op = 2 ∨ x.op = 3 ∨ x.op = 16 ∨ x.op = 22
  · rw [if_pos c1]
    obtain ⟨w1, w2, w3⟩ := word_ok (c := c) hm r hi
    refine fine_stop _ w1 rfl (Nat.le_succ _) w2 rfl (fun _ => hput _ w3 (hfa ?_)) hw
    rcases c1 with h | h | h | h | h | h <;> rw [h] <;> rfl
  rw [if_neg c1]
  by_cases c2 : x.op = 4 ∨ x.op = 5 ∨ x.op = 6 ∨ x.op = 7 ∨ x.op = 17
  · rw [if_pos c2]
    obtain ⟨w1, w2⟩ := change_ok hm hB.2 x
    refine fine_stop _ w1 rfl (Nat.le_succ _) (by simp only; omega) hrs (fun _ => hfa ?_) hw
    rcases c2 with h | h | h | h | h <;> rw [h] <;> rfl
  rw [if_neg c2]
  by_cases c3 : x.op = 8 ∨ x.op = 9 ∨ x.op = 10 ∨ x.op = 11 ∨ x.op = 12
  · rw [if_pos c3]
    have hfx : fallsB x.op = true := by rcases c3 with h | h | h | h | h <;> rw [h] <;> rfl
    by_cases hne : numE2 (r.get x.b) (r.get x.c) ≠ 0
    · rw [if_pos hne]
      exact fine_stop _ hm rfl (Nat.le_succ _) (Nat.le_succ _) hrs (fun h => absurd h hne) hw
    rw [if_neg hne]
    by_cases hex : (reckR x.op (r.get x.b).n (r.get x.c).n).2 = true
    · rw [if_pos hex]
      exact fine_on hm rfl (Nat.le_succ _) (Nat.le_succ _) rfl (hput _ (reck_inR _ _ _) (hfa hfx)) hw
    rw [if_neg hex]
    refine fine_on hm rfl (Nat.le_succ _) (Nat.le_succ _) rfl (hnx 0 (by omega) ?_) hw
    have hlb := hi.lb
    have h8 : x.op = 8 ∨ x.op = 9 ∨ x.op = 10 := by
      rcases c3 with h | h | h | h | h
      · exact .inl h
      · exact .inr (.inl h)
      · exact .inr (.inr h)
      · exfalso; apply hex; rw [reckR, h, if_neg (by decide), if_neg (by decide), if_neg (by decide), if_pos rfl]
      · exfalso; apply hex; rw [reckR, h, if_neg (by decide), if_neg (by decide), if_neg (by decide), if_neg (by decide)]
    have : x.l.length = 1 := by rcases h8 with h | h | h <;> rw [h] at hlb <;> exact lab1 hlb
    omega
  rw [if_neg c3]
  by_cases c4 : x.op = 13
  · rw [if_pos c4]
    refine fine_on hm rfl (Nat.le_succ _) (Nat.le_succ _) rfl (hnx 0 (by omega) ?_) hw
    have hlb := hi.lb
    rw [c4] at hlb
    have : x.l.length = 1 := lab1 hlb
    omega
  rw [if_neg c4]
  by_cases c5 : x.op = 14
  · rw [if_pos c5]
    have hfx : fallsB x.op = true := by rw [c5]; rfl
    by_cases hne : numE (r.get x.a) ≠ 0
    · rw [if_pos hne]
      exact fine_stop _ hm rfl (Nat.le_succ _) (Nat.le_succ _) hrs (fun h => absurd h hne) hw
    rw [if_neg hne]
    by_cases hn : (r.get x.a).n ≠ 0
    · rw [if_pos hn]
      refine fine_on hm rfl (Nat.le_succ _) (Nat.le_succ _) rfl (hnx 0 (by omega) ?_) hw
      have hlb := hi.lb
      rw [c5] at hlb
      have : x.l.length = 1 := lab1 hlb
      omega
    · rw [if_neg hn]
      exact fine_on hm rfl (Nat.le_succ _) (Nat.le_succ _) hrs (hfa hfx) hw
  rw [if_neg c5]
  by_cases c6 : x.op = 15
  · rw [if_pos c6]
    by_cases hne : numE (r.get x.a) ≠ 0
    · rw [if_pos hne]
      exact fine_stop _ hm rfl (Nat.le_succ _) (Nat.le_succ _) hrs (fun h => absurd h hne) hw
    rw [if_neg hne]
    by_cases hn : (r.get x.a).n < 0 ∨ (x.l.length : Int) ≤ (r.get x.a).n
    · rw [if_pos hn]
      exact fine_stop 31 hm rfl (Nat.le_succ _) (Nat.le_succ _) hrs (fun h => by cases h) hw
    · rw [if_neg hn]
      exact fine_on hm rfl (Nat.le_succ _) (Nat.le_succ _) rfl (hnx _ (by omega) (by omega)) hw
  rw [if_neg c6]
  by_cases c7 : x.op = 18 ∨ x.op = 19 ∨ x.op = 20
  · rw [if_pos c7]
    have hfx : fallsB x.op = true := by rcases c7 with h | h | h <;> rw [h] <;> rfl
    by_cases hne : numE (r.get x.a) ≠ 0
    · rw [if_pos hne]
      exact fine_stop _ hm rfl (Nat.le_succ _) (Nat.le_succ _) hrs (fun h => absurd h hne) hw
    rw [if_neg hne]
    by_cases h20 : x.op = 20
    · rw [if_pos h20]
      exact fine_leave _ (by simp) hm rfl (Nat.le_succ _) (Nat.le_succ _) rfl hw
    rw [if_neg h20]
    by_cases h19 : x.op = 19
    · rw [if_pos h19]
      exact fine_on hm rfl (by simp [Se.note]) (Nat.le_succ _) hrs (hfa hfx) hw
    · rw [if_neg h19]
      exact fine_on hm rfl (by simp [Se.note]) (Nat.le_succ _) hrs (hfa hfx) hw
  rw [if_neg c7]
  by_cases c8 : x.op = 21
  · rw [if_pos c8]
    have hfx : fallsB x.op = true := by rw [c8]; rfl
    by_cases hne : numE (r.get x.b) ≠ 0
    · rw [if_pos hne]
      exact fine_stop _ hm rfl (Nat.le_succ _) (Nat.le_succ _) hrs (fun h => absurd h hne) hw
    rw [if_neg hne]
    cases hn : brought c.evs (r.get x.b).n with
    | none => exact fine_leave _ (by simp) hm rfl (Nat.le_succ _) (Nat.le_succ _) rfl hw
    | some n => exact fine_on hm rfl (Nat.le_succ _) (Nat.le_succ _) rfl (hput _ (hc.ev _ _ hn) (hfa hfx)) hw
  rw [if_neg c8]
  by_cases c9 : x.op = 23
  · rw [if_pos c9]
    exact fine_goOn hc (hB.2.get _) hm hl1 (hwt (by omega) (by omega))
  rw [if_neg c9]
  by_cases c10 : x.op = 24
  · rw [if_pos c10]
    exact fine_goOn hc (hB.2.get _) hm hl1 (hwt (by omega) (by omega))
  rw [if_neg c10]
  by_cases c11 : x.op = 25
  · rw [if_pos c11]
    exact fine_undo hc (hB.2.get _) hm hl1 (hwt (by omega) (by omega))
  rw [if_neg c11]
  by_cases c12 : x.op = 26
  · rw [if_pos c12]
    have hb := hi.b
    rw [c12] at hb
    exact fine_begin hc _ (InsOk.fn (c := c) hb) inR_0 (hB.2.get _) hm rfl (Nat.le_succ _) (Nat.le_succ _) hl1 (hwt (by omega) (by omega))
  rw [if_neg c12]
  by_cases c13 : x.op = 29
  · rw [if_pos c13]
    exact fine_leave _ (by simp) hm rfl (Nat.le_succ _) (Nat.le_succ _) rfl hw
  rw [if_neg c13]
  have hst := store_ok hm r.fr.p r.fr.a r.fr.n (x := nm (if x.op = 28 then -2 else -1)) (by
    show inR _
    unfold inR nm
    split <;> simp)
  generalize storeR s1.S r.fr.p r.fr.a r.fr.n (nm (if x.op = 28 then -2 else -1)) = st at hst ⊢
  by_cases hne : st.1 ≠ 0
  · rw [if_pos hne]
    exact fine_stop _ hst.1 rfl (Nat.le_succ _) (by simp only; omega) hrs (fun h => absurd h hne) hw
  · rw [if_neg hne]
    exact fine_leave _ (by simp only; split <;> decide) hst.1 rfl (Nat.le_succ _) (by simp only; omega) rfl hw

theorem step_inv {c : Cx} {K : Nat} (hc : CxOk c) {n : Int} {s : Se} (h : Inv c K (⟨-1, n⟩, s)) : Inv c K (stepR c s) ∧ mu (stepR c s) < mu (⟨-1, n⟩, s) := by
  obtain ⟨r, rs, hrs, hex, hw⟩ := h.go rfl
  have hto := h.told
  have hma := h.made
  have hfu := h.fuel
  have hme := h.mem
  simp only at hrs hto hma hfu hme
  unfold stepR
  by_cases hf : s.fuel ≤ 0
  · rw [if_pos hf]
    have hmu : mu ((⟨4, 0⟩ : Out), s) < mu ((⟨-1, n⟩ : Out), s) := by simp [mu]
    exact ⟨⟨h.kb, hme, hfu, by simp only; omega, hma, fun h => by simp at h, fun _ h4 => absurd rfl h4⟩, hmu⟩
  rw [if_neg hf]
  simp only [hrs]
  obtain ⟨x, hx⟩ : ∃ x, r.fn[r.nx]? = some x := ⟨_, List.getElem?_eq_getElem hex.2⟩
  have hxx : r.fn.getD r.nx noIn = x := by simp [List.getD_eq_getElem?_getD, hx]
  rw [hxx]
  have hF := exec_fine hc (s1 := { s with fuel := s.fuel - 1, rs := { r with nx := r.nx + 1 } :: rs }) (r := { r with nx := r.nx + 1 }) (rs := rs) (x := x) (k := r.nx) rfl hme ⟨hex.1.1, hex.1.2.len, hex.1.2.rg, hex.1.2.fr⟩ rfl hx hw
  generalize execR c { s with fuel := s.fuel - 1, rs := { r with nx := r.nx + 1 } :: rs } { r with nx := r.nx + 1 } rs x = q at hF ⊢
  have h1 := hF.fuel
  have h2 := hF.told
  have h3 := hF.made
  have h4 := hF.len
  have h5 := hF.len2
  simp only at h1 h2 h3
  have hmu : mu q + 1 < mu ((⟨-1, n⟩ : Out), s) + 1 := by
    unfold mu
    simp only [hrs, h1, List.length_cons]
    by_cases hk : q.1.k = -1
    · rw [if_pos hk]; simp; omega
    · have := h5 hk
      rw [if_neg hk]
      simp
      split <;> omega
  refine ⟨⟨h.kb, hF.mem, by rw [h1]; omega, ?_, ?_, hF.go, hF.wait⟩, by omega⟩
  · omega
  · rw [h1]; omega

theorem settle_inv {c : Cx} {K : Nat} (hc : CxOk c) {o : Out} {s : Se} (h : Inv c K (o, s)) (k1 : o.k ≠ -1) (k4 : o.k ≠ 4) (k5 : o.k ≠ 5) (k6 : o.k ≠ 6) (hne : s.rs ≠ []) : Inv c K (settleR c o s) ∧ mu (settleR c o s) < mu (o, s) := by
  have hwt := h.wait k1 k4 k5 k6
  have hto := h.told
  have hma := h.made
  have hfu := h.fuel
  have hme := h.mem
  simp only at hwt hto hma hfu hme
  have hm0 : mu (o, s) = 4 * s.fuel.toNat + 2 * s.rs.length + 2 := by
    unfold mu
    simp only
    rw [if_neg k1, if_neg (by omega)]
  cases hrs : s.rs with
  | nil => exact absurd hrs hne
  | cons r rs =>
    rw [hrs] at hwt hm0
    obtain ⟨hB, hnx, k, x, hk, hx, h23, h26⟩ := hwt r (by simp)
    have hw : ∀ r' ∈ rs, Wait c.p r' := fun r' hr' => hwt r' (by simp [hr'])
    have hxx : r.fn.getD (r.nx - 1) noIn = x := by rw [hk]; simp [List.getD_eq_getElem?_getD, hx]
    obtain ⟨hi, -, -⟩ := hc.ins hB hx
    simp only [List.length_cons] at hm0
    -- what is on again
    have hon : ∀ (s' : Se) (r' : Ru), MemOk s'.S → s'.fuel = s.fuel → s'.told.length ≤ s.told.length + 1 → s'.S.blocks.length = s.S.blocks.length → s'.rs = r' :: rs → Exec c.p r' → Inv c K (on, s') ∧ mu (on, s') < mu (o, s) := by
      intro s' r' a1 a2 a3 a4 a5 a6
      have hmu : mu (on, s') + 1 = mu (o, s) := by
        rw [hm0]
        unfold mu
        simp [on, a2, a5]
      refine ⟨⟨h.kb, a1, by simp only; omega, ?_, by simp only [a2, a4]; exact hma, fun _ => ⟨r', rs, a5, a6, hw⟩, fun h => absurd rfl h⟩, by omega⟩
      simp only
      omega
    unfold settleR
    simp only [hrs, hxx]
    by_cases c1 : x.op = 26
    · rw [if_pos c1]
      exact hon s r hme rfl (Nat.le_succ _) rfl hrs ⟨hB, hnx⟩
    rw [if_neg c1]
    by_cases c2 : x.op = 25
    · rw [if_pos c2]
      have hfr := free_ok hme (r.get x.a).p (r.get x.a).a (r.get x.a).n
      generalize freeR s.S (r.get x.a).p (r.get x.a).a (r.get x.a).n = st at hfr ⊢
      rcases stopO_k st.1 with ⟨h0, h1⟩ | ⟨h0, h1⟩
      · have hso : stopO st.1 = on := by rw [h0]; rfl
        rw [hso]
        exact hon _ r hfr.1 rfl (Nat.le_succ _) hfr.2 rfl ⟨hB, hnx⟩
      · have hmu : mu (stopO st.1, { s with S := st.2, rs := r :: rs }) + 2 = mu (o, s) := by
          rw [hm0]
          unfold mu
          simp only [List.length_cons]
          rw [if_neg (by omega), if_pos (by omega)]
        refine ⟨⟨h.kb, hfr.1, hfu, ?_, by simp only [hfr.2]; exact hma, fun h => by simp only at h; omega, fun _ _ h5 h6 => by simp only at h5 h6; omega⟩, by omega⟩
        simp only
        omega
    rw [if_neg c2]
    by_cases c3 : o.k = 3
    · rw [if_pos c3]
      refine hon _ { r with nx := In.lab x 0 } hme rfl (Nat.le_succ _) rfl rfl ⟨⟨hB.1, hB.2.len, hB.2.rg, hB.2.fr⟩, lab_lt hi 0 (by omega) ?_⟩
      have hlb := hi.lb
      have : x.op = 23 ∨ x.op = 24 := by omega
      have : x.l.length = 1 := by rcases this with h | h <;> rw [h] at hlb <;> exact lab1 hlb
      omega
    rw [if_neg c3]
    by_cases c4 : x.op = 24
    · rw [if_pos c4]
      have hE : Exec c.p (r.put x.a (nm (if o.k = 2 then 0 else 1))) := ⟨⟨hB.1, hB.2.put _ (by unfold nm inR; split <;> simp)⟩, hnx⟩
      by_cases h0 : o.k = 0
      · simp only [if_pos h0]
        exact hon _ _ hme rfl (by simp [Se.note]) rfl rfl hE
      · simp only [if_neg h0]
        exact hon _ _ hme rfl (Nat.le_succ _) rfl rfl hE
    rw [if_neg c4]
    by_cases c5 : o.k = 2
    · rw [if_pos c5]
      exact hon s r hme rfl (Nat.le_succ _) rfl hrs ⟨hB, hnx⟩
    rw [if_neg c5]
    have hmu : mu (o, { s with rs := rs }) + 2 = mu (o, s) := by
      rw [hm0]
      unfold mu
      simp only
      rw [if_neg k1, if_neg (by omega)]
      omega
    refine ⟨⟨h.kb, hme, hfu, ?_, hma, fun h => absurd h k1, fun _ _ _ _ => hw⟩, by omega⟩
    simp only
    omega

theorem thr_inv {c : Cx} {K : Nat} (hc : CxOk c) (q q' : Out × Se) (h : Inv c K q) (ht : thr1 c q = some q') : Inv c K q' ∧ mu q' < mu q := by
  obtain ⟨⟨k, n⟩, s⟩ := q
  unfold thr1 at ht
  by_cases h1 : k = -1
  · subst h1
    rw [if_pos rfl] at ht
    cases ht
    exact step_inv hc h
  · rw [if_neg h1] at ht
    by_cases h2 : k = 4 ∨ k = 5 ∨ k = 6
    · rw [if_pos h2] at ht; cases ht
    · rw [if_neg h2] at ht
      by_cases h3 : s.rs = []
      · rw [if_pos h3] at ht; cases ht
      · rw [if_neg h3] at ht
        cases ht
        exact settle_inv hc h h1 (fun e => h2 (.inl e)) (fun e => h2 (.inr (.inl e))) (fun e => h2 (.inr (.inr e))) h3
end Go.Proofs.YtgpkhdccchpljaaDoor

namespace Go.Proofs.YtgpkhdccchpljaaDoor
open Go.RowKit
open M (Wd MS RepAt Owned Kept Turned)

/-- the blocks of a machine at rest -/
def MOwn (L : Ly) (S : MS) (b : Nat) : Prop := b = L.mc ∨ Owned L.mb L.lm L.loc S b ∨ L.em = some b ∨ L.tv.ownBlock = some b
/-- a machine at rest; what its program is made of lies in the world w0 -/
structure MacAt (w0 w : World) (L : Ly) (c : Cx) (S : MS) (told : List Ev) : Prop where
  mach : ∃ fv cv, w.heap[L.mc]? = some (.cells #[fv, cv, .pointer (some ⟨L.mb, 0, none⟩), .map L.em, L.tv] 62) ∧ C.PgV w0 fv cv c.p
  mem : RepAt w L.mb L.lm L.loc S
  told : w.ownsRow w0.heap.size 80 4 L.tv told.length (told.flatMap evC)
  below : Under w0 w
  own : ∀ b, MOwn L S b → Free w0 b
  apart : ∀ b, L.em = some b → ¬ Owned L.mb L.lm L.loc S b
  evs : EvAt w L.em c.evs
theorem MOwn.own {L : Ly} {S : MS} {b : Nat} (h : MOwn L S b) : Own L S b := by
  rcases h with e | e | e | e
  · exact .inl e
  · exact .inr (.inr (.inl e))
  · exact .inr (.inr (.inr (.inl e)))
  · exact .inr (.inr (.inr (.inr (.inl e))))
theorem MacAt.keep {w0 w w' : World} {L : Ly} {c : Cx} {S : MS} {told : List Ev} (h : MacAt w0 w L c S told) (hb : Under w0 w') (hk : ∀ b, MOwn L S b → w'.heap[b]? = w.heap[b]?) : MacAt w0 w' L c S told := by
  obtain ⟨fv, cv, h1, h2⟩ := h.mach
  exact ⟨⟨fv, cv, (hk _ (.inl rfl)).trans h1, h2⟩, h.mem.keep fun b hb => hk b (.inr (.inl hb)),
    own_keep h.told fun b hb => hk b (.inr (.inr (.inr hb))), hb, h.own, h.apart, h.evs.1, fun b hb => by
    obtain ⟨D, ⟨es, clock, h5, h6⟩, h7⟩ := h.evs.2 b hb
    exact ⟨D, ⟨es, clock, (hk b (.inr (.inr (.inl hb)))).trans h5, h6⟩, h7⟩⟩
theorem MacAt.lt {w0 w : World} {L : Ly} {c : Cx} {S : MS} {told : List Ev} (h : MacAt w0 w L c S told) (b : Nat) (hb : MOwn L S b) : b < w.heap.size := by
  rcases hb with rfl | hb | hb | hb
  · obtain ⟨_, _, h1, _⟩ := h.mach
    exact (Array.getElem?_eq_some_iff.1 h1).1
  · exact h.mem.lt b hb
  · obtain ⟨D, ⟨es, clock, h5, _⟩, _⟩ := h.evs.2 b hb
    exact (Array.getElem?_eq_some_iff.1 h5).1
  · obtain ⟨_, h1⟩ := own_blk h.told hb
    exact (Array.getElem?_eq_some_iff.1 h1).1
theorem MacAt.under {w0 w w' : World} {L : Ly} {c : Cx} {S : MS} {told : List Ev} (h : MacAt w0 w L c S told) (hb : Below w.heap.size w w') : MacAt w0 w' L c S told :=
  h.keep (h.below.below hb) fun b ho => hb.block b (h.lt b ho)
/-- a session begins -/
theorem MacAt.ses {w0 w w' : World} {L : Ly} {c : Cx} {S : MS} {told : List Ev} (h : MacAt w0 w L c S told) (hb : Below w.heap.size w w') (k : Nat) (hk : w.heap.size ≤ k) (fuel : Int) (hs : w'.heap[k]? = some (.cells #[.pointer (some ⟨L.mc, 0, none⟩), .int .i64 c.task, .int .i64 fuel, .pointer none] 72)) : SesAt w0 w' { L with sk := k, rb := [] } c ⟨S, told, fuel, []⟩ := by
  have h' := h.under hb
  refine ⟨h'.mach, hs, h'.mem, h'.told, trivial, h'.below, ?_, h'.apart, h'.evs⟩
  rintro b (e | e | e | e | e | e)
  · exact h.own b (.inl e)
  · subst e; exact free_of_ge (Nat.le_trans h.below.size hk)
  · exact h.own b (.inr (.inl e))
  · exact h.own b (.inr (.inr (.inl e)))
  · exact h.own b (.inr (.inr (.inr e)))
  · cases e
theorem SesAt.mac {w0 w : World} {L : Ly} {c : Cx} {s : Se} (h : SesAt w0 w L c s) : MacAt w0 w L c s.S s.told :=
  ⟨h.mach, h.mem, h.told, h.below, fun b hb => h.own b hb.own, h.apart, h.evs⟩
/-- what a call does to a machine at rest -/
def MTurns (w0 w w' : World) (L : Ly) (_c : Cx) (S : MS) (c' : Cx) (S' : MS) (told' : List Ev) : Prop :=
  ∃ L', L'.mc = L.mc ∧ MacAt w0 w' L' c' S' told' ∧ (∀ b, MOwn L' S' b → MOwn L S b ∨ w.heap.size ≤ b) ∧ Kept (MOwn L S) w w'
theorem MTurns.same {w0 w w' : World} {L : Ly} {c : Cx} {S : MS} {told : List Ev} (h : MacAt w0 w L c S told) (hb : Below w.heap.size w w') : MTurns w0 w w' L c S c S told :=
  ⟨L, rfl, h.under hb, fun _ hb => .inl hb, Kept.of_below hb⟩
theorem MTurns.below {w0 w w1 w2 : World} {L : Ly} {c c' : Cx} {S S' : MS} {told' : List Ev} (h : MTurns w0 w w1 L c S c' S' told') (hb : Below w1.heap.size w1 w2) : MTurns w0 w w2 L c S c' S' told' := by
  obtain ⟨L1, e1, h1, h2, h3⟩ := h
  exact ⟨L1, e1, h1.under hb, h2, kept_trans h3 (Kept.of_below (O := MOwn L S) hb) fun b hb => .inl hb⟩
theorem MTurns.under {w0 w w1 w2 : World} {L : Ly} {c c' : Cx} {S S' : MS} {told' : List Ev} (hb : Below w.heap.size w w1) (h : MTurns w0 w1 w2 L c S c' S' told') : MTurns w0 w w2 L c S c' S' told' := by
  obtain ⟨L1, e1, h1, h2, h3⟩ := h
  refine ⟨L1, e1, h1, fun b hb' => ?_, kept_trans (Kept.of_below hb) h3 fun b hb => .inl hb⟩
  rcases h2 b hb' with h5 | h5
  · exact .inl h5
  · exact .inr (Nat.le_trans hb.size h5)
/-- a session is over -/
theorem MTurns.ses {w0 w w1 w2 : World} {L : Ly} {c : Cx} {S : MS} {told : List Ev} {k : Nat} (hb : Below w.heap.size w w1) (hk : w.heap.size ≤ k) {fuel : Int} {s' : Se} (h : Turns w0 w1 w2 { L with sk := k, rb := [] } c ⟨S, told, fuel, []⟩ s') : MTurns w0 w w2 L c S c s'.S s'.told := by
  obtain ⟨L1, e1, e2, e3, e4, h1, h2, h3⟩ := h
  refine ⟨L1, e1, h1.mac, fun b hb' => ?_, ⟨h3.os.trans hb.os, h3.tape.trans hb.tape, h3.output.trans hb.output, Nat.le_trans hb.size h3.size, fun b hl hn => (h3.block b (Nat.lt_of_lt_of_le hl hb.size) ?_).trans (hb.block b hl)⟩⟩
  · rcases h2 b hb'.own with h5 | h5
    · rcases h5 with e | e | e | e | e | e
      · exact .inl (.inl e)
      · subst e; exact .inr hk
      · exact .inl (.inr (.inl e))
      · exact .inl (.inr (.inr (.inl e)))
      · exact .inl (.inr (.inr (.inr e)))
      · cases e
    · exact .inr (Nat.le_trans hb.size h5)
  · rintro (e | e | e | e | e | e)
    · exact hn (.inl e)
    · subst e; exact absurd hl (Nat.not_lt.2 hk)
    · exact hn (.inr (.inl e))
    · exact hn (.inr (.inr (.inl e)))
    · exact hn (.inr (.inr (.inr e)))
    · cases e

/-- what goes on from what first came out -/
theorem inv_fine {c : Cx} {S : MS} {told : List Ev} {fuel : Int} {q : Out × Se} (hF : Fine c ⟨S, told, fuel, []⟩ [] q) (hf : fuel ≤ 1000000) (ht : told.length ≤ 80000000) (hm : S.blocks.length + fuel.toNat ≤ 800000) : Inv c (S.blocks.length + 1 + fuel.toNat) q := by
  have h1 := hF.fuel
  have h2 := hF.told
  have h3 := hF.made
  have h4 := hF.len
  simp only at h1 h2 h3 h4
  have hmu : mu q ≤ 4 * fuel.toNat + 6 := by
    unfold mu
    rw [h1]
    simp only [List.length_nil] at h4
    split
    · omega
    · split <;> omega
  exact ⟨by omega, hF.mem, by rw [h1]; exact hf, by omega, by rw [h1]; omega, hF.go, hF.wait⟩
/-- what Poll makes of what a session came out with: its result, the fuel left -/
def pollO (x : Wd) (z : Out × Se) : Out :=
  if z.1.k ≠ 2 then z.1 else if (numR z.2.S x 1).2 ≠ 0 then stopO (numR z.2.S x 1).2 else ⟨2, (numR z.2.S x 1).1⟩

theorem orEmpty_any (b : Nat) (w : World) : Calls Tryd.prog 21 #[.pointer (some ⟨b, 0, none⟩)] w fun e w' => e = .returned (.pointer (some ⟨b, 0, none⟩)) ∧ w' = w := by
  go_enter Tryd.func21, Tryd.ntmps21
  go_wp2
  go_ret
  exact ⟨rfl, rfl⟩
end Go.Proofs.YtgpkhdccchpljaaDoor
