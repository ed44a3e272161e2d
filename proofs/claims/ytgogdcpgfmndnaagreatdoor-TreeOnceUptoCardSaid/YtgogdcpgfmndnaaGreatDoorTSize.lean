/-
  How long a text is, at the most. Plain lemmas; no conditions.
-/
import Derived.Test.YtgogdcpgfmndnaaGreatDoorTTextA
import Derived.Lib.ItoaLen
namespace Go.Proofs.YtgogdcpgfmndnaaGreatDoor
open Go.RowKit

mutual
def tyS : Ty5 → Nat
  | .mk _ nm _ l => nm.size + tysS l + 4
def tysS : List Ty5 → Nat
  | [] => 0
  | t :: r => tyS t + tysS r
end
def plS (p : Pl5) : Nat := p.nm.size + (p.path.map fun f => f.size + 2).sum + 3
def opS (o : Op5) : Nat := plS o.p + 3
def rvS (v : Rv5) : Nat := (v.ops.map opS).sum + plS v.p + v.nm.size + v.vr.size + 5
mutual
def stS : St5 → Nat
  | .mk _ _ nm ty p rv op _ th _ el _ ar => nm.size + tyS ty + plS p + rvS rv + opS op + stsS th + stsS el + arsS ar + 6
def stsS : List St5 → Nat
  | [] => 0
  | s :: r => stS s + stsS r
def arS : Ar5 → Nat
  | .mk vr bi _ body => vr.size + bi.size + stsS body + 4
def arsS : List Ar5 → Nat
  | [] => 0
  | s :: r => arS s + arsS r
end
def fdS (f : Fd5) : Nat := f.nm.size + tyS f.ty + 2
def suS (s : Su5) : Nat := s.nm.size + (s.fields.map fdS).sum + 5
def enS (s : En5) : Nat := s.nm.size + (s.vars.map fdS).sum + 4
def fnS (s : Fn5) : Nat := s.nm.size + (s.params.map fdS).sum + stsS s.body + 5
def soS (s : So5) : Nat := (s.structs.map suS).sum + (s.enums.map enS).sum + (s.fns.map fnS).sum + 4
theorem tysS_eq : ∀ l, tysS l = (l.map tyS).sum
  | [] => rfl
  | t :: r => by rw [tysS, tysS_eq r]; rfl
theorem stsS_eq : ∀ l, stsS l = (l.map stS).sum
  | [] => by rw [stsS]; rfl
  | t :: r => by rw [stsS, stsS_eq r]; rfl
theorem arsS_eq : ∀ l, arsS l = (l.map arS).sum
  | [] => by rw [arsS]; rfl
  | t :: r => by rw [arsS, arsS_eq r]; rfl

theorem flatMap_le {α : Type} (c : Nat) (T : α → List UInt8) (S : α → Nat) : ∀ (l : List α), (∀ x, x ∈ l → (T x).length ≤ c * S x) → (l.flatMap T).length ≤ c * (l.map S).sum
  | [], _ => by simp
  | x :: r, h => by
    have h1 := h x (by simp)
    have h2 := flatMap_le c T S r fun y hy => h y (by simp [hy])
    simp only [List.flatMap_cons, List.length_append, List.map_cons, List.sum_cons, Nat.mul_add]
    omega
theorem listT_le {α : Type} (c : Nat) (T : α → List UInt8) (S : α → Nat) (l : List α) (h : ∀ x, x ∈ l → (T x).length + 2 ≤ c * S x) : (listT T l).length ≤ c * (l.map S).sum := by
  cases l with
  | nil => simp [listT]
  | cons x r =>
    have h1 := h x (by simp)
    have h2 := flatMap_le c (fun y => [44, 32] ++ T y) S r fun y hy => by
      have := h y (by simp [hy])
      simp only [List.length_append, List.length_cons, List.length_nil]
      omega
    simp only [listT, List.length_append, List.map_cons, List.sum_cons, Nat.mul_add]
    omega
theorem around_le (k : Int) : (bs (aroundS k)).length ≤ 5 := by
  rw [bs_len, aroundS]
  split
  · decide
  · split
    · decide
    · split <;> decide
theorem innT_le (k : Int) (nm : ByteArray) (h : Hd) (l : List Ty5) : (innT (.mk k nm h l)).length ≤ nm.size + 4 := by
  rw [innT]
  split
  · simp
  · split
    · rw [bs_len]; omega
    · split
      · rw [List.length_append, bs_len]; simp; omega
      · simp
theorem tyT_le : ∀ t, (tyT t).length ≤ 2 * tyS t
  | .mk k nm h [] => by
    have := innT_le k nm h []
    rw [tyT_len (by simp), tyS]
    omega
  | .mk k nm h [t] => by
    have h1 := innT_le k nm h [t]
    have h2 := around_le k
    have h3 := tyT_le t
    rw [tyS, tysS, tysS]
    cases hk : aroundB k with
    | true =>
      rw [tyT_one hk, List.length_append]
      omega
    | false =>
      rw [tyT_no hk]
      omega
  | .mk k nm h (a :: b :: r) => by
    have := innT_le k nm h (a :: b :: r)
    rw [tyT_len (by simp), tyS]
    omega
theorem plT_le (p : Pl5) : (plT p).length ≤ plS p := by
  have h := flatMap_le 1 stepT (fun f => f.size + 2) p.path fun f _ => by
    rw [stepT]
    split <;> simp <;> omega
  rw [plT, plS, List.length_append, bs_len]
  omega
theorem opT_le (o : Op5) (hn : I64 o.n) : (opT o).length + 2 ≤ 25 * opS o := by
  have h1 := plT_le o.p
  have h2 := Lib.itoa_length_le o.n hn.1 hn.2
  rw [opT, opS]
  split <;> omega
theorem sum_mem {α : Type} (S : α → Nat) {l : List α} {x : α} (h : x ∈ l) : S x ≤ (l.map S).sum := by
  induction l with
  | nil => cases h
  | cons y r ih =>
    rw [List.map_cons, List.sum_cons]
    cases List.mem_cons.1 h with
    | inl e => subst e; omega
    | inr e => have := ih e; omega
theorem operandT_le (v : Rv5) (i : Nat) (hO : ∀ o, o ∈ v.ops → I64 o.n) : (operandT v i).length ≤ 25 * (v.ops.map opS).sum + 1 := by
  rw [operandT]
  split
  · rename_i o ho
    have h1 := List.mem_of_getElem? ho
    have h2 := opT_le o (hO o h1)
    have h3 := sum_mem opS h1
    omega
  · simp
theorem argsT_le (v : Rv5) (hO : ∀ o, o ∈ v.ops → I64 o.n) : (argsT v).length ≤ 25 * (v.ops.map opS).sum + 2 := by
  have h := listT_le 25 opT opS v.ops fun o ho => opT_le o (hO o ho)
  rw [argsT, List.length_append, List.length_append]
  simp only [List.length_cons, List.length_nil]
  omega
theorem signT_le (k : Int) : (signT k).length ≤ 4 := by
  rw [signT]
  split
  · decide
  · split
    · decide
    · split
      · decide
      · split <;> decide
theorem variantT_le (v : Rv5) (hO : ∀ o, o ∈ v.ops → I64 o.n) : (variantT v).length ≤ 25 * (v.ops.map opS).sum + v.nm.size + v.vr.size + 4 := by
  have h1 := argsT_le v hO
  rw [variantT]
  simp only [List.length_append, bs_len, List.length_cons, List.length_nil]
  split
  · omega
  · simp; omega
theorem ite_le {c : Prop} [Decidable c] {a b : List UInt8} {N : Nat} (h1 : a.length ≤ N) (h2 : b.length ≤ N) : (if c then a else b).length ≤ N := by split <;> assumption
theorem setT_le (v : Rv5) (hO : ∀ o, o ∈ v.ops → I64 o.n) : (setT v).length ≤ 50 * rvS v := by
  have h0 := operandT_le v 0 hO
  have h1 := operandT_le v 1 hO
  have h2 := argsT_le v hO
  have h3 := variantT_le v hO
  have h4 := plT_le v.p
  have h5 := signT_le v.k
  rw [setT, rvS]
  repeat' apply ite_le
  all_goals (try simp only [List.length_append, List.length_cons, List.length_nil, bs_len])
  all_goals omega
theorem fieldT_le (f : Fd5) : (fieldT f).length + 2 ≤ 3 * fdS f := by
  have := tyT_le f.ty
  rw [fieldT, fdS]
  simp only [List.length_append, List.length_cons, List.length_nil, bs_len]
  omega
theorem vaT_le (f : Fd5) : (vaT f).length + 2 ≤ 3 * fdS f := by
  have := tyT_le f.ty
  rw [vaT, fdS]
  split
  · rw [bs_len]; omega
  · simp only [List.length_append, List.length_cons, List.length_nil, bs_len]
    omega
theorem bracesT_le (T : Fd5 → List UInt8) (h : ∀ f, (T f).length + 2 ≤ 3 * fdS f) (l : List Fd5) : (bracesT T l).length ≤ 3 * (l.map fdS).sum + 5 := by
  have h1 := listT_le 3 T fdS l fun f _ => h f
  rw [bracesT]
  split
  · simp
  · simp only [List.length_append, List.length_cons, List.length_nil]
    omega
theorem structT_le (s : Su5) : (structT s).length ≤ 10 * suS s := by
  have h1 := bracesT_le fieldT fieldT_le s.fields
  rw [structT, suS]
  simp only [lineT, List.length_append, List.flatMap_cons, List.flatMap_nil, List.length_replicate, List.length_cons, List.length_nil, bs_len, strB_size]
  have h2 : (if s.drop then (⟨#[100, 114, 111, 112, 32, 115, 116, 114, 117, 99, 116, 32]⟩ : ByteArray) else ⟨#[115, 116, 114, 117, 99, 116, 32]⟩).size ≤ 12 := by split <;> decide
  omega
theorem enumT_le (s : En5) : (enumT s).length ≤ 10 * enS s := by
  have h1 := bracesT_le vaT vaT_le s.vars
  have h2 : (⟨#[101, 110, 117, 109, 32]⟩ : ByteArray).size = 5 := rfl
  rw [enumT, enS]
  simp only [lineT, List.length_append, List.flatMap_cons, List.flatMap_nil, List.length_replicate, List.length_cons, List.length_nil, bs_len, strB_size]
  omega

theorem own_le {S C O t A : Nat} (hS : S = C + O) (hO : 3 ≤ O) (hA : A ≤ 100 * O) : 3 * t + A + C * (t + S + 100) ≤ S * (t + S + 100) := by
  have h1 : S * (t + S + 100) = C * (t + S + 100) + O * (t + S + 100) := by rw [hS, Nat.add_mul]
  have h2 : O * (t + S + 100) = O * t + O * S + O * 100 := by rw [Nat.mul_add, Nat.mul_add]
  have h3 : 3 * t ≤ O * t := Nat.mul_le_mul_right t hO
  omega
mutual
/-- What of a statement is known of its numbers: they are ints. -/
def stN : St5 → Prop
  | .mk _ _ _ _ _ rv op _ th _ el _ ar => (∀ o, o ∈ rv.ops → I64 o.n) ∧ I64 op.n ∧ stsN th ∧ stsN el ∧ arsN ar
def stsN : List St5 → Prop
  | [] => True
  | s :: r => stN s ∧ stsN r
def arN : Ar5 → Prop
  | .mk _ _ _ body => stsN body
def arsN : List Ar5 → Prop
  | [] => True
  | s :: r => arN s ∧ arsN r
end
theorem line_len (t : Nat) (ps : List ByteArray) : (lineT t ps).length = t + (ps.flatMap bs).length + 1 := by
  simp only [lineT, List.length_append, List.length_replicate, List.length_cons, List.length_nil]
theorem boundT_le (s : ByteArray) : (boundT s).length ≤ s.size + 2 := by
  rw [boundT]
  split
  · simp
  · simp only [List.length_append, List.length_cons, List.length_nil, bs_len]
    omega
theorem mul_up {C t S M : Nat} (h : S ≤ M) : C * (t + S + 100) ≤ C * (t + M + 100) := Nat.mul_le_mul_left C (by omega)
mutual
theorem stT_le : ∀ (s : St5) (t : Nat), stN s → (stT t s).length ≤ stS s * (t + stS s + 100)
  | .mk k pos nm ty p rv op ht th he el ha ar, t, hN => by
    obtain ⟨n1, n2, n3, n4, n5⟩ := hN
    obtain ⟨S, hS⟩ : ∃ S, S = stS (.mk k pos nm ty p rv op ht th he el ha ar) := ⟨_, rfl⟩
    rw [← hS]
    rw [stS] at hS
    have h1 := stsT_le th (t + 1) (S - 1) n3 (by omega)
    have h2 := stsT_le el (t + 1) (S - 1) n4 (by omega)
    have h3 := arsT_le ar (t + 1) (S - 1) n5 (by omega)
    rw [show t + 1 + (S - 1) + 100 = t + S + 100 by omega] at h1 h2 h3
    have g1 := tyT_le ty
    have g2 := setT_le rv n1
    have g3 := plT_le p
    have g4 := opT_le op n2
    have hO : 6 ≤ nm.size + tyS ty + plS p + rvS rv + opS op + 6 := by omega
    have hX := own_le (S := S) (C := stsS th + stsS el + arsS ar) (O := nm.size + tyS ty + plS p + rvS rv + opS op + 6) (t := t) (A := nm.size + 2 * tyS ty + plS p + 50 * rvS rv + 25 * opS op + 30) (by omega) (by omega) (by omega)
    rw [Nat.add_mul, Nat.add_mul] at hX
    rw [stT]
    repeat' split
    all_goals (simp only [List.length_append, line_len, List.flatMap_cons, List.flatMap_nil, List.length_nil, bs_len, strB_size])
    all_goals simp only [ByteArray.size, List.size_toArray, List.length_cons, List.length_nil, Nat.add_zero]
    all_goals (simp only [ByteArray.size] at hX g1 g2 g3 g4 ⊢)
    all_goals omega
theorem stsT_le : ∀ (l : List St5) (t M : Nat), stsN l → stsS l ≤ M → (stsT t l).length ≤ stsS l * (t + M + 100)
  | [], t, M, _, _ => by rw [stsT, stsS]; simp
  | s :: r, t, M, hN, hM => by
    rw [stsS] at hM
    have h1 := stT_le s t hN.1
    have h2 := stsT_le r t M hN.2 (by omega)
    have h3 := mul_up (C := stS s) (t := t) (S := stS s) (M := M) (by omega)
    rw [stsT, stsS, List.length_append, Nat.add_mul]
    omega
theorem arT_le : ∀ (a : Ar5) (t : Nat), arN a → (arT t a).length ≤ arS a * (t + arS a + 100)
  | .mk vr bi h body, t, hN => by
    obtain ⟨S, hS⟩ : ∃ S, S = arS (.mk vr bi h body) := ⟨_, rfl⟩
    rw [← hS]
    rw [arS] at hS
    have h1 := stsT_le body (t + 1) (S - 1) hN (by omega)
    rw [show t + 1 + (S - 1) + 100 = t + S + 100 by omega] at h1
    have g1 := boundT_le bi
    have hX := own_le (S := S) (C := stsS body) (O := vr.size + bi.size + 4) (t := t) (A := vr.size + bi.size + 20) (by omega) (by omega) (by omega)
    rw [arT]
    simp only [List.length_append, line_len, List.flatMap_cons, List.flatMap_nil, List.length_nil, bs_len, strB_size]
    simp only [ByteArray.size, List.size_toArray, List.length_cons, List.length_nil, Nat.add_zero]
    simp only [ByteArray.size] at hX g1 ⊢
    omega
theorem arsT_le : ∀ (l : List Ar5) (t M : Nat), arsN l → arsS l ≤ M → (arsT t l).length ≤ arsS l * (t + M + 100)
  | [], t, M, _, _ => by rw [arsT, arsS]; simp
  | s :: r, t, M, hN, hM => by
    rw [arsS] at hM
    have h1 := arT_le s t hN.1
    have h2 := arsT_le r t M hN.2 (by omega)
    have h3 := mul_up (C := arS s) (t := t) (S := arS s) (M := M) (by omega)
    rw [arsT, arsS, List.length_append, Nat.add_mul]
    omega
end
theorem fnT_le (f : Fn5) (M : Nat) (hN : stsN f.body) (hM : fnS f ≤ M) : (fnT stT parT f).length ≤ fnS f * (M + 110) := by
  rw [fnS] at hM
  have h1 := stsT_le f.body 1 M hN (by omega)
  have h2 := listT_le 3 fieldT fdS f.params fun f _ => fieldT_le f
  rw [stsT_eq] at h1
  rw [fnT, fnS]
  simp only [List.length_append, line_len, List.flatMap_cons, List.flatMap_nil, List.length_nil, bs_len, parT, strB_size]
  have e1 : (⟨#[99, 111, 32]⟩ : ByteArray).size = 3 := rfl
  have e2 : (⟨#[40]⟩ : ByteArray).size = 1 := rfl
  have e3 : (⟨#[41, 32, 123]⟩ : ByteArray).size = 3 := rfl
  have e4 : (⟨#[125]⟩ : ByteArray).size = 1 := rfl
  have e5 : (f.nm.size + (f.params.map fdS).sum + stsS f.body + 5) * (M + 110) = (f.nm.size + (f.params.map fdS).sum + 5) * (M + 110) + stsS f.body * (M + 110) := by rw [← Nat.add_mul]; congr 1; omega
  have e6 : (f.nm.size + (f.params.map fdS).sum + 5) * 110 ≤ (f.nm.size + (f.params.map fdS).sum + 5) * (M + 110) := Nat.mul_le_mul_left _ (by omega)
  have e7 : stsS f.body * (1 + M + 100) ≤ stsS f.body * (M + 110) := Nat.mul_le_mul_left _ (by omega)
  omega
def soN (s : So5) : Prop := ∀ f, f ∈ s.fns → stsN f.body
theorem textT_le (s : So5) (hN : soN s) : (textT s).length ≤ soS s * (soS s + 110) := by
  obtain ⟨M, hM⟩ : ∃ M, M = soS s := ⟨_, rfl⟩
  have h1 := flatMap_le 10 structT suS s.structs fun x _ => structT_le x
  have h2 := flatMap_le 10 enumT enS s.enums fun x _ => enumT_le x
  have h3 := flatMap_le (M + 110) (fnT stT parT) fnS s.fns fun x hx => by
    have := sum_mem fnS hx
    have := fnT_le x M (hN x hx) (by rw [hM, soS]; omega)
    rw [Nat.mul_comm]
    exact this
  rw [textT, List.length_append, List.length_append, ← hM]
  have e : M = (s.structs.map suS).sum + (s.enums.map enS).sum + (s.fns.map fnS).sum + 4 := hM
  have g1 : 10 * (s.structs.map suS).sum ≤ (M + 110) * (s.structs.map suS).sum := Nat.mul_le_mul_right _ (by omega)
  have g2 : 10 * (s.enums.map enS).sum ≤ (M + 110) * (s.enums.map enS).sum := Nat.mul_le_mul_right _ (by omega)
  have g3 : M * (M + 110) = (M + 110) * (s.structs.map suS).sum + (M + 110) * (s.enums.map enS).sum + (M + 110) * (s.fns.map fnS).sum + (M + 110) * 4 := by
    rw [Nat.mul_comm, ← Nat.mul_add, ← Nat.mul_add, ← Nat.mul_add, ← e]
  omega
theorem textT_small (s : So5) (hN : soN s) (h : soS s ≤ 1048576) : (textT s).length ≤ 100000000000000 := by
  have h1 := textT_le s hN
  have h2 : soS s * (soS s + 110) ≤ 1048576 * (1048576 + 110) := Nat.mul_le_mul h (by omega)
  omega
theorem stN_of : ∀ n : Nat, (∀ {w : World} {t : St5}, StH n w t → stN t) ∧ (∀ {w : World} {t : Ar5}, ArH n w t → arN t)
  | 0 => ⟨by intro _ _ h; unfold StH at h; exact h.elim, by intro _ _ h; unfold ArH at h; exact h.elim⟩
  | n + 1 => by
    obtain ⟨i1, i2⟩ := stN_of n
    have r1 : ∀ {w : World} (l : List St5), (∀ x, x ∈ l → StH n w x) → stsN l := by
      intro w l
      induction l with
      | nil => intro _; rw [stsN]; trivial
      | cons x r ih => intro h; rw [stsN]; exact ⟨i1 (h x (by simp)), ih fun y hy => h y (by simp [hy])⟩
    have r2 : ∀ {w : World} (l : List Ar5), (∀ x, x ∈ l → ArH n w x) → arsN l := by
      intro w l
      induction l with
      | nil => intro _; rw [arsN]; trivial
      | cons x r ih => intro h; rw [arsN]; exact ⟨i2 (h x (by simp)), ih fun y hy => h y (by simp [hy])⟩
    constructor
    · intro w t h
      cases t with
      | mk k pos nm ty p rv op ht th he el ha arms =>
        obtain ⟨h1, h2, h3, h4, h5, h6, h7, h8⟩ := h
        rw [stN]
        exact ⟨fun o ho => (h4.2.1.2.2.2 o ho).1, h5.1, r1 _ h6.2.2.2, r1 _ h7.2.2.2, r2 _ h8.2.2.2⟩
    · intro w t h
      cases t with
      | mk vr bind hh body =>
        rw [arN]
        exact r1 _ h.2.2.2
theorem soN_of {n : Nat} {w : World} {s : So5} (h : SoH n w s) : soN s := fun f hf => by
  have hb := (h.2.2.2.2.2 f hf).2.2.2.2
  have : ∀ (l : List St5), (∀ x, x ∈ l → StH n w x) → stsN l := by
    intro l
    induction l with
    | nil => intro _; rw [stsN]; trivial
    | cons x r ih => intro h; rw [stsN]; exact ⟨(stN_of n).1 (h x (by simp)), ih fun y hy => h y (by simp [hy])⟩
  exact this _ hb

end Go.Proofs.YtgogdcpgfmndnaaGreatDoor
