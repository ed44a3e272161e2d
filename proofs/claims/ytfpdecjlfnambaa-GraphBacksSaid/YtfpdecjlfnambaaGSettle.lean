/-
  Graph: settle, at each of its two looks. Conditions: each look keeps what is handed in (J), at a smaller number.
-/
import Derived.Test.YtfpdecjlfnambaaGQueue
namespace Go.Proofs.Ytfpdecjlfnambaa
open Go Go.RowKit

set_option maxRecDepth 100000 in
set_option maxHeartbeats 4000000 in
theorem settle_reach (n1 : Nat) (p1 p2 : Value) (J : Nat → List Nat → World → Prop) (hJ : ∀ μ Q W W', J μ Q W → Below n1 W W' → J μ Q W') (hQ : ∀ μ Q W, J μ Q W → Q.length ≤ 100000 ∧ n1 ≤ W.heap.size)
    (look : ∀ qb μ x Q W v, QAt n1 W qb v Q → J μ (x :: Q) W → Calls Try.prog 41 #[.int .i64 ((x : Nat) : Int), .func (.func 57) #[.pointer (some ⟨qb, 0, none⟩)] #[], p1, p2] W fun e W' => (∃ u, e = .returned u) ∧ ∃ μ' Q' v', μ' < μ ∧ QAt n1 W' qb v' Q' ∧ J μ' Q' W')
    (v : Value) (l : List Nat) (μ0 : Nat) (w : World) (hv : QRow w v l) (hvn : ∀ b, v.ownBlock = some b → n1 ≤ b) (h0 : J μ0 l w) :
    Calls Try.prog 40 #[v, .func (.func 41) #[] #[p1, p2]] w fun e w' => (∃ u, e = .returned u) ∧ ∃ μ, J μ [] w' := by
  obtain ⟨oa, na, ca, rfl⟩ : ∃ o n c, v = .slice o n c := by
    rcases hv with ⟨rfl, -⟩ | ⟨g, off, cap, cur, rfl, -⟩
    · exact ⟨_, _, _, rfl⟩
    · exact ⟨_, _, _, rfl⟩
  have hn := (hQ _ _ _ h0).2
  have h1 : QAt n1 (w.alloc (.cells #[.slice oa na ca] 109)) w.heap.size (.slice oa na ca) l := by
    refine ⟨Bx.new w _ [.slice oa na ca], ?_, hn, hvn⟩
    rcases hv with h | ⟨g, off, cap, cur, e, h, h3⟩
    · exact .inl h
    · exact .inr ⟨g, off, cap, cur, e, h.alloc _, h3⟩
  have h2 := hJ _ _ _ _ h0 ((Below.refl n1 w).alloc hn (.cells #[.slice oa na ca] 109))
  have HA := Lib.hid (And.intro h1 h2)
  have HJ := Lib.hid (And.intro hJ (And.intro hQ look))
  clear h1 h2 hJ hQ look hv hvn h0 hn
  go_enter Try.func40, Try.ntmps40
  go_wp2
  obtain ⟨qb, hqb⟩ : ∃ qb, qb = w.heap.size := ⟨_, rfl⟩
  rw [← hqb]
  have HB := Lib.hid hqb
  clear hqb
  go_loopg [10] μ0 (fun k _ wr => ∃ Q v, QAt n1 wr qb v Q ∧ J k Q wr)
  case atStart => exact ⟨l, _, by rw [HB.out]; exact HA.out.1, HA.out.2⟩
  case round =>
    obtain ⟨Q, v, hq, hj⟩ := hrel
    have hx := hq.box.cell 0
    simp at hx
    cases Q with
    | nil =>
      have he : ∃ o c, v = .slice o 0 c := by
        rcases hq.row with ⟨rfl, -⟩ | ⟨g, off, cap, cur, rfl, -⟩
        · exact ⟨_, _, rfl⟩
        · exact ⟨_, _, rfl⟩
      obtain ⟨o, c, rfl⟩ := he
      have HC := Lib.hid hj
      clear hq hj
      go_wp2
      go_end0
      exact ⟨⟨_, rfl⟩, _, HC.out⟩
    | cons x Q =>
      have he : ∃ o c, v = .slice o (Q.length + 1) c := by
        rcases hq.row with ⟨-, h⟩ | ⟨g, off, cap, cur, rfl, -⟩
        · cases h
        · exact ⟨_, _, rfl⟩
      obtain ⟨o, c, rfl⟩ := he
      obtain ⟨hJ, hQ, look⟩ := HJ.out
      have hs := hQ _ _ _ hj
      have HT := Lib.hid (take_any n1 qb x _ Q (by have := hs.1; simp at this; omega) wr hs.2 hq)
      have HC := Lib.hid hj
      obtain ⟨m, hm⟩ : ∃ m, m = Q.length := ⟨_, rfl⟩
      rw [← hm] at hx
      have hm1 : m + 1 ≤ 100000 := by have := hs.1; simp at this; omega
      clear hq hj hJ hQ look hs hm
      go_wp2_with (first | (go_at_call 56; refine HT.out.mono ?_; clear HT; rintro e w2 ⟨rfl, hb2, v2, hq2⟩; have HD := Lib.hid (And.intro hb2 hq2); clear hb2 hq2 hx) | (go_at_call 41; refine (HJ.out.2.2 qb _ x Q _ _ HD.out.2 (HJ.out.1 _ _ _ _ HC.out HD.out.1)).mono ?_; rintro e w3 ⟨⟨u, rfl⟩, μ', Q', v', hlt, hq3, hj3⟩; have HE := Lib.hid (And.intro hlt (And.intro hq3 hj3)); clear hlt hq3 hj3))
      go_roundg μ'
      case measure => exact HE.out.1
      case rel => exact ⟨Q', v', HE.out.2.1, HE.out.2.2⟩

set_option maxRecDepth 100000 in
set_option maxHeartbeats 4000000 in
theorem settle_spread (n1 : Nat) (p1 p2 p3 p4 : Value) (J : Nat → List Nat → World → Prop) (hJ : ∀ μ Q W W', J μ Q W → Below n1 W W' → J μ Q W') (hQ : ∀ μ Q W, J μ Q W → Q.length ≤ 100000 ∧ n1 ≤ W.heap.size)
    (look : ∀ qb μ x Q W v, QAt n1 W qb v Q → J μ (x :: Q) W → Calls Try.prog 48 #[.int .i64 ((x : Nat) : Int), .func (.func 57) #[.pointer (some ⟨qb, 0, none⟩)] #[], p1, p2, p3, p4] W fun e W' => (∃ u, e = .returned u) ∧ ∃ μ' Q' v', μ' < μ ∧ QAt n1 W' qb v' Q' ∧ J μ' Q' W')
    (v : Value) (l : List Nat) (μ0 : Nat) (w : World) (hv : QRow w v l) (hvn : ∀ b, v.ownBlock = some b → n1 ≤ b) (h0 : J μ0 l w) :
    Calls Try.prog 40 #[v, .func (.func 48) #[] #[p1, p2, p3, p4]] w fun e w' => (∃ u, e = .returned u) ∧ ∃ μ, J μ [] w' := by
  obtain ⟨oa, na, ca, rfl⟩ : ∃ o n c, v = .slice o n c := by
    rcases hv with ⟨rfl, -⟩ | ⟨g, off, cap, cur, rfl, -⟩
    · exact ⟨_, _, _, rfl⟩
    · exact ⟨_, _, _, rfl⟩
  have hn := (hQ _ _ _ h0).2
  have h1 : QAt n1 (w.alloc (.cells #[.slice oa na ca] 109)) w.heap.size (.slice oa na ca) l := by
    refine ⟨Bx.new w _ [.slice oa na ca], ?_, hn, hvn⟩
    rcases hv with h | ⟨g, off, cap, cur, e, h, h3⟩
    · exact .inl h
    · exact .inr ⟨g, off, cap, cur, e, h.alloc _, h3⟩
  have h2 := hJ _ _ _ _ h0 ((Below.refl n1 w).alloc hn (.cells #[.slice oa na ca] 109))
  have HA := Lib.hid (And.intro h1 h2)
  have HJ := Lib.hid (And.intro hJ (And.intro hQ look))
  clear h1 h2 hJ hQ look hv hvn h0 hn
  go_enter Try.func40, Try.ntmps40
  go_wp2
  obtain ⟨qb, hqb⟩ : ∃ qb, qb = w.heap.size := ⟨_, rfl⟩
  rw [← hqb]
  have HB := Lib.hid hqb
  clear hqb
  go_loopg [10] μ0 (fun k _ wr => ∃ Q v, QAt n1 wr qb v Q ∧ J k Q wr)
  case atStart => exact ⟨l, _, by rw [HB.out]; exact HA.out.1, HA.out.2⟩
  case round =>
    obtain ⟨Q, v, hq, hj⟩ := hrel
    have hx := hq.box.cell 0
    simp at hx
    cases Q with
    | nil =>
      have he : ∃ o c, v = .slice o 0 c := by
        rcases hq.row with ⟨rfl, -⟩ | ⟨g, off, cap, cur, rfl, -⟩
        · exact ⟨_, _, rfl⟩
        · exact ⟨_, _, rfl⟩
      obtain ⟨o, c, rfl⟩ := he
      have HC := Lib.hid hj
      clear hq hj
      go_wp2
      go_end0
      exact ⟨⟨_, rfl⟩, _, HC.out⟩
    | cons x Q =>
      have he : ∃ o c, v = .slice o (Q.length + 1) c := by
        rcases hq.row with ⟨-, h⟩ | ⟨g, off, cap, cur, rfl, -⟩
        · cases h
        · exact ⟨_, _, rfl⟩
      obtain ⟨o, c, rfl⟩ := he
      obtain ⟨hJ, hQ, look⟩ := HJ.out
      have hs := hQ _ _ _ hj
      have HT := Lib.hid (take_any n1 qb x _ Q (by have := hs.1; simp at this; omega) wr hs.2 hq)
      have HC := Lib.hid hj
      obtain ⟨m, hm⟩ : ∃ m, m = Q.length := ⟨_, rfl⟩
      rw [← hm] at hx
      have hm1 : m + 1 ≤ 100000 := by have := hs.1; simp at this; omega
      clear hq hj hJ hQ look hs hm
      go_wp2_with (first | (go_at_call 56; refine HT.out.mono ?_; clear HT; rintro e w2 ⟨rfl, hb2, v2, hq2⟩; have HD := Lib.hid (And.intro hb2 hq2); clear hb2 hq2 hx) | (go_at_call 48; refine (HJ.out.2.2 qb _ x Q _ _ HD.out.2 (HJ.out.1 _ _ _ _ HC.out HD.out.1)).mono ?_; rintro e w3 ⟨⟨u, rfl⟩, μ', Q', v', hlt, hq3, hj3⟩; have HE := Lib.hid (And.intro hlt (And.intro hq3 hj3)); clear hlt hq3 hj3))
      go_roundg μ'
      case measure => exact HE.out.1
      case rel => exact ⟨Q', v', HE.out.2.1, HE.out.2.2⟩

end Go.Proofs.Ytfpdecjlfnambaa
