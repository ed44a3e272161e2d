/-
  Graph: addFlags. Conditions: the list is owned, or none; what is added lies in the heap.
-/
import Derived.Test.YtfpdecjlfnambaaGHappen
import Derived.Maps.AppendAt
import Derived.Deep.AppendLies
namespace Go.Proofs.Ytfpdecjlfnambaa
open Go Go.RowKit

theorem new_cells (w : World) (l : List Value) (t : TypeId) : ∀ j u, l[j]? = some u → (w.alloc (.cells l.toArray t)).cell? ((⟨w.heap.size, 0, none⟩ : Addr).add j) = some u := fun j u hu => by
  have h := (Bx.new w t l).cell j
  rw [show (⟨w.heap.size, 0, none⟩ : Addr).add j = ⟨w.heap.size, j, none⟩ by by_cases h0 : j = 0 <;> simp [Addr.add, h0]]
  rw [h, hu]
theorem infoInt : (Try.prog.info? 3).map (fun i => (i.zero, i.size, i.bytes)) = some (some (.int .i64 0), 1, 8) := by kernel_rfl

abbrev iC (l : List Int) : List Value := l.map fun x => Value.int .i64 x
/-- An owned row of ints. -/
abbrev ORow (w : World) (base : Nat) (v : Value) (l : List Int) : Prop := w.ownsRow base 3 1 v l.length (iC l)
theorem ORow.grow {w : World} {base : Nat} {v : Value} {l : List Int} (h : ORow w base v l) : GRow w v l := by
  rcases h.2 with ⟨rfl, h0⟩ | ⟨g, cap, cur, rfl, hb, hg, h1, h2, h3, h4⟩
  · have : l = [] := List.eq_nil_of_length_eq_zero h0
    subst this
    exact ⟨none, 0, rfl, fun h => absurd h (by simp)⟩
  · refine ⟨some ⟨g, 0, none⟩, cap, rfl, fun _ => ⟨g, cur.toList, rfl, by rw [Bx]; simpa using hg, fun j hj => ?_⟩⟩
    have e : (cur.toList.take (l.length * 1))[j]? = (iC l)[j]? := by rw [h4]
    rw [List.getElem?_take_of_lt (by omega)] at e
    rw [e]
    simp [List.getElem?_eq_getElem hj]
theorem own_kep {M : Nat → Prop} {w w' : World} {base e sz n : Nat} {v : Value} {xs : List Value} (h : w.ownsRow base e sz v n xs) (hk : Kep M w w') (hm : ∀ g, v.ownBlock = some g → ¬ M g) : w'.ownsRow base e sz v n xs := by
  refine ⟨h.1, ?_⟩
  rcases h.2 with h1 | ⟨g, cap, cur, rfl, hb, hg, h1, h2, h3, h4⟩
  · exact .inl h1
  · exact .inr ⟨g, cap, cur, rfl, hb, (hk.same g (Array.getElem?_eq_some_iff.1 hg).1 (hm g rfl)).trans hg, h1, h2, h3, h4⟩
theorem own_lt {w : World} {base e sz n : Nat} {v : Value} {xs : List Value} (h : w.ownsRow base e sz v n xs) {g : Nat} (hg : v.ownBlock = some g) : g < w.heap.size ∧ base ≤ g := by
  rcases h.2 with ⟨rfl, _⟩ | ⟨g', cap, cur, rfl, hb, hg', _⟩
  · cases hg
  · simp [Value.ownBlock] at hg
    subst hg
    exact ⟨(Array.getElem?_eq_some_iff.1 hg').1, hb⟩

/-- What is left of a list of flags. -/
def okF (n : Nat) (l : List Int) : List Int := l.filter fun t => isPl t n
theorem okF_take {l : List Int} {k n : Nat} (h : k < l.length) : okF n (l.take (k + 1)) = okF n (l.take k) ++ (if isPl (l[k]?.getD 0) n then [l[k]?.getD 0] else []) := by
  rw [List.take_add_one, List.getElem?_eq_getElem h, okF, List.filter_append]
  congr 1
  by_cases hp : isPl l[k] n = true
  · simp [hp]
  · simp [hp]
theorem okF_len (n : Nat) (l : List Int) : (okF n l).length ≤ l.length := List.length_filter_le _ _

set_option maxRecDepth 100000 in
set_option maxHeartbeats 4000000 in
theorem addFlags_any (n0 base : Nat) (v : Value) (l : List Int) (mv : Value) (ml : List Int) (n : Nat) (w : World) (hv : ORow w base v l) (hm : IRow n0 w mv ml) (hb : n0 ≤ base) (hbw : base ≤ w.heap.size) (hl : l.length + ml.length ≤ 1000000) (hn : n ≤ 1000) :
    Calls Try.prog 58 #[v, mv, .int .i64 (n : Int)] w fun e w' => ∃ v', e = .returned v' ∧ ORow w' base v' (l ++ okF n ml) ∧ Kep (fun k => v.ownBlock = some k) w w' ∧ (v'.ownBlock = v.ownBlock ∨ ∃ g, v'.ownBlock = some g ∧ w.heap.size ≤ g) := by
  obtain ⟨oa, cap, rfl, hm2⟩ := hm
  obtain ⟨m, hmm⟩ : ∃ m, m = ml.length := ⟨_, rfl⟩
  rw [← hmm] at hm2 hl
  rw [← hmm]
  obtain ⟨i3, hi3, hz3, hs3, hb3⟩ := info_parts infoInt
  have HI := Lib.hid (And.intro hi3 (And.intro hz3 (And.intro hs3 hb3)))
  have HA := Lib.hid (And.intro hv (And.intro hm2 (And.intro hb (And.intro hbw hmm))))
  clear hi3 hz3 hs3 hb3 hv hm2 hb hbw hmm
  go_enter Try.func58, Try.ntmps58
  go_wp2
  go_loopw [0, 11] (fun u i wr => ∃ k : Nat, k ≤ m ∧ i = .int .i64 k ∧ ORow wr base u (l ++ okF n (ml.take k)) ∧ Kep (fun k => v.ownBlock = some k) w wr ∧ (u.ownBlock = v.ownBlock ∨ ∃ g, u.ownBlock = some g ∧ w.heap.size ≤ g))
    (fun _ i _ => m - (intOf i).toNat)
  case atStart =>
    obtain ⟨hv, -⟩ := HA.out
    exact ⟨0, Nat.zero_le _, rfl, by simpa [okF] using hv, Kep.refl _ _, .inl rfl⟩
  case round =>
    obtain ⟨k, hk, rfl, hu, hkp, hub⟩ := hrel
    by_cases hlt : k < m
    · obtain ⟨hv, hm2, hb, hbw, hmm⟩ := HA.out
      obtain ⟨b, off, rfl, hbl, hc⟩ := hm2 (by omega)
      have hnb : ¬ (v.ownBlock = some b) := fun h => by
        have := (own_lt hv h).2
        omega
      have hblt : b < w.heap.size := by omega
      have hcx := (World.cell?_of_block (a := ⟨b, off + k, none⟩) (hkp.same b hblt hnb)).trans (hc k hlt)
      obtain ⟨x, hx⟩ : ∃ x, x = ml[k]?.getD 0 := ⟨_, rfl⟩
      rw [← hx] at hcx
      have hbw2 : base ≤ wr.heap.size := Nat.le_trans hbw hkp.size
      have hlenU : (l ++ okF n (ml.take k)).length ≤ 1000000 := by
        have := okF_len n (ml.take k)
        rw [List.length_append]
        simp at this
        omega
      have HB := Lib.hid (And.intro hu (And.intro hkp (And.intro hub (And.intro hx (And.intro hmm (And.intro hlenU hbw2))))))
      clear hv hm2 hb hbw hmm hc hu hkp hub hx hlenU hbw2 hnb
      cases hp : isPl x n with
      | true =>
        go_wp2_with (first | (go_at_call 50; refine (isPlace_any _ _ _).mono ?_; rintro e w' ⟨rfl, rfl⟩) | (at_builtin; refine wpList_append_own_at _ rfl (.tmp 18) (.tmp 20) 42 rfl base 3 i3 _ 1 8 Try.underlying42 HI.out.1 HI.out.2.1 HI.out.2.2.1 HI.out.2.2.2 rfl (by decide) _ _ _ rfl (HB.out.1.alloc _) ⟨_, 0, none⟩ 1 1 [.int .i64 x] rfl rfl ?c1 ?c2 ?c3 ?c4 ?c5 ?_))
        case c1 => exact new_cells _ [.int .i64 x] _
        case c2 => intro u hu; simp at hu; subst hu; rfl
        case c3 => have := HB.out.2.2.2.2.2.1; unfold maxLen; omega
        case c4 => have := HB.out.2.2.2.2.2.1; omega
        case c5 => have := HB.out.2.2.2.2.2.2; simp; omega
        intro v' w1 hown hg _ hvb
        have HP := Lib.hid (And.intro hown (And.intro hg hvb))
        clear hown hg hvb
        go_wp2
        go_roundw
        case rel =>
          obtain ⟨hu, hkp, hub, hx, hmm, -, -⟩ := HB.out
          obtain ⟨hown, hg, hvb⟩ := HP.out
          have e : l ++ okF n (ml.take (k + 1)) = (l ++ okF n (ml.take k)) ++ [x] := by
            rw [okF_take (by omega), ← hx, if_pos hp, List.append_assoc]
          refine ⟨k + 1, by omega, by simp, ?_, ?_, ?_⟩
          · rw [e, ORow, List.length_append, List.length_append, iC, List.map_append, List.map_append, List.append_assoc]
            exact hown
          · refine (hkp.alloc _).grown hg fun q hq => ?_
            rcases hub with h | ⟨g, h, h2⟩
            · exact .inr (h ▸ hq)
            · rw [h] at hq
              cases hq
              exact .inl h2
          · rcases hvb with h | h
            · rw [h]
              exact hub
            · exact .inr ⟨_, h, Nat.le_succ_of_le hkp.size⟩
        case measure => simp [intOf]; omega
      | false =>
        go_wp2_with (first | (go_at_call 50; refine (isPlace_any _ _ _).mono ?_; rintro e w' ⟨rfl, rfl⟩))
        go_roundw
        case rel =>
          obtain ⟨hu, hkp, hub, hx, hmm, -, -⟩ := HB.out
          exact ⟨k + 1, by omega, by simp, by rw [okF_take (by omega), ← hx, if_neg (by simp [hp]), List.append_nil]; exact hu, hkp, hub⟩
        case measure => simp [intOf]; omega
    · obtain rfl : k = m := by omega
      go_wp2
      go_ret
      obtain ⟨-, -, -, -, hmm⟩ := HA.out
      rw [hmm, List.take_length] at hu
      exact ⟨_, rfl, hu, hkp, hub⟩

end Go.Proofs.Ytfpdecjlfnambaa
