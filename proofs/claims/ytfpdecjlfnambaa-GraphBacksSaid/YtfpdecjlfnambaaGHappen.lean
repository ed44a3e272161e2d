/-
  Graph: what happens at a step. Conditions: the map and the rows lie in the heap; flags are in bounds.
-/
import Derived.Test.YtfpdecjlfnambaaGMap
namespace Go.Proofs.Ytfpdecjlfnambaa
open Go Go.RowKit

/-- The slice value v holds the ints l, in a block from its beginning on. -/
def GRow (w : World) (v : Value) (l : List Int) : Prop := ∃ oa cap, v = .slice oa l.length cap ∧ (0 < l.length → ∃ g cur, oa = some ⟨g, 0, none⟩ ∧ Bx w g 3 cur ∧ ∀ j, j < l.length → cur[j]? = some (.int .i64 (l[j]?.getD 0)))
/-- The flags of l are made so. -/
def setsF (l : List Int) (v : Bool) (st : List Bool) : List Bool := l.foldl (fun s t => s.set t.toNat v) st
theorem setsF_len : ∀ (l : List Int) (v : Bool) (st : List Bool), (setsF l v st).length = st.length
  | [], _, _ => rfl
  | t :: l, v, st => by
    show (setsF l v (st.set t.toNat v)).length = _
    rw [setsF_len l]
    simp
theorem setsF_take {l : List Int} {k : Nat} (h : k < l.length) (v : Bool) (st : List Bool) : setsF (l.take (k + 1)) v st = (setsF (l.take k) v st).set (l[k]?.getD 0).toNat v := by
  rw [List.take_add_one, List.getElem?_eq_getElem h, setsF, List.foldl_append]
  rfl
theorem setsF_get : ∀ (l : List Int) (v : Bool) (st : List Bool) (j : Nat), j < st.length → (setsF l v st)[j]?.getD false = if l.any (fun t => t.toNat == j) then v else st[j]?.getD false
  | [], _, _, _, _ => rfl
  | t :: l, v, st, j, h => by
    show (setsF l v (st.set t.toNat v))[j]?.getD false = _
    rw [setsF_get l v _ j (by simpa using h), List.any_cons]
    by_cases e : t.toNat = j
    · subst e
      simp [h]
    · simp [e]
theorem bC_set (st : List Bool) (j : Nat) (v : Bool) : (bC st).set j (.bool v) = bC (st.set j v) := by simp [bC, List.map_set]
theorem bx_ne {w : World} {g r : Nat} {t t' : TypeId} {l l' : List Value} (h : Bx w g t l) (h' : Bx w r t' l') (hne : t ≠ t') : g ≠ r := fun e => by
  subst e
  rw [Bx, h'] at h
  cases h
  exact hne rfl
theorem GRow.kep {w w' : World} {v : Value} {l : List Int} {r : Nat} {cs : List Value} {t : TypeId} (h : GRow w v l) (hr : Bx w r t cs) (ht : 3 ≠ t) (hk : Kep (fun k => k = r) w w') : GRow w' v l := by
  obtain ⟨oa, cap, h1, h2⟩ := h
  refine ⟨oa, cap, h1, fun hl => ?_⟩
  obtain ⟨g, cur, h3, h4, h5⟩ := h2 hl
  exact ⟨g, cur, h3, h4.kep hk (bx_ne h4 hr ht), h5⟩
theorem GRow.below {w w' : World} {v : Value} {l : List Int} (h : GRow w v l) (hB : Below w.heap.size w w') : GRow w' v l := by
  obtain ⟨oa, cap, h1, h2⟩ := h
  refine ⟨oa, cap, h1, fun hl => ?_⟩
  obtain ⟨g, cur, h3, h4, h5⟩ := h2 hl
  exact ⟨g, cur, h3, h4.below hB h4.lt, h5⟩

def hapF (G K : List Int) (st : List Bool) : List Bool := setsF G true (setsF K false st)

theorem bCx_set (st : List Bool) (ex : List Value) {j : Nat} (h : j < st.length) (v : Bool) : (bC st ++ ex).set j (.bool v) = bC (st.set j v) ++ ex := by
  rw [List.set_append_left _ _ (by simpa using h), bC_set]
set_option maxRecDepth 100000 in
set_option maxHeartbeats 4000000 in
theorem happenX_any (m : Nat) (l : KL) (b s : Int) (gv kv : Value) (G K : List Int) (r n cp : Nat) (ex : List Value) (st : List Bool) (w : World) (hm : MapAt w m l) (hl : lkV l b s = .agg #[gv, kv]) (hG : GRow w gv G) (hK : GRow w kv K)
    (hGb : ∀ t ∈ G, 0 ≤ t ∧ t < n) (hKb : ∀ t ∈ K, 0 ≤ t ∧ t < n) (hn : n ≤ 1000) (hG1 : G.length ≤ 1000000) (hK1 : K.length ≤ 1000000) (hst : st.length = n) (hr : Bx w r 4 (bC st ++ ex)) :
    Calls Try.prog 46 #[.map (some m), keyV b s, .slice (some ⟨r, 0, none⟩) n cp] w fun e w' => (∃ v, e = .returned v) ∧ Kep (fun k => k = r) w w' ∧ Bx w' r 4 (bC (hapF G K st) ++ ex) := by
  obtain ⟨oG, cG, rfl, hG2⟩ := hG
  obtain ⟨oK, cK, rfl, hK2⟩ := hK
  obtain ⟨nG, hnG⟩ : ∃ k, k = G.length := ⟨_, rfl⟩
  obtain ⟨nK, hnK⟩ : ∃ k, k = K.length := ⟨_, rfl⟩
  rw [← hnG] at hl hG2 hG1
  rw [← hnK] at hl hK2 hK1
  have hmA := hm.lt
  have hlook := run_look m l b s (w.alloc (.cells #[.int .i64 b, .int .i64 s] 100)) (hm.of (Below.heap_alloc _ _ _ hmA))
  rw [hl, keyV] at hlook
  have HA := Lib.hid (And.intro hG2 (And.intro hK2 (And.intro hGb (And.intro hKb (And.intro hst (And.intro hr (And.intro hnG hnK)))))))
  clear hG2 hK2 hGb hKb hst hr hnG hnK hl hm hmA
  unfold keyV
  go_enter Try.func46, Try.ntmps46
  go_wp2
  go_loopw [17] (fun i wr => ∃ k : Nat, k ≤ nK ∧ i = .int .i64 k ∧ Kep (fun k => k = r) w wr ∧ Bx wr r 4 (bC (setsF (K.take k) false st) ++ ex) ∧ Bx wr (w.heap.size + 1) 112 [.slice oG nG cG, .slice oK nK cK])
    (fun i _ => nK - (intOf i).toNat)
  case atStart =>
    obtain ⟨hG2, hK2, hGb, hKb, hst, hr, hnG, hnK⟩ := HA.out
    refine ⟨0, Nat.zero_le _, rfl, ?_, ?_, ?_⟩
    · exact (((Kep.refl _ _).alloc _).alloc _)
    · exact (hr.alloc _).alloc _
    · have := Bx.new (w.alloc (.cells #[.int .i64 b, .int .i64 s] 100)) 112 [.slice oG nG cG, .slice oK nK cK]
      rw [World.size_alloc] at this
      exact this
  case round =>
    obtain ⟨k, hk, rfl, hkp, hbr, hbc⟩ := hrel
    by_cases hlt : k < nK
    · obtain ⟨hG2, hK2, hGb, hKb, hst, hr, hnG, hnK⟩ := HA.out
      obtain ⟨g, cur, rfl, hg1, hg2⟩ := hK2 (by omega)
      have hg3 := (hg1.kep hkp (bx_ne hg1 hr (by decide))).cell k
      rw [hg2 k hlt] at hg3
      obtain ⟨x, hx⟩ : ∃ x, x = K[k]?.getD 0 := ⟨_, rfl⟩
      rw [← hx] at hg3
      have hxK : x ∈ K := by
        rw [hx, List.getElem?_eq_getElem (by omega)]
        exact List.getElem_mem _
      obtain ⟨hx0, hxn⟩ := hKb x hxK
      obtain ⟨y, rfl⟩ : ∃ y : Nat, x = (y : Int) := ⟨x.toNat, by omega⟩
      have hyn : y < n := by omega
      have hlenS : (setsF (K.take k) false st).length = n := by rw [setsF_len, hst]
      have hcy := hbr.cell y
      rw [bC_at (by omega)] at hcy
      have hfy := hbr.frozen y
      have HB := Lib.hid (And.intro hkp (And.intro hbr (And.intro hbc (And.intro hx hnK))))
      clear hG2 hK2 hGb hKb hst hr hnG hnK hkp hbr hbc hx hxK hx0 hxn hlenS hg1 hg2
      go_wp2
      go_roundw
      case rel =>
        obtain ⟨hkp, hbr, hbc, hx, hnK⟩ := HB.out
        refine ⟨k + 1, by omega, by simp, hkp.setCell (.inr rfl) _, ?_, hbc.far ?_ _⟩
        · have h1 := hbr.set y (.bool false)
          rw [bCx_set _ _ (by simp only [setsF_len]; have := HA.out.2.2.2.2.1; omega)] at h1
          rw [setsF_take (by omega), ← hx]
          exact h1
        · exact (bx_ne hbr hbc (by decide))
      case measure => simp [intOf]; omega
    · obtain rfl : k = nK := by omega
      have d1 := hbc.cell 0
      simp at d1
      have HB := Lib.hid (And.intro hkp (And.intro hbr hbc))
      clear hkp hbr hbc
      go_wp2
      go_loopw [28] (fun i wq => ∃ k : Nat, k ≤ nG ∧ i = .int .i64 k ∧ Kep (fun k => k = r) w wq ∧ Bx wq r 4 (bC (setsF (G.take k) true (setsF K false st)) ++ ex))
        (fun i _ => nG - (intOf i).toNat)
      case atStart =>
        obtain ⟨hkp, hbr, hbc⟩ := HB.out
        obtain ⟨hG2, hK2, hGb, hKb, hst, hr, hnG, hnK⟩ := HA.out
        rw [hnK, List.take_length] at hbr
        exact ⟨0, Nat.zero_le _, rfl, hkp, hbr⟩
      case round =>
        clear HB
        obtain ⟨k, hk, rfl, hkp, hbr⟩ := hrel
        by_cases hlt : k < nG
        · obtain ⟨hG2, hK2, hGb, hKb, hst, hr, hnG, hnK⟩ := HA.out
          obtain ⟨g, cur, rfl, hg1, hg2⟩ := hG2 (by omega)
          have hg3 := (hg1.kep hkp (bx_ne hg1 hr (by decide))).cell k
          rw [hg2 k hlt] at hg3
          obtain ⟨x, hx⟩ : ∃ x, x = G[k]?.getD 0 := ⟨_, rfl⟩
          rw [← hx] at hg3
          have hxK : x ∈ G := by
            rw [hx, List.getElem?_eq_getElem (by omega)]
            exact List.getElem_mem _
          obtain ⟨hx0, hxn⟩ := hGb x hxK
          obtain ⟨y, rfl⟩ : ∃ y : Nat, x = (y : Int) := ⟨x.toNat, by omega⟩
          have hyn : y < n := by omega
          have hlenS : (setsF (G.take k) true (setsF K false st)).length = n := by rw [setsF_len, setsF_len, hst]
          have hcy := hbr.cell y
          rw [bC_at (by omega)] at hcy
          have hfy := hbr.frozen y
          have HB := Lib.hid (And.intro hkp (And.intro hbr (And.intro hx hnG)))
          clear hG2 hK2 hGb hKb hst hr hnG hnK hkp hbr hx hxK hx0 hxn hlenS hg1 hg2
          go_wp2
          go_roundw
          case rel =>
            obtain ⟨hkp, hbr, hx, hnG⟩ := HB.out
            refine ⟨k + 1, by omega, by simp, hkp.setCell (.inr rfl) _, ?_⟩
            have h1 := hbr.set y (.bool true)
            rw [bCx_set _ _ (by simp only [setsF_len]; have := HA.out.2.2.2.2.1; omega)] at h1
            rw [setsF_take (by omega), ← hx]
            exact h1
          case measure => simp [intOf]; omega
        · obtain rfl : k = nG := by omega
          have HB := Lib.hid (And.intro hkp hbr)
          clear hkp hbr
          go_wp2
          go_end0
          obtain ⟨hkp, hbr⟩ := HB.out
          obtain ⟨hG2, hK2, hGb, hKb, hst, hr, hnG, hnK⟩ := HA.out
          rw [hnG, List.take_length] at hbr
          exact ⟨⟨_, rfl⟩, hkp, hbr⟩

set_option maxRecDepth 100000 in
set_option maxHeartbeats 4000000 in
theorem happen_any (m : Nat) (l : KL) (b s : Int) (gv kv : Value) (G K : List Int) (r n : Nat) (st : List Bool) (w : World) (hm : MapAt w m l) (hl : lkV l b s = .agg #[gv, kv]) (hG : GRow w gv G) (hK : GRow w kv K)
    (hGb : ∀ t ∈ G, 0 ≤ t ∧ t < n) (hKb : ∀ t ∈ K, 0 ≤ t ∧ t < n) (hn : n ≤ 1000) (hG1 : G.length ≤ 1000000) (hK1 : K.length ≤ 1000000) (hst : st.length = n) (hr : Bx w r 4 (bC st)) :
    Calls Try.prog 46 #[.map (some m), keyV b s, .slice (some ⟨r, 0, none⟩) n n] w fun e w' => (∃ v, e = .returned v) ∧ Kep (fun k => k = r) w w' ∧ Bx w' r 4 (bC (hapF G K st)) := by
  have h := happenX_any m l b s gv kv G K r n n [] st w hm hl hG hK hGb hKb hn hG1 hK1 hst (by simpa using hr)
  simpa using h

end Go.Proofs.Ytfpdecjlfnambaa
