/-
  The document's helpers, and the plain part of its Flow. Conditions: as each says.
-/
import Derived.Test.YtfpdecjlfnambaaGAfter
import Derived.Test.YtfpdecjlfnambaaGHas
import Derived.Test.YtfpdecjlfnambaaGLawW
import Derived.Lib.MinMax
import Derived.Test.YtfpdecjlfnambaaGLawP
namespace Go.Proofs.Ytfpdecjlfnambaa
open Go Go.RowKit


theorem own_mono {w : World} {base base' e sz n : Nat} {v : Value} {xs : List Value} (h : w.ownsRow base e sz v n xs) (hb : base' ≤ base) : w.ownsRow base' e sz v n xs :=
  ⟨h.1, h.2.imp id fun ⟨g, cap, cur, h1, h2, h3⟩ => ⟨g, cap, cur, h1, Nat.le_trans hb h2, h3⟩⟩
/-- A row of changes that is made: its headers in a block of its own, what each makes in rows of their own, what each ends in the arguments' rows. -/
def TRow (n0 base : Nat) (w : World) (v : Value) (D : List Chg) (xs : List Value) : Prop :=
  w.ownsRow base 66 4 v D.length xs ∧ ∀ i, i < D.length → xs[i * 4]? = some (.int .i64 (D[i]?.getD default).b) ∧ xs[i * 4 + 1]? = some (.int .i64 (D[i]?.getD default).s) ∧
    (∃ u, xs[i * 4 + 2]? = some u ∧ ORow w base u (D[i]?.getD default).gen) ∧ (∃ u, xs[i * 4 + 3]? = some u ∧ IRow n0 w u (D[i]?.getD default).kill)
theorem ORow.kep {M : Nat → Prop} {w w' : World} {base : Nat} {v : Value} {l : List Int} (h : ORow w base v l) (hk : Kep M w w') (hm : ∀ g, v.ownBlock = some g → ¬ M g) : ORow w' base v l := own_kep h hk hm
theorem TRow.below {n0 base : Nat} {w w' : World} {v : Value} {D : List Chg} {xs : List Value} (h : TRow n0 base w v D xs) (hb : Below w.heap.size w w') (hn : n0 ≤ w.heap.size) : TRow n0 base w' v D xs := by
  obtain ⟨h1, h2⟩ := h
  have hk := Kep.of_below (M := fun _ => False) hb
  refine ⟨own_kep h1 hk (fun _ _ h => h), fun i hi => ?_⟩
  obtain ⟨a1, a2, ⟨u, a3, a4⟩, u', a5, a6⟩ := h2 i hi
  exact ⟨a1, a2, ⟨u, a3, own_kep a4 hk (fun _ _ h => h)⟩, u', a5, a6.below hb hn⟩
theorem TRow.nil (n0 base : Nat) (w : World) : TRow n0 base w (.slice none 0 0) [] [] := ⟨World.ownsRow_nil _ _ _ _, fun i hi => absurd hi (Nat.not_lt_zero _)⟩
theorem TRow.snoc {n0 base : Nat} {w w' : World} {v v' : Value} {D : List Chg} {xs : List Value} {c : Chg} {ug uk : Value} (h : TRow n0 base w v D xs) (hn : n0 ≤ base) (hnw : n0 ≤ w.heap.size) (hk : Kep (fun b => v.ownBlock = some b) w w')
    (hown : w'.ownsRow base 66 4 v' (D.length + 1) (xs ++ [.int .i64 c.b, .int .i64 c.s, ug, uk])) (hg : ORow w base ug c.gen) (hki : IRow n0 w uk c.kill) :
    TRow n0 base w' v' (D ++ [c]) (xs ++ [.int .i64 c.b, .int .i64 c.s, ug, uk]) := by
  obtain ⟨h1, h2⟩ := h
  have hxl : xs.length = D.length * 4 := h1.1
  have hfar : ∀ (u : Value) (l : List Int), ORow w base u l → ORow w' base u l := fun u l hu => own_kep hu hk (fun g hg hv => by
    rcases h1.2 with ⟨rfl, -⟩ | ⟨g', cap, cur, rfl, -, hg', -⟩
    · cases hv
    · simp [Value.ownBlock] at hv
      subst hv
      exact own_ne hu hg' (fun cs fr e => by cases e) hg)
  have hirow : ∀ (u : Value) (l : List Int), IRow n0 w u l → IRow n0 w' u l := fun u l hu => hu.below (hk.to_below (n := n0) hnw fun k hk1 hv => by
    have := (own_lt h1 hv).2
    omega) (Nat.le_refl _)
  refine ⟨by rw [List.length_append]; exact hown, fun i hi => ?_⟩
  rw [List.length_append, List.length_singleton] at hi
  by_cases e : i < D.length
  · obtain ⟨a1, a2, ⟨u, a3, a4⟩, u', a5, a6⟩ := h2 i e
    rw [List.getElem?_append_left e, List.getElem?_append_left (by omega), List.getElem?_append_left (by omega), List.getElem?_append_left (by omega), List.getElem?_append_left (by omega)]
    exact ⟨a1, a2, ⟨u, a3, hfar _ _ a4⟩, u', a5, hirow _ _ a6⟩
  · obtain rfl : i = D.length := by omega
    rw [List.getElem?_append_right (Nat.le_refl _), Nat.sub_self, List.getElem?_append_right (by omega), List.getElem?_append_right (by omega), List.getElem?_append_right (by omega), List.getElem?_append_right (by omega), hxl, Nat.sub_self, show D.length * 4 + 1 - D.length * 4 = 1 by omega, show D.length * 4 + 2 - D.length * 4 = 2 by omega, show D.length * 4 + 3 - D.length * 4 = 3 by omega]
    exact ⟨rfl, rfl, ⟨ug, rfl, hfar _ _ hg⟩, uk, rfl, hirow _ _ hki⟩
theorem ORow.irow {w : World} {base n : Nat} {v : Value} {l : List Int} (h : ORow w base v l) (hn : w.heap.size ≤ n) : IRow n w v l := by
  obtain ⟨ou, cu, rfl, h2⟩ := own_parts h
  refine ⟨ou, cu, rfl, fun hl => ?_⟩
  obtain ⟨gu, ex, rfl, hb⟩ := h2 hl
  refine ⟨gu, 0, rfl, Nat.lt_of_lt_of_le hb.lt hn, fun j hj => ?_⟩
  rw [Nat.zero_add, hb.cell, List.getElem?_append_left (by simpa using hj), List.getElem?_map, List.getElem?_eq_getElem hj]
  rfl
/-- Such a row is one of changes. -/
theorem TRow.crow {n0 base : Nat} {w : World} {v : Value} {D : List Chg} {xs : List Value} (h : TRow n0 base w v D xs) (hn : n0 ≤ w.heap.size) : ∃ oa cap, v = .slice oa D.length cap ∧ CRow w.heap.size w oa D := by
  obtain ⟨h1, h2⟩ := h
  obtain ⟨hxl, h1'⟩ := h1
  rcases h1' with ⟨rfl, h0⟩ | ⟨g, cap, cur, rfl, -, hg, -, -, hcs, hcur⟩
  · exact ⟨none, 0, by rw [h0], fun hl => by omega⟩
  · refine ⟨_, cap, rfl, fun _ => ⟨g, 0, rfl, (Array.getElem?_eq_some_iff.1 hg).1, fun i hi => ?_⟩⟩
    have hb : Bx w g 66 cur.toList := by rw [Bx]; simpa using hg
    have hc : ∀ k, k < D.length * 4 → w.cell? ⟨g, k, none⟩ = xs[k]? := fun k hk => by
      rw [hb.cell, ← hcur, List.getElem?_take_of_lt hk]
    obtain ⟨a1, a2, ⟨u, a3, a4⟩, u', a5, a6⟩ := h2 i hi
    rw [Nat.zero_add, hc _ (by omega), hc _ (by omega), hc _ (by omega), hc _ (by omega)]
    exact ⟨a1, a2, ⟨u, a3, a4.irow (Nat.le_refl _)⟩, u', a5, a6.mono hn⟩
theorem once_snoc {D : List Chg} {c : Chg} (h : OnceC D) (hn : ∀ j, j < D.length → ¬ ((D[j]?.getD default).b = c.b ∧ (D[j]?.getD default).s = c.s)) : OnceC (D ++ [c]) := by
  have key : ∀ d ∈ D, d.b = c.b → d.s = c.s → False := fun d hd h1 h2 => by
    obtain ⟨j, hj, e⟩ := List.mem_iff_getElem.1 hd
    refine hn j hj ?_
    rw [List.getElem?_eq_getElem hj, e]
    exact ⟨h1, h2⟩
  intro a ha b hb h1 h2
  rw [List.mem_append, List.mem_singleton] at ha hb
  rcases ha with ha | rfl <;> rcases hb with hb | rfl
  · exact h a ha b hb h1 h2
  · exact (key a ha h1 h2).elim
  · exact (key b hb h1.symm h2.symm).elim
  · rfl
theorem take_snoc {C : List Chg} {i : Nat} (h : i < C.length) : C.take (i + 1) = C.take i ++ [C[i]?.getD default] := by
  rw [List.take_add_one, List.getElem?_eq_getElem h]
  rfl
/-- What is left of a Kill. -/
def keepF (gen l : List Int) : List Int := l.filter fun x => decide (x ∉ gen)
theorem keepF_take {gen l : List Int} {q : Nat} (h : q < l.length) : keepF gen (l.take (q + 1)) = keepF gen (l.take q) ++ (if l[q]?.getD 0 ∈ gen then [] else [l[q]?.getD 0]) := by
  rw [List.take_add_one, List.getElem?_eq_getElem h, keepF, List.filter_append]
  congr 1
  by_cases hp : l[q] ∈ gen
  · simp [hp]
  · simp [hp]
theorem keepF_len (gen l : List Int) : (keepF gen l).length ≤ l.length := List.length_filter_le _ _
theorem turn_small {C : List Chg} (h : CSmall C) : CSmall (C.map turnC) := by
  refine ⟨by rw [List.length_map]; exact h.1, fun c hc => ?_⟩
  obtain ⟨d, hd, rfl⟩ := List.mem_map.1 hc
  have := h.2 d hd
  exact ⟨Nat.le_trans (List.length_filter_le _ _) this.2, this.1⟩
theorem infoChg : (Try.prog.info? 66).map (fun i => (i.zero, i.size, i.bytes)) = some (some (.agg #[.int .i64 0, .int .i64 0, .slice none 0 0, .slice none 0 0]), 4, 64) := by kernel_rfl


/-- A row of flags, made anew. -/
def NBR (w w' : World) (v : Value) (st : List Bool) : Prop := ∃ r cap ex, v = .slice (some ⟨r, 0, none⟩) st.length cap ∧ w.heap.size ≤ r ∧ Bx w' r 4 (bC st ++ ex)
theorem NBR.brow {w w' : World} {v : Value} {st : List Bool} (h : NBR w w' v st) : BRow w' v st := by
  obtain ⟨r, cap, ex, h1, -, h3⟩ := h
  exact ⟨r, cap, ex, h1, h3⟩
theorem BRow.below {w w' : World} {v : Value} {st : List Bool} (h : BRow w v st) (hb : Below w.heap.size w w') : BRow w' v st := by
  obtain ⟨r, cap, ex, h1, h3⟩ := h
  exact ⟨r, cap, ex, h1, h3.below hb h3.lt⟩
theorem setsF_app (a b : List Int) (v : Bool) (st : List Bool) : setsF (a ++ b) v st = setsF b v (setsF a v st) := by simp [setsF]

set_option maxRecDepth 100000 in
set_option maxHeartbeats 4000000 in
theorem flags_any (ni : Int) (v : Bool) (n : Nat) (w : World) (hn : n = ni.toNat) (h1 : n ≤ 1000) :
    Calls Try.prog 33 #[.int .i64 ni, .bool v] w fun e w' => ∃ r, e = .returned (.slice (some ⟨r, 0, none⟩) n n) ∧ w.heap.size ≤ r ∧ Bx w' r 4 (bC (List.replicate n v)) ∧ Below w.heap.size w w' := by
  have hmx : max ni 0 = (n : Int) := by omega
  have hmk := make_bools n h1 w
  clear hn
  go_enter Try.func33, Try.ntmps33
  go_upto_region 2 with fail
  clear hmk hmx
  obtain ⟨w3, hw3⟩ : ∃ w3, w3 = w.alloc (.cells (Array.replicate n (.bool false)) 4) := ⟨_, rfl⟩
  obtain ⟨nb, hnb⟩ : ∃ nb, nb = w.heap.size := ⟨_, rfl⟩
  rw [← hw3, ← hnb]
  have HN : Go.RowKit.Hid (Bx w3 nb 4 (bC (List.replicate n false)) ∧ Below w.heap.size w w3 ∧ w.heap.size ≤ nb) := Lib.hid (by
    rw [hw3, hnb]
    have h9 := Bx.new w 4 (bC (List.replicate n false))
    simp only [bC, List.map_replicate, List.toArray_replicate] at h9
    exact ⟨by simpa [bC] using h9, (Below.refl _ _).alloc (Nat.le_refl _) _, Nat.le_refl _⟩)
  clear hw3 hnb
  go_wp2
  go_loopw [6] (fun ui wr => ∃ (i : Nat) (cur : List Bool), i ≤ n ∧ ui = .int .i64 i ∧ cur.length = n ∧ (∀ j, j < i → cur[j]? = some v) ∧ Bx wr nb 4 (bC cur) ∧ Below w.heap.size w wr) (fun ui _ => n - (intOf ui).toNat)
  case atStart => exact ⟨0, List.replicate n false, Nat.zero_le _, rfl, by simp, fun j hj => absurd hj (Nat.not_lt_zero _), HN.out.1, HN.out.2.1⟩
  case round =>
    obtain ⟨i, cur, hi, rfl, hcl, hcj, hbx, hbr⟩ := hrel
    have HC := Lib.hid (And.intro hcl (And.intro hcj (And.intro hbx hbr)))
    by_cases hin : i < n
    · have hcy := hbx.cell i
      rw [bC_get (by omega)] at hcy
      have hfy := hbx.frozen i
      clear hcl hcj hbx hbr
      go_wp2
      go_roundw
      case rel =>
        obtain ⟨hcl, hcj, hbx, hbr⟩ := HC.out
        have h1 := hbx.set i (.bool v)
        rw [bC_set] at h1
        refine ⟨i + 1, cur.set i v, by omega, nxt _, by simp [hcl], fun j hj => ?_, h1, hbr.setCell (p := ⟨nb, i, none⟩) HN.out.2.2 _⟩
        by_cases e : i = j
        · subst e
          rw [List.getElem?_set_self (by omega)]
        · rw [List.getElem?_set_ne e]
          exact hcj j (by omega)
      case measure => exact meas hin
    · obtain rfl : n = i := (last hi hin).symm
      clear hcl hcj hbx hbr
      go_wp2
      go_ret
      obtain ⟨hcl, hcj, hbx, hbr⟩ := HC.out
      have e : cur = List.replicate n v := List.ext_getElem? fun j => by
        by_cases hj : j < n
        · rw [hcj j hj, List.getElem?_replicate, if_pos hj]
        · rw [List.getElem?_eq_none (by omega), List.getElem?_eq_none (by simp; omega)]
      rw [e] at hbx
      exact ⟨nb, rfl, HN.out.2.2, hbx, hbr⟩

set_option maxRecDepth 100000 in
set_option maxHeartbeats 4000000 in
theorem copied_any (v : Value) (st : List Bool) (w : World) (hv : BRow w v st) (hn : st.length ≤ 1000) :
    Calls Try.prog 34 #[v] w fun e w' => ∃ v', e = .returned v' ∧ NBR w w' v' st ∧ Below w.heap.size w w' := by
  obtain ⟨r, cap, ex, rfl, hb⟩ := hv
  obtain ⟨n, hnn⟩ : ∃ n, n = st.length := ⟨_, rfl⟩
  rw [← hnn] at hn ⊢
  obtain ⟨i3, hi3, hz3, hs3, hb3⟩ := info_parts infoBool
  have HI3 := Lib.hid (And.intro hi3 (And.intro hz3 (And.intro hs3 hb3)))
  have HB := Lib.hid (And.intro hb hnn)
  clear hi3 hz3 hs3 hb3 hb hnn
  go_enter Try.func34, Try.ntmps34
  go_wp2_with (at_builtin; refine wpList_append_own_at _ rfl (.tmp 3) (.tmp 4) 26 rfl w.heap.size 4 i3 _ 1 1 Try.underlying26 HI3.out.1 HI3.out.2.1 HI3.out.2.2.1 HI3.out.2.2.2 rfl (by decide) (.slice (some ⟨w.heap.size, 0, none⟩) 0 0) 0 [] rfl ?c0 ⟨r, 0, none⟩ n cap (bC st) rfl ?c00 ?c1 ?c2 ?c3 ?c4 ?c5 ?_)
  case c0 => exact ⟨rfl, .inr ⟨w.heap.size, 0, #[], rfl, Nat.le_refl _, World.alloc_heap_new w _, Nat.le_refl _, Nat.zero_le _, rfl, rfl⟩⟩
  case c00 => rw [HB.out.2]; simp
  case c1 =>
    intro j u hu
    have hj : j < st.length := by
      have := (List.getElem?_eq_some_iff.1 hu).1
      simpa using this
    have h5 := (HB.out.1.alloc (.cells #[] 4)).cell j
    rw [List.getElem?_append_left (by simpa using hj), hu] at h5
    rw [← h5]
    by_cases h0 : j = 0 <;> simp [Addr.add, h0]
  case c2 => intro u hu; simp [bC] at hu; rcases hu with ⟨-, rfl⟩ | ⟨-, rfl⟩ <;> rfl
  case c3 => unfold maxLen; omega
  case c4 => omega
  case c5 => simp
  intro v' w1 hown hg hnil hat
  have HO := Lib.hid (And.intro hown (And.intro hg hnil))
  clear hown hg hnil hat
  go_wp2
  go_ret
  obtain ⟨hown, hg, hnil⟩ := HO.out
  have hnn := HB.out.2
  have hne : v' ≠ .slice none 0 0 := hnil
  obtain ⟨g, capA, exA, rfl, h1, h2, -⟩ := own_bx hown hne
  refine ⟨.slice (some ⟨g, 0, none⟩) n capA, rfl, ⟨g, capA, exA, by rw [hnn], h1, h2⟩, ((Below.refl _ _).alloc (Nat.le_refl _) _).grown hg (by simp) (fun q hq => ?_)⟩
  simp [Value.ownBlock] at hq
  omega

set_option maxRecDepth 100000 in
set_option maxHeartbeats 4000000 in
theorem rput_any (n0 r n cap : Nat) (st : List Bool) (ex : List Value) (vI : Value) (l : List Int) (v : Bool) (w : World) (hb : Bx w r 4 (bC st ++ ex)) (hst : st.length = n) (hn : n ≤ 1000) (hI : IRow n0 w vI l) (hn0 : n0 ≤ r) (hl : l.length ≤ 1000) :
    Calls Try.prog 53 #[.slice (some ⟨r, 0, none⟩) n cap, vI, .bool v] w fun e w' => (∃ u, e = .returned u) ∧ Kep (fun b => b = r) w w' ∧ Bx w' r 4 (bC (setsF (okF n l) v st) ++ ex) := by
  obtain ⟨oI, cI, rfl, hIc⟩ := hI
  obtain ⟨m, hm⟩ : ∃ m, m = l.length := ⟨_, rfl⟩
  rw [← hm] at hl hIc ⊢
  have HA := Lib.hid (And.intro hb (And.intro hst (And.intro hIc (And.intro hm hn0))))
  clear hb hst hIc hm hn0
  go_enter Try.func53, Try.ntmps53
  go_wp2
  go_loopw [6] (fun u wq => ∃ q : Nat, q ≤ m ∧ u = .int .i64 q ∧ Kep (fun b => b = r) w wq ∧ Bx wq r 4 (bC (setsF (okF n (l.take q)) v st) ++ ex)) (fun u _ => m - (intOf u).toNat)
  case atStart => exact ⟨0, Nat.zero_le _, rfl, Kep.refl _ _, by rw [List.take_zero]; exact HA.out.1⟩
  case round =>
    obtain ⟨q, hq, rfl, hk, hbr⟩ := hrel
    by_cases hlq : q < m
    · obtain ⟨hb, hst, hIc, hm, hn0⟩ := HA.out
      obtain ⟨bg, fg, rfl, hbg, hcc⟩ := hIc (by omega)
      have hrl := hb.lt
      have c9 : wr.cell? ⟨bg, fg + q, none⟩ = some (.int .i64 (l[q]?.getD 0)) := (World.cell?_of_block (a := ⟨bg, fg + q, none⟩) (hk.same bg (by omega) (by omega))).trans (hcc q hlq)
      obtain ⟨x, hx⟩ : ∃ x, x = l[q]?.getD 0 := ⟨_, rfl⟩
      rw [← hx] at c9
      have hokt := okF_take (n := n) (l := l) (k := q) (by omega)
      rw [← hx] at hokt
      have HQ := Lib.hid (And.intro hk (And.intro hbr (And.intro hokt hst)))
      have hsl : (setsF (okF n (l.take q)) v st).length = n := by rw [setsF_len, hst]
      clear hb hst hIc hm hn0 hcc hx hokt hk hrl hbg
      by_cases x0 : 0 ≤ x
      · obtain ⟨y, rfl⟩ : ∃ y : Nat, x = (y : Int) := ⟨x.toNat, by omega⟩
        by_cases xn : y < n
        · have hcy := hbr.cell y
          rw [bC_at (by omega)] at hcy
          have hfy := hbr.frozen y
          clear hbr hsl
          go_wp2
          go_roundw
          case rel =>
            obtain ⟨hk, hbr, hokt, hst⟩ := HQ.out
            rw [if_pos (by simp [isPl]; omega)] at hokt
            refine ⟨q + 1, hlq, nxt _, hk.setCell (p := ⟨r, y, none⟩) (.inr rfl) _, ?_⟩
            have h1 := hbr.set y (.bool v)
            rw [bCx_set _ _ (by rw [setsF_len, hst]; exact xn)] at h1
            rw [hokt, setsF_snoc]
            exact h1
          case measure => exact meas hlq
        · clear hbr hsl
          go_wp2
          go_roundw
          case rel =>
            obtain ⟨hk, hbr, hokt, -⟩ := HQ.out
            rw [if_neg (by simp [isPl]; omega), List.append_nil] at hokt
            exact ⟨q + 1, hlq, nxt _, hk, by rw [hokt]; exact hbr⟩
          case measure => exact meas hlq
      · clear hbr hsl
        go_wp2
        go_roundw
        case rel =>
          obtain ⟨hk, hbr, hokt, -⟩ := HQ.out
          rw [if_neg (by simp [isPl]; omega), List.append_nil] at hokt
          exact ⟨q + 1, hlq, nxt _, hk, by rw [hokt]; exact hbr⟩
        case measure => exact meas hlq
    · obtain rfl : m = q := (last hq hlq).symm
      have HQ := Lib.hid (And.intro hk hbr)
      clear hk hbr
      go_wp2
      go_end0
      obtain ⟨hk, hbr⟩ := HQ.out
      rw [HA.out.2.2.2.1, List.take_length] at hbr
      exact ⟨⟨_, rfl⟩, hk, hbr⟩


set_option maxRecDepth 100000 in
set_option maxHeartbeats 8000000 in
theorem rstep_any (n0 : Nat) (oc : Option Addr) (capC : Nat) (C : List Chg) (bk at_ : Int) (v : Value) (n : Nat) (st : List Bool) (w : World) (hC : CRow n0 w oc C) (hcl : ∀ c ∈ C, c.gen.length ≤ 1000 ∧ c.kill.length ≤ 1000) (hC1 : C.length ≤ 1000) (hn0 : n0 ≤ w.heap.size) (hn : n ≤ 1000) (hst : st.length = n) (hv : BRow w v st) :
    Calls Try.prog 35 #[v, .slice oc C.length capC, .int .i64 bk, .int .i64 at_] w fun e w' => ∃ v', e = .returned v' ∧ NBR w w' v' (aftF C bk at_ n st) ∧ Below w.heap.size w w' := by
  obtain ⟨kC, hnC⟩ : ∃ k, k = C.length := ⟨_, rfl⟩
  rw [← hnC] at hC1 ⊢
  have HA := Lib.hid (And.intro hC (And.intro hnC (And.intro hcl hn0)))
  have HCP := Lib.hid (copied_any v st w hv (by omega))
  obtain ⟨r0, cap0, ex0, rfl, -⟩ := hv
  rw [hst] at HCP ⊢
  clear hC hnC hcl hn0
  go_enter Try.func35, Try.ntmps35
  go_wp2_with (go_at_call 34; refine HCP.out.mono ?_; clear HCP; rintro e w1 ⟨v1, rfl, hnb, hb1⟩)
  obtain ⟨r, cap, ex, rfl, hr, hbx⟩ := hnb
  rw [hst]
  have HO := Lib.hid (And.intro hbx hb1)
  have HR := Lib.hid (And.intro hr hst)
  clear hbx hb1 hr hst
  go_wp2
  go_loopw [10] (fun u wr => ∃ i : Nat, i ≤ kC ∧ u = .int .i64 i ∧ Bx wr r 4 (bC (setsF (klF (C.take i) bk at_ n false) false (st)) ++ ex) ∧ Below w.heap.size w wr) (fun u _ => kC - (intOf u).toNat)
  case atStart => exact ⟨0, Nat.zero_le _, rfl, by rw [List.take_zero]; exact HO.out.1, HO.out.2⟩
  case round =>
    obtain ⟨i, hi, rfl, hbx, hbw⟩ := hrel
    by_cases hli : i < kC
    · as_aux_lemma =>
        obtain ⟨hC, hnC, hcl, hn0⟩ := HA.out
        obtain ⟨bl, off, rfl, hbl, hrow⟩ := hC.below hbw hn0 (by omega)
        obtain ⟨a1, a2, ⟨v3, a3, hg⟩, v4, a4, hk⟩ := hrow i (by omega)
        obtain ⟨cb, hcb⟩ : ∃ x, x = (C[i]?.getD default).b := ⟨_, rfl⟩
        obtain ⟨cs, hcs⟩ : ∃ x, x = (C[i]?.getD default).s := ⟨_, rfl⟩
        obtain ⟨l, hl⟩ : ∃ x, x = (C[i]?.getD default).kill := ⟨_, rfl⟩
        rw [← hcb] at a1
        rw [← hcs] at a2
        have hm1 : l.length ≤ 1000 := by
          have hin : (C[i]?.getD default) ∈ C := by
            rw [List.getElem?_eq_getElem (show i < C.length by omega)]
            exact List.getElem_mem _
          have := hcl _ hin
          rw [hl]
          exact this.2
        rw [← hl] at hk
        have hktk : klF (C.take (i + 1)) bk at_ n false = klF (C.take i) bk at_ n false ++ (if cb = bk ∧ cs = at_ then okF n l else []) := by
          rw [klF_take (show i < C.length by omega), ← hcb, ← hcs, hl]
          rfl
        have hrn := HR.out
        have hsl : (setsF (klF (C.take i) bk at_ n false) false (st)).length = n := by rw [setsF_len]; exact hrn.2
        have HP := Lib.hid (rput_any n0 r n cap _ ex _ l false wr hbx hsl hn hk (Nat.le_trans hn0 hrn.1) hm1)
        have HI := Lib.hid (And.intro hbx (And.intro hbw hktk))
        clear hC hnC hcl hn0 hrow hbl hcb hcs hl hm1 hktk hbx hbw hrn hsl
        by_cases e1 : cb = bk
        · by_cases e2 : cs = at_
          · subst e1 e2
            clear hg hk
            go_wp2_with (go_at_call 53; refine HP.out.mono ?_; rintro e w2 ⟨⟨u, rfl⟩, hk2, hb2⟩)
            have HQ := Lib.hid (And.intro hk2 hb2)
            clear hk2 hb2
            try go_wp2
            go_roundw
            case rel =>
              refine ⟨i + 1, hli, nxt _, ?_, HI.out.2.1.trans (HQ.out.1.to_below HI.out.2.1.size (fun k hk e => by have := HR.out.1; omega))⟩
              rw [HI.out.2.2, if_pos (by simp), setsF_app]
              exact HQ.out.2
            case measure => exact meas hli
          · clear hg hk
            have e2' : (cs == at_) = false := by simpa using e2
            go_wp2
            go_roundw
            case rel => exact ⟨i + 1, hli, nxt _, by rw [HI.out.2.2, if_neg (fun h => absurd h.2 e2), List.append_nil]; exact HI.out.1, HI.out.2.1⟩
            case measure => exact meas hli
        · clear hg hk
          have e1' : (cb == bk) = false := by simpa using e1
          go_wp2
          go_roundw
          case rel => exact ⟨i + 1, hli, nxt _, by rw [HI.out.2.2, if_neg (fun h => absurd h.1 e1), List.append_nil]; exact HI.out.1, HI.out.2.1⟩
          case measure => exact meas hli
    · as_aux_lemma =>
        obtain rfl : kC = i := (last hi hli).symm
        have HI := Lib.hid (And.intro hbx hbw)
        clear hbx hbw
        go_wp2
        have HO := Lib.hid (show Bx wr r 4 (bC (setsF (klF C bk at_ n false) false st) ++ ex) ∧ Below w.heap.size w wr from by
          obtain ⟨hbx, hbw⟩ := HI.out
          rw [HA.out.2.1, List.take_length] at hbx
          exact ⟨hbx, hbw⟩)
        clear HI
        go_loopw [11] (fun u wr => ∃ i : Nat, i ≤ kC ∧ u = .int .i64 i ∧ Bx wr r 4 (bC (setsF (klF (C.take i) bk at_ n true) true (setsF (klF C bk at_ n false) false st)) ++ ex) ∧ Below w.heap.size w wr) (fun u _ => kC - (intOf u).toNat)
        case atStart => exact ⟨0, Nat.zero_le _, rfl, by rw [List.take_zero]; exact HO.out.1, HO.out.2⟩
        case round =>
          obtain ⟨i, hi, rfl, hbx, hbw⟩ := hrel
          by_cases hli : i < kC
          · as_aux_lemma =>
              obtain ⟨hC, hnC, hcl, hn0⟩ := HA.out
              obtain ⟨bl, off, rfl, hbl, hrow⟩ := hC.below hbw hn0 (by omega)
              obtain ⟨a1, a2, ⟨v3, a3, hg⟩, v4, a4, hk⟩ := hrow i (by omega)
              obtain ⟨cb, hcb⟩ : ∃ x, x = (C[i]?.getD default).b := ⟨_, rfl⟩
              obtain ⟨cs, hcs⟩ : ∃ x, x = (C[i]?.getD default).s := ⟨_, rfl⟩
              obtain ⟨l, hl⟩ : ∃ x, x = (C[i]?.getD default).gen := ⟨_, rfl⟩
              rw [← hcb] at a1
              rw [← hcs] at a2
              have hm1 : l.length ≤ 1000 := by
                have hin : (C[i]?.getD default) ∈ C := by
                  rw [List.getElem?_eq_getElem (show i < C.length by omega)]
                  exact List.getElem_mem _
                have := hcl _ hin
                rw [hl]
                exact this.1
              rw [← hl] at hg
              have hktk : klF (C.take (i + 1)) bk at_ n true = klF (C.take i) bk at_ n true ++ (if cb = bk ∧ cs = at_ then okF n l else []) := by
                rw [klF_take (show i < C.length by omega), ← hcb, ← hcs, hl]
                rfl
              have hrn := HR.out
              have hsl : (setsF (klF (C.take i) bk at_ n true) true (setsF (klF C bk at_ n false) false st)).length = n := by rw [setsF_len, setsF_len]; exact hrn.2
              have HP := Lib.hid (rput_any n0 r n cap _ ex _ l true wr hbx hsl hn hg (Nat.le_trans hn0 hrn.1) hm1)
              have HI := Lib.hid (And.intro hbx (And.intro hbw hktk))
              clear hC hnC hcl hn0 hrow hbl hcb hcs hl hm1 hktk hbx hbw hrn hsl
              by_cases e1 : cb = bk
              · by_cases e2 : cs = at_
                · subst e1 e2
                  clear hg hk
                  go_wp2_with (go_at_call 53; refine HP.out.mono ?_; rintro e w2 ⟨⟨u, rfl⟩, hk2, hb2⟩)
                  have HQ := Lib.hid (And.intro hk2 hb2)
                  clear hk2 hb2
                  try go_wp2
                  go_roundw
                  case rel =>
                    refine ⟨i + 1, hli, nxt _, ?_, HI.out.2.1.trans (HQ.out.1.to_below HI.out.2.1.size (fun k hk e => by have := HR.out.1; omega))⟩
                    rw [HI.out.2.2, if_pos (by simp), setsF_app]
                    exact HQ.out.2
                  case measure => exact meas hli
                · clear hg hk
                  have e2' : (cs == at_) = false := by simpa using e2
                  go_wp2
                  go_roundw
                  case rel => exact ⟨i + 1, hli, nxt _, by rw [HI.out.2.2, if_neg (fun h => absurd h.2 e2), List.append_nil]; exact HI.out.1, HI.out.2.1⟩
                  case measure => exact meas hli
              · clear hg hk
                have e1' : (cb == bk) = false := by simpa using e1
                go_wp2
                go_roundw
                case rel => exact ⟨i + 1, hli, nxt _, by rw [HI.out.2.2, if_neg (fun h => absurd h.1 e1), List.append_nil]; exact HI.out.1, HI.out.2.1⟩
                case measure => exact meas hli
          · as_aux_lemma =>
              obtain rfl : kC = i := (last hi hli).symm
              have HI := Lib.hid (And.intro hbx hbw)
              clear hbx hbw
              go_wp2
              go_ret
              obtain ⟨hbx, hbw⟩ := HI.out
              rw [HA.out.2.1, List.take_length] at hbx
              refine ⟨.slice (some ⟨r, 0, none⟩) n cap, rfl, ⟨r, cap, ex, ?_, HR.out.1, hbx⟩, hbw⟩
              rw [aftF, setsF_len, setsF_len, HR.out.2]

set_option maxRecDepth 100000 in
set_option maxHeartbeats 8000000 in
theorem rbefore_any (n0 : Nat) (oc : Option Addr) (capC : Nat) (C : List Chg) (bk at_ : Int) (v : Value) (n : Nat) (st : List Bool) (w : World) (hC : CRow n0 w oc C) (hcl : ∀ c ∈ C, c.gen.length ≤ 1000 ∧ c.kill.length ≤ 1000) (hC1 : C.length ≤ 1000) (hn0 : n0 ≤ w.heap.size) (hn : n ≤ 1000) (hst : st.length = n) (hv : BRow w v st) :
    Calls Try.prog 39 #[v, .slice oc C.length capC, .int .i64 bk, .int .i64 at_] w fun e w' => ∃ v', e = .returned v' ∧ NBR w w' v' (aftF C bk at_ n st) ∧ Below w.heap.size w w' := by
  obtain ⟨kC, hnC⟩ : ∃ k, k = C.length := ⟨_, rfl⟩
  rw [← hnC] at hC1 ⊢
  have HA := Lib.hid (And.intro hC (And.intro hnC (And.intro hcl hn0)))
  have HCP := Lib.hid (copied_any v st w hv (by omega))
  obtain ⟨r0, cap0, ex0, rfl, -⟩ := hv
  rw [hst] at HCP ⊢
  clear hC hnC hcl hn0
  go_enter Try.func39, Try.ntmps39
  go_wp2_with (go_at_call 34; refine HCP.out.mono ?_; clear HCP; rintro e w1 ⟨v1, rfl, hnb, hb1⟩)
  obtain ⟨r, cap, ex, rfl, hr, hbx⟩ := hnb
  rw [hst]
  have HO := Lib.hid (And.intro hbx hb1)
  have HR := Lib.hid (And.intro hr hst)
  clear hbx hb1 hr hst
  go_wp2
  go_loopw [10] (fun u wr => ∃ i : Nat, i ≤ kC ∧ u = .int .i64 i ∧ Bx wr r 4 (bC (setsF (klF (C.take i) bk at_ n false) false (st)) ++ ex) ∧ Below w.heap.size w wr) (fun u _ => kC - (intOf u).toNat)
  case atStart => exact ⟨0, Nat.zero_le _, rfl, by rw [List.take_zero]; exact HO.out.1, HO.out.2⟩
  case round =>
    obtain ⟨i, hi, rfl, hbx, hbw⟩ := hrel
    by_cases hli : i < kC
    · as_aux_lemma =>
        obtain ⟨hC, hnC, hcl, hn0⟩ := HA.out
        obtain ⟨bl, off, rfl, hbl, hrow⟩ := hC.below hbw hn0 (by omega)
        obtain ⟨a1, a2, ⟨v3, a3, hg⟩, v4, a4, hk⟩ := hrow i (by omega)
        obtain ⟨cb, hcb⟩ : ∃ x, x = (C[i]?.getD default).b := ⟨_, rfl⟩
        obtain ⟨cs, hcs⟩ : ∃ x, x = (C[i]?.getD default).s := ⟨_, rfl⟩
        obtain ⟨l, hl⟩ : ∃ x, x = (C[i]?.getD default).kill := ⟨_, rfl⟩
        rw [← hcb] at a1
        rw [← hcs] at a2
        have hm1 : l.length ≤ 1000 := by
          have hin : (C[i]?.getD default) ∈ C := by
            rw [List.getElem?_eq_getElem (show i < C.length by omega)]
            exact List.getElem_mem _
          have := hcl _ hin
          rw [hl]
          exact this.2
        rw [← hl] at hk
        have hktk : klF (C.take (i + 1)) bk at_ n false = klF (C.take i) bk at_ n false ++ (if cb = bk ∧ cs = at_ then okF n l else []) := by
          rw [klF_take (show i < C.length by omega), ← hcb, ← hcs, hl]
          rfl
        have hrn := HR.out
        have hsl : (setsF (klF (C.take i) bk at_ n false) false (st)).length = n := by rw [setsF_len]; exact hrn.2
        have HP := Lib.hid (rput_any n0 r n cap _ ex _ l false wr hbx hsl hn hk (Nat.le_trans hn0 hrn.1) hm1)
        have HI := Lib.hid (And.intro hbx (And.intro hbw hktk))
        clear hC hnC hcl hn0 hrow hbl hcb hcs hl hm1 hktk hbx hbw hrn hsl
        by_cases e1 : cb = bk
        · by_cases e2 : cs = at_
          · subst e1 e2
            clear hg hk
            go_wp2_with (go_at_call 53; refine HP.out.mono ?_; rintro e w2 ⟨⟨u, rfl⟩, hk2, hb2⟩)
            have HQ := Lib.hid (And.intro hk2 hb2)
            clear hk2 hb2
            try go_wp2
            go_roundw
            case rel =>
              refine ⟨i + 1, hli, nxt _, ?_, HI.out.2.1.trans (HQ.out.1.to_below HI.out.2.1.size (fun k hk e => by have := HR.out.1; omega))⟩
              rw [HI.out.2.2, if_pos (by simp), setsF_app]
              exact HQ.out.2
            case measure => exact meas hli
          · clear hg hk
            have e2' : (cs == at_) = false := by simpa using e2
            go_wp2
            go_roundw
            case rel => exact ⟨i + 1, hli, nxt _, by rw [HI.out.2.2, if_neg (fun h => absurd h.2 e2), List.append_nil]; exact HI.out.1, HI.out.2.1⟩
            case measure => exact meas hli
        · clear hg hk
          have e1' : (cb == bk) = false := by simpa using e1
          go_wp2
          go_roundw
          case rel => exact ⟨i + 1, hli, nxt _, by rw [HI.out.2.2, if_neg (fun h => absurd h.1 e1), List.append_nil]; exact HI.out.1, HI.out.2.1⟩
          case measure => exact meas hli
    · as_aux_lemma =>
        obtain rfl : kC = i := (last hi hli).symm
        have HI := Lib.hid (And.intro hbx hbw)
        clear hbx hbw
        go_wp2
        have HO := Lib.hid (show Bx wr r 4 (bC (setsF (klF C bk at_ n false) false st) ++ ex) ∧ Below w.heap.size w wr from by
          obtain ⟨hbx, hbw⟩ := HI.out
          rw [HA.out.2.1, List.take_length] at hbx
          exact ⟨hbx, hbw⟩)
        clear HI
        go_loopw [11] (fun u wr => ∃ i : Nat, i ≤ kC ∧ u = .int .i64 i ∧ Bx wr r 4 (bC (setsF (klF (C.take i) bk at_ n true) true (setsF (klF C bk at_ n false) false st)) ++ ex) ∧ Below w.heap.size w wr) (fun u _ => kC - (intOf u).toNat)
        case atStart => exact ⟨0, Nat.zero_le _, rfl, by rw [List.take_zero]; exact HO.out.1, HO.out.2⟩
        case round =>
          obtain ⟨i, hi, rfl, hbx, hbw⟩ := hrel
          by_cases hli : i < kC
          · as_aux_lemma =>
              obtain ⟨hC, hnC, hcl, hn0⟩ := HA.out
              obtain ⟨bl, off, rfl, hbl, hrow⟩ := hC.below hbw hn0 (by omega)
              obtain ⟨a1, a2, ⟨v3, a3, hg⟩, v4, a4, hk⟩ := hrow i (by omega)
              obtain ⟨cb, hcb⟩ : ∃ x, x = (C[i]?.getD default).b := ⟨_, rfl⟩
              obtain ⟨cs, hcs⟩ : ∃ x, x = (C[i]?.getD default).s := ⟨_, rfl⟩
              obtain ⟨l, hl⟩ : ∃ x, x = (C[i]?.getD default).gen := ⟨_, rfl⟩
              rw [← hcb] at a1
              rw [← hcs] at a2
              have hm1 : l.length ≤ 1000 := by
                have hin : (C[i]?.getD default) ∈ C := by
                  rw [List.getElem?_eq_getElem (show i < C.length by omega)]
                  exact List.getElem_mem _
                have := hcl _ hin
                rw [hl]
                exact this.1
              rw [← hl] at hg
              have hktk : klF (C.take (i + 1)) bk at_ n true = klF (C.take i) bk at_ n true ++ (if cb = bk ∧ cs = at_ then okF n l else []) := by
                rw [klF_take (show i < C.length by omega), ← hcb, ← hcs, hl]
                rfl
              have hrn := HR.out
              have hsl : (setsF (klF (C.take i) bk at_ n true) true (setsF (klF C bk at_ n false) false st)).length = n := by rw [setsF_len, setsF_len]; exact hrn.2
              have HP := Lib.hid (rput_any n0 r n cap _ ex _ l true wr hbx hsl hn hg (Nat.le_trans hn0 hrn.1) hm1)
              have HI := Lib.hid (And.intro hbx (And.intro hbw hktk))
              clear hC hnC hcl hn0 hrow hbl hcb hcs hl hm1 hktk hbx hbw hrn hsl
              by_cases e1 : cb = bk
              · by_cases e2 : cs = at_
                · subst e1 e2
                  clear hg hk
                  go_wp2_with (go_at_call 53; refine HP.out.mono ?_; rintro e w2 ⟨⟨u, rfl⟩, hk2, hb2⟩)
                  have HQ := Lib.hid (And.intro hk2 hb2)
                  clear hk2 hb2
                  try go_wp2
                  go_roundw
                  case rel =>
                    refine ⟨i + 1, hli, nxt _, ?_, HI.out.2.1.trans (HQ.out.1.to_below HI.out.2.1.size (fun k hk e => by have := HR.out.1; omega))⟩
                    rw [HI.out.2.2, if_pos (by simp), setsF_app]
                    exact HQ.out.2
                  case measure => exact meas hli
                · clear hg hk
                  have e2' : (cs == at_) = false := by simpa using e2
                  go_wp2
                  go_roundw
                  case rel => exact ⟨i + 1, hli, nxt _, by rw [HI.out.2.2, if_neg (fun h => absurd h.2 e2), List.append_nil]; exact HI.out.1, HI.out.2.1⟩
                  case measure => exact meas hli
              · clear hg hk
                have e1' : (cb == bk) = false := by simpa using e1
                go_wp2
                go_roundw
                case rel => exact ⟨i + 1, hli, nxt _, by rw [HI.out.2.2, if_neg (fun h => absurd h.1 e1), List.append_nil]; exact HI.out.1, HI.out.2.1⟩
                case measure => exact meas hli
          · as_aux_lemma =>
              obtain rfl : kC = i := (last hi hli).symm
              have HI := Lib.hid (And.intro hbx hbw)
              clear hbx hbw
              go_wp2
              go_ret
              obtain ⟨hbx, hbw⟩ := HI.out
              rw [HA.out.2.1, List.take_length] at hbx
              refine ⟨.slice (some ⟨r, 0, none⟩) n cap, rfl, ⟨r, cap, ex, ?_, HR.out.1, hbx⟩, hbw⟩
              rw [aftF, setsF_len, setsF_len, HR.out.2]

set_option maxRecDepth 100000 in
set_option maxHeartbeats 4000000 in
theorem rsame_any (va vb : Value) (a b : List Bool) (w : World) (ha : Rd1 w va a) (hb : Rd1 w vb b) (hl : a.length = b.length) (hn : a.length ≤ 1000) :
    Calls Try.prog 26 #[va, vb] w fun e w' => e = .returned (.bool (decide (a = b))) ∧ Below w.heap.size w w' := by
  obtain ⟨oa, ca, rfl, ha2⟩ := ha
  obtain ⟨ob, cb, rfl, hb2⟩ := hb
  obtain ⟨n, hnn⟩ : ∃ n, n = a.length := ⟨_, rfl⟩
  rw [← hl, ← hnn] at hb2
  rw [← hnn] at hn ha2
  rw [← hl, ← hnn]
  have HA := Lib.hid (And.intro ha2 (And.intro hb2 (And.intro hnn hl)))
  clear ha2 hb2 hnn hl
  go_enter Try.func26, Try.ntmps26
  go_wp2
  go_loopw [5] (fun u wr => ∃ j : Nat, j ≤ n ∧ u = .int .i64 j ∧ (∀ k : Nat, k < j → a[k]?.getD false = b[k]?.getD false) ∧ Below w.heap.size w wr) (fun u _ => n - (intOf u).toNat)
  case atStart => exact ⟨0, Nat.zero_le _, rfl, fun k hk => absurd hk (Nat.not_lt_zero _), Below.refl _ _⟩
  case round =>
    obtain ⟨j, hj, rfl, heq, hbq⟩ := hrel
    obtain ⟨wq, rfl⟩ : ∃ wq : World, wq = wr := ⟨_, rfl⟩
    by_cases hlj : j < n
    · obtain ⟨ha2, hb2, hnn, hl⟩ := HA.out
      obtain ⟨bA, pA, rfl, c5⟩ := ha2 (by omega)
      obtain ⟨bB, pB, rfl, c6⟩ := hb2 (by omega)
      have d1 := below_cell hbq (c5 j hlj)
      have d2 := below_cell hbq (c6 j hlj)
      obtain ⟨x, hx⟩ : ∃ x, x = a[j]?.getD false := ⟨_, rfl⟩
      obtain ⟨y, hy⟩ : ∃ y, y = b[j]?.getD false := ⟨_, rfl⟩
      rw [← hx] at d1
      rw [← hy] at d2
      have HB := Lib.hid (And.intro heq (And.intro hbq (And.intro hx hy)))
      clear ha2 hb2 hnn hl c5 c6 hx hy heq hbq
      go_upto_region 4 with fail
      cases x with
      | true =>
        cases y with
        | true =>
          refine wp_region_held_drew (S := (fun w' => w'.cell? ⟨bA, pA + j, none⟩ = some (.bool true) ∧ w'.cell? ⟨bB, pB + j, none⟩ = some (.bool true))) (by kernel_rfl) ?_ (fun hHeld => ?_)
          · exact And.intro d1 d2
          refine wpAnyH_take (i := 0) (oi := { dst := some 12, op := Op.move (Operand.tmp 0), type := 26, pos := "ref.go:104", after := #[], guard := none }) (v := ?vq0_1) rfl (by kernel_rfl) (by kernel_rfl) (by kernel_rfl) (fun _ _ _ h => h) (Or.inl ⟨by rfl, ?hq0_1⟩) (by assumption) ?_
          case hq0_1 => intro w hSw; (try dsimp only at hSw); go_simp; try (with_reducible rfl)
          (try simp only [Act.put, List.setIfInBounds_toArray, List.set_cons_zero, List.set_cons_succ])
          refine wpAnyH_take (i := 1) (oi := { dst := some 13, op := Op.move (Operand.tmp 5), type := 3, pos := "ref.go:104", after := #[], guard := none }) (v := ?vq1_2) rfl (by kernel_rfl) (by kernel_rfl) (by kernel_rfl) (fun _ _ _ h => h) (Or.inl ⟨by rfl, ?hq1_2⟩) (by assumption) ?_
          case hq1_2 => intro w hSw; (try dsimp only at hSw); go_simp; try (with_reducible rfl)
          (try simp only [Act.put, List.setIfInBounds_toArray, List.set_cons_zero, List.set_cons_succ])
          refine wpAnyH_take (i := 2) (oi := { dst := some 14, op := Op.indexAddr 26 (Operand.tmp 12) (Operand.tmp 13), type := 0, pos := "ref.go:104", after := #[{ on := 0, ground := Ground.data }, { on := 1, ground := Ground.data }], guard := none }) (v := .pointer (some ⟨bA, pA + j, none⟩)) rfl (by kernel_rfl) (by kernel_rfl) (by kernel_rfl) (fun _ _ _ h => h) (Or.inl ⟨by rfl, ?hq2_3⟩) (by assumption) ?_
          case hq2_3 => intro w hSw; (try dsimp only at hSw); go_simp; try (intro h; exfalso; omega)
          (try simp only [Act.put, List.setIfInBounds_toArray, List.set_cons_zero, List.set_cons_succ])
          refine wpAnyH_take (i := 3) (oi := { dst := some 15, op := Op.load 4 (Operand.tmp 14), type := 4, pos := "ref.go:104", after := #[{ on := 2, ground := Ground.data }], guard := none }) (v := ?vq3_4) rfl (by kernel_rfl) (by kernel_rfl) (by kernel_rfl) (fun _ _ _ h => h) (Or.inl ⟨by rfl, ?hq3_4⟩) (by assumption) ?_
          case hq3_4 => intro w hSw; (try dsimp only at hSw); go_simp; try (with_reducible rfl)
          (try simp only [Act.put, List.setIfInBounds_toArray, List.set_cons_zero, List.set_cons_succ])
          refine wpAnyH_take (i := 4) (oi := { dst := some 16, op := Op.move (Operand.tmp 1), type := 26, pos := "ref.go:104", after := #[], guard := none }) (v := ?vq4_5) rfl (by kernel_rfl) (by kernel_rfl) (by kernel_rfl) (fun _ _ _ h => h) (Or.inl ⟨by rfl, ?hq4_5⟩) (by assumption) ?_
          case hq4_5 => intro w hSw; (try dsimp only at hSw); go_simp; try (with_reducible rfl)
          (try simp only [Act.put, List.setIfInBounds_toArray, List.set_cons_zero, List.set_cons_succ])
          refine wpAnyH_take (i := 5) (oi := { dst := some 17, op := Op.move (Operand.tmp 5), type := 3, pos := "ref.go:104", after := #[], guard := none }) (v := ?vq5_6) rfl (by kernel_rfl) (by kernel_rfl) (by kernel_rfl) (fun _ _ _ h => h) (Or.inl ⟨by rfl, ?hq5_6⟩) (by assumption) ?_
          case hq5_6 => intro w hSw; (try dsimp only at hSw); go_simp; try (with_reducible rfl)
          (try simp only [Act.put, List.setIfInBounds_toArray, List.set_cons_zero, List.set_cons_succ])
          refine wpAnyH_take (i := 6) (oi := { dst := some 18, op := Op.indexAddr 26 (Operand.tmp 16) (Operand.tmp 17), type := 0, pos := "ref.go:104", after := #[{ on := 4, ground := Ground.data }, { on := 5, ground := Ground.data }], guard := none }) (v := .pointer (some ⟨bB, pB + j, none⟩)) rfl (by kernel_rfl) (by kernel_rfl) (by kernel_rfl) (fun _ _ _ h => h) (Or.inl ⟨by rfl, ?hq6_7⟩) (by assumption) ?_
          case hq6_7 => intro w hSw; (try dsimp only at hSw); go_simp; try (intro h; exfalso; omega)
          (try simp only [Act.put, List.setIfInBounds_toArray, List.set_cons_zero, List.set_cons_succ])
          refine wpAnyH_take (i := 7) (oi := { dst := some 19, op := Op.load 4 (Operand.tmp 18), type := 4, pos := "ref.go:104", after := #[{ on := 6, ground := Ground.data }], guard := none }) (v := ?vq7_8) rfl (by kernel_rfl) (by kernel_rfl) (by kernel_rfl) (fun _ _ _ h => h) (Or.inl ⟨by rfl, ?hq7_8⟩) (by assumption) ?_
          case hq7_8 => intro w hSw; (try dsimp only at hSw); go_simp; try (with_reducible rfl)
          (try simp only [Act.put, List.setIfInBounds_toArray, List.set_cons_zero, List.set_cons_succ])
          refine wpAnyH_take (i := 8) (oi := { dst := some 20, op := Op.binOp BinOp.neq 4 (Operand.tmp 15) (Operand.tmp 19) 4, type := 4, pos := "ref.go:104", after := #[{ on := 3, ground := Ground.data }, { on := 7, ground := Ground.data }], guard := none }) (v := .bool false) rfl (by kernel_rfl) (by kernel_rfl) (by kernel_rfl) (fun _ _ _ h => h) (Or.inl ⟨by rfl, ?hq8_9⟩) (by assumption) ?_
          case hq8_9 => intro w hSw; (try dsimp only at hSw); go_simp; try (simp; try omega)
          (try simp only [Act.put, List.setIfInBounds_toArray, List.set_cons_zero, List.set_cons_succ])
          refine wpAnyH_done (by kernel_rfl) ?_ _
          clear d1 d2
          have HJ := Lib.hid (show Below w.heap.size w wq.drew from HB.out.2.1.drew)
          go_wp2
          go_roundw
          case rel =>
            refine ⟨j + 1, hlj, nxt _, fun k hk => ?_, HJ.out⟩
            by_cases e : k = j
            · subst e
              rw [← HB.out.2.2.1, ← HB.out.2.2.2]
            · exact HB.out.1 k (by omega)
          case measure => exact meas hlj
        | false =>
          refine wp_region_held_drew (S := (fun w' => w'.cell? ⟨bA, pA + j, none⟩ = some (.bool true) ∧ w'.cell? ⟨bB, pB + j, none⟩ = some (.bool false))) (by kernel_rfl) ?_ (fun hHeld => ?_)
          · exact And.intro d1 d2
          refine wpAnyH_take (i := 0) (oi := { dst := some 12, op := Op.move (Operand.tmp 0), type := 26, pos := "ref.go:104", after := #[], guard := none }) (v := ?vq0_10) rfl (by kernel_rfl) (by kernel_rfl) (by kernel_rfl) (fun _ _ _ h => h) (Or.inl ⟨by rfl, ?hq0_10⟩) (by assumption) ?_
          case hq0_10 => intro w hSw; (try dsimp only at hSw); go_simp; try (with_reducible rfl)
          (try simp only [Act.put, List.setIfInBounds_toArray, List.set_cons_zero, List.set_cons_succ])
          refine wpAnyH_take (i := 1) (oi := { dst := some 13, op := Op.move (Operand.tmp 5), type := 3, pos := "ref.go:104", after := #[], guard := none }) (v := ?vq1_11) rfl (by kernel_rfl) (by kernel_rfl) (by kernel_rfl) (fun _ _ _ h => h) (Or.inl ⟨by rfl, ?hq1_11⟩) (by assumption) ?_
          case hq1_11 => intro w hSw; (try dsimp only at hSw); go_simp; try (with_reducible rfl)
          (try simp only [Act.put, List.setIfInBounds_toArray, List.set_cons_zero, List.set_cons_succ])
          refine wpAnyH_take (i := 2) (oi := { dst := some 14, op := Op.indexAddr 26 (Operand.tmp 12) (Operand.tmp 13), type := 0, pos := "ref.go:104", after := #[{ on := 0, ground := Ground.data }, { on := 1, ground := Ground.data }], guard := none }) (v := .pointer (some ⟨bA, pA + j, none⟩)) rfl (by kernel_rfl) (by kernel_rfl) (by kernel_rfl) (fun _ _ _ h => h) (Or.inl ⟨by rfl, ?hq2_12⟩) (by assumption) ?_
          case hq2_12 => intro w hSw; (try dsimp only at hSw); go_simp; try (intro h; exfalso; omega)
          (try simp only [Act.put, List.setIfInBounds_toArray, List.set_cons_zero, List.set_cons_succ])
          refine wpAnyH_take (i := 3) (oi := { dst := some 15, op := Op.load 4 (Operand.tmp 14), type := 4, pos := "ref.go:104", after := #[{ on := 2, ground := Ground.data }], guard := none }) (v := ?vq3_13) rfl (by kernel_rfl) (by kernel_rfl) (by kernel_rfl) (fun _ _ _ h => h) (Or.inl ⟨by rfl, ?hq3_13⟩) (by assumption) ?_
          case hq3_13 => intro w hSw; (try dsimp only at hSw); go_simp; try (with_reducible rfl)
          (try simp only [Act.put, List.setIfInBounds_toArray, List.set_cons_zero, List.set_cons_succ])
          refine wpAnyH_take (i := 4) (oi := { dst := some 16, op := Op.move (Operand.tmp 1), type := 26, pos := "ref.go:104", after := #[], guard := none }) (v := ?vq4_14) rfl (by kernel_rfl) (by kernel_rfl) (by kernel_rfl) (fun _ _ _ h => h) (Or.inl ⟨by rfl, ?hq4_14⟩) (by assumption) ?_
          case hq4_14 => intro w hSw; (try dsimp only at hSw); go_simp; try (with_reducible rfl)
          (try simp only [Act.put, List.setIfInBounds_toArray, List.set_cons_zero, List.set_cons_succ])
          refine wpAnyH_take (i := 5) (oi := { dst := some 17, op := Op.move (Operand.tmp 5), type := 3, pos := "ref.go:104", after := #[], guard := none }) (v := ?vq5_15) rfl (by kernel_rfl) (by kernel_rfl) (by kernel_rfl) (fun _ _ _ h => h) (Or.inl ⟨by rfl, ?hq5_15⟩) (by assumption) ?_
          case hq5_15 => intro w hSw; (try dsimp only at hSw); go_simp; try (with_reducible rfl)
          (try simp only [Act.put, List.setIfInBounds_toArray, List.set_cons_zero, List.set_cons_succ])
          refine wpAnyH_take (i := 6) (oi := { dst := some 18, op := Op.indexAddr 26 (Operand.tmp 16) (Operand.tmp 17), type := 0, pos := "ref.go:104", after := #[{ on := 4, ground := Ground.data }, { on := 5, ground := Ground.data }], guard := none }) (v := .pointer (some ⟨bB, pB + j, none⟩)) rfl (by kernel_rfl) (by kernel_rfl) (by kernel_rfl) (fun _ _ _ h => h) (Or.inl ⟨by rfl, ?hq6_16⟩) (by assumption) ?_
          case hq6_16 => intro w hSw; (try dsimp only at hSw); go_simp; try (intro h; exfalso; omega)
          (try simp only [Act.put, List.setIfInBounds_toArray, List.set_cons_zero, List.set_cons_succ])
          refine wpAnyH_take (i := 7) (oi := { dst := some 19, op := Op.load 4 (Operand.tmp 18), type := 4, pos := "ref.go:104", after := #[{ on := 6, ground := Ground.data }], guard := none }) (v := ?vq7_17) rfl (by kernel_rfl) (by kernel_rfl) (by kernel_rfl) (fun _ _ _ h => h) (Or.inl ⟨by rfl, ?hq7_17⟩) (by assumption) ?_
          case hq7_17 => intro w hSw; (try dsimp only at hSw); go_simp; try (with_reducible rfl)
          (try simp only [Act.put, List.setIfInBounds_toArray, List.set_cons_zero, List.set_cons_succ])
          refine wpAnyH_take (i := 8) (oi := { dst := some 20, op := Op.binOp BinOp.neq 4 (Operand.tmp 15) (Operand.tmp 19) 4, type := 4, pos := "ref.go:104", after := #[{ on := 3, ground := Ground.data }, { on := 7, ground := Ground.data }], guard := none }) (v := .bool true) rfl (by kernel_rfl) (by kernel_rfl) (by kernel_rfl) (fun _ _ _ h => h) (Or.inl ⟨by rfl, ?hq8_18⟩) (by assumption) ?_
          case hq8_18 => intro w hSw; (try dsimp only at hSw); go_simp; try (simp; try omega)
          (try simp only [Act.put, List.setIfInBounds_toArray, List.set_cons_zero, List.set_cons_succ])
          refine wpAnyH_done (by kernel_rfl) ?_ _
          clear d1 d2
          have HJ := Lib.hid (show Below w.heap.size w wq.drew from HB.out.2.1.drew)
          go_wp2
          go_ret
          refine ⟨?_, HJ.out⟩
          have hne : ¬ a = b := fun e => by
            have h1 := HB.out.2.2.1
            have h2 := HB.out.2.2.2
            rw [e, ← h2] at h1
            cases h1
          simp [hne]
      | false =>
        cases y with
        | true =>
          refine wp_region_held_drew (S := (fun w' => w'.cell? ⟨bA, pA + j, none⟩ = some (.bool false) ∧ w'.cell? ⟨bB, pB + j, none⟩ = some (.bool true))) (by kernel_rfl) ?_ (fun hHeld => ?_)
          · exact And.intro d1 d2
          refine wpAnyH_take (i := 0) (oi := { dst := some 12, op := Op.move (Operand.tmp 0), type := 26, pos := "ref.go:104", after := #[], guard := none }) (v := ?vq0_19) rfl (by kernel_rfl) (by kernel_rfl) (by kernel_rfl) (fun _ _ _ h => h) (Or.inl ⟨by rfl, ?hq0_19⟩) (by assumption) ?_
          case hq0_19 => intro w hSw; (try dsimp only at hSw); go_simp; try (with_reducible rfl)
          (try simp only [Act.put, List.setIfInBounds_toArray, List.set_cons_zero, List.set_cons_succ])
          refine wpAnyH_take (i := 1) (oi := { dst := some 13, op := Op.move (Operand.tmp 5), type := 3, pos := "ref.go:104", after := #[], guard := none }) (v := ?vq1_20) rfl (by kernel_rfl) (by kernel_rfl) (by kernel_rfl) (fun _ _ _ h => h) (Or.inl ⟨by rfl, ?hq1_20⟩) (by assumption) ?_
          case hq1_20 => intro w hSw; (try dsimp only at hSw); go_simp; try (with_reducible rfl)
          (try simp only [Act.put, List.setIfInBounds_toArray, List.set_cons_zero, List.set_cons_succ])
          refine wpAnyH_take (i := 2) (oi := { dst := some 14, op := Op.indexAddr 26 (Operand.tmp 12) (Operand.tmp 13), type := 0, pos := "ref.go:104", after := #[{ on := 0, ground := Ground.data }, { on := 1, ground := Ground.data }], guard := none }) (v := .pointer (some ⟨bA, pA + j, none⟩)) rfl (by kernel_rfl) (by kernel_rfl) (by kernel_rfl) (fun _ _ _ h => h) (Or.inl ⟨by rfl, ?hq2_21⟩) (by assumption) ?_
          case hq2_21 => intro w hSw; (try dsimp only at hSw); go_simp; try (intro h; exfalso; omega)
          (try simp only [Act.put, List.setIfInBounds_toArray, List.set_cons_zero, List.set_cons_succ])
          refine wpAnyH_take (i := 3) (oi := { dst := some 15, op := Op.load 4 (Operand.tmp 14), type := 4, pos := "ref.go:104", after := #[{ on := 2, ground := Ground.data }], guard := none }) (v := ?vq3_22) rfl (by kernel_rfl) (by kernel_rfl) (by kernel_rfl) (fun _ _ _ h => h) (Or.inl ⟨by rfl, ?hq3_22⟩) (by assumption) ?_
          case hq3_22 => intro w hSw; (try dsimp only at hSw); go_simp; try (with_reducible rfl)
          (try simp only [Act.put, List.setIfInBounds_toArray, List.set_cons_zero, List.set_cons_succ])
          refine wpAnyH_take (i := 4) (oi := { dst := some 16, op := Op.move (Operand.tmp 1), type := 26, pos := "ref.go:104", after := #[], guard := none }) (v := ?vq4_23) rfl (by kernel_rfl) (by kernel_rfl) (by kernel_rfl) (fun _ _ _ h => h) (Or.inl ⟨by rfl, ?hq4_23⟩) (by assumption) ?_
          case hq4_23 => intro w hSw; (try dsimp only at hSw); go_simp; try (with_reducible rfl)
          (try simp only [Act.put, List.setIfInBounds_toArray, List.set_cons_zero, List.set_cons_succ])
          refine wpAnyH_take (i := 5) (oi := { dst := some 17, op := Op.move (Operand.tmp 5), type := 3, pos := "ref.go:104", after := #[], guard := none }) (v := ?vq5_24) rfl (by kernel_rfl) (by kernel_rfl) (by kernel_rfl) (fun _ _ _ h => h) (Or.inl ⟨by rfl, ?hq5_24⟩) (by assumption) ?_
          case hq5_24 => intro w hSw; (try dsimp only at hSw); go_simp; try (with_reducible rfl)
          (try simp only [Act.put, List.setIfInBounds_toArray, List.set_cons_zero, List.set_cons_succ])
          refine wpAnyH_take (i := 6) (oi := { dst := some 18, op := Op.indexAddr 26 (Operand.tmp 16) (Operand.tmp 17), type := 0, pos := "ref.go:104", after := #[{ on := 4, ground := Ground.data }, { on := 5, ground := Ground.data }], guard := none }) (v := .pointer (some ⟨bB, pB + j, none⟩)) rfl (by kernel_rfl) (by kernel_rfl) (by kernel_rfl) (fun _ _ _ h => h) (Or.inl ⟨by rfl, ?hq6_25⟩) (by assumption) ?_
          case hq6_25 => intro w hSw; (try dsimp only at hSw); go_simp; try (intro h; exfalso; omega)
          (try simp only [Act.put, List.setIfInBounds_toArray, List.set_cons_zero, List.set_cons_succ])
          refine wpAnyH_take (i := 7) (oi := { dst := some 19, op := Op.load 4 (Operand.tmp 18), type := 4, pos := "ref.go:104", after := #[{ on := 6, ground := Ground.data }], guard := none }) (v := ?vq7_26) rfl (by kernel_rfl) (by kernel_rfl) (by kernel_rfl) (fun _ _ _ h => h) (Or.inl ⟨by rfl, ?hq7_26⟩) (by assumption) ?_
          case hq7_26 => intro w hSw; (try dsimp only at hSw); go_simp; try (with_reducible rfl)
          (try simp only [Act.put, List.setIfInBounds_toArray, List.set_cons_zero, List.set_cons_succ])
          refine wpAnyH_take (i := 8) (oi := { dst := some 20, op := Op.binOp BinOp.neq 4 (Operand.tmp 15) (Operand.tmp 19) 4, type := 4, pos := "ref.go:104", after := #[{ on := 3, ground := Ground.data }, { on := 7, ground := Ground.data }], guard := none }) (v := .bool true) rfl (by kernel_rfl) (by kernel_rfl) (by kernel_rfl) (fun _ _ _ h => h) (Or.inl ⟨by rfl, ?hq8_27⟩) (by assumption) ?_
          case hq8_27 => intro w hSw; (try dsimp only at hSw); go_simp; try (simp; try omega)
          (try simp only [Act.put, List.setIfInBounds_toArray, List.set_cons_zero, List.set_cons_succ])
          refine wpAnyH_done (by kernel_rfl) ?_ _
          clear d1 d2
          have HJ := Lib.hid (show Below w.heap.size w wq.drew from HB.out.2.1.drew)
          go_wp2
          go_ret
          refine ⟨?_, HJ.out⟩
          have hne : ¬ a = b := fun e => by
            have h1 := HB.out.2.2.1
            have h2 := HB.out.2.2.2
            rw [e, ← h2] at h1
            cases h1
          simp [hne]
        | false =>
          refine wp_region_held_drew (S := (fun w' => w'.cell? ⟨bA, pA + j, none⟩ = some (.bool false) ∧ w'.cell? ⟨bB, pB + j, none⟩ = some (.bool false))) (by kernel_rfl) ?_ (fun hHeld => ?_)
          · exact And.intro d1 d2
          refine wpAnyH_take (i := 0) (oi := { dst := some 12, op := Op.move (Operand.tmp 0), type := 26, pos := "ref.go:104", after := #[], guard := none }) (v := ?vq0_28) rfl (by kernel_rfl) (by kernel_rfl) (by kernel_rfl) (fun _ _ _ h => h) (Or.inl ⟨by rfl, ?hq0_28⟩) (by assumption) ?_
          case hq0_28 => intro w hSw; (try dsimp only at hSw); go_simp; try (with_reducible rfl)
          (try simp only [Act.put, List.setIfInBounds_toArray, List.set_cons_zero, List.set_cons_succ])
          refine wpAnyH_take (i := 1) (oi := { dst := some 13, op := Op.move (Operand.tmp 5), type := 3, pos := "ref.go:104", after := #[], guard := none }) (v := ?vq1_29) rfl (by kernel_rfl) (by kernel_rfl) (by kernel_rfl) (fun _ _ _ h => h) (Or.inl ⟨by rfl, ?hq1_29⟩) (by assumption) ?_
          case hq1_29 => intro w hSw; (try dsimp only at hSw); go_simp; try (with_reducible rfl)
          (try simp only [Act.put, List.setIfInBounds_toArray, List.set_cons_zero, List.set_cons_succ])
          refine wpAnyH_take (i := 2) (oi := { dst := some 14, op := Op.indexAddr 26 (Operand.tmp 12) (Operand.tmp 13), type := 0, pos := "ref.go:104", after := #[{ on := 0, ground := Ground.data }, { on := 1, ground := Ground.data }], guard := none }) (v := .pointer (some ⟨bA, pA + j, none⟩)) rfl (by kernel_rfl) (by kernel_rfl) (by kernel_rfl) (fun _ _ _ h => h) (Or.inl ⟨by rfl, ?hq2_30⟩) (by assumption) ?_
          case hq2_30 => intro w hSw; (try dsimp only at hSw); go_simp; try (intro h; exfalso; omega)
          (try simp only [Act.put, List.setIfInBounds_toArray, List.set_cons_zero, List.set_cons_succ])
          refine wpAnyH_take (i := 3) (oi := { dst := some 15, op := Op.load 4 (Operand.tmp 14), type := 4, pos := "ref.go:104", after := #[{ on := 2, ground := Ground.data }], guard := none }) (v := ?vq3_31) rfl (by kernel_rfl) (by kernel_rfl) (by kernel_rfl) (fun _ _ _ h => h) (Or.inl ⟨by rfl, ?hq3_31⟩) (by assumption) ?_
          case hq3_31 => intro w hSw; (try dsimp only at hSw); go_simp; try (with_reducible rfl)
          (try simp only [Act.put, List.setIfInBounds_toArray, List.set_cons_zero, List.set_cons_succ])
          refine wpAnyH_take (i := 4) (oi := { dst := some 16, op := Op.move (Operand.tmp 1), type := 26, pos := "ref.go:104", after := #[], guard := none }) (v := ?vq4_32) rfl (by kernel_rfl) (by kernel_rfl) (by kernel_rfl) (fun _ _ _ h => h) (Or.inl ⟨by rfl, ?hq4_32⟩) (by assumption) ?_
          case hq4_32 => intro w hSw; (try dsimp only at hSw); go_simp; try (with_reducible rfl)
          (try simp only [Act.put, List.setIfInBounds_toArray, List.set_cons_zero, List.set_cons_succ])
          refine wpAnyH_take (i := 5) (oi := { dst := some 17, op := Op.move (Operand.tmp 5), type := 3, pos := "ref.go:104", after := #[], guard := none }) (v := ?vq5_33) rfl (by kernel_rfl) (by kernel_rfl) (by kernel_rfl) (fun _ _ _ h => h) (Or.inl ⟨by rfl, ?hq5_33⟩) (by assumption) ?_
          case hq5_33 => intro w hSw; (try dsimp only at hSw); go_simp; try (with_reducible rfl)
          (try simp only [Act.put, List.setIfInBounds_toArray, List.set_cons_zero, List.set_cons_succ])
          refine wpAnyH_take (i := 6) (oi := { dst := some 18, op := Op.indexAddr 26 (Operand.tmp 16) (Operand.tmp 17), type := 0, pos := "ref.go:104", after := #[{ on := 4, ground := Ground.data }, { on := 5, ground := Ground.data }], guard := none }) (v := .pointer (some ⟨bB, pB + j, none⟩)) rfl (by kernel_rfl) (by kernel_rfl) (by kernel_rfl) (fun _ _ _ h => h) (Or.inl ⟨by rfl, ?hq6_34⟩) (by assumption) ?_
          case hq6_34 => intro w hSw; (try dsimp only at hSw); go_simp; try (intro h; exfalso; omega)
          (try simp only [Act.put, List.setIfInBounds_toArray, List.set_cons_zero, List.set_cons_succ])
          refine wpAnyH_take (i := 7) (oi := { dst := some 19, op := Op.load 4 (Operand.tmp 18), type := 4, pos := "ref.go:104", after := #[{ on := 6, ground := Ground.data }], guard := none }) (v := ?vq7_35) rfl (by kernel_rfl) (by kernel_rfl) (by kernel_rfl) (fun _ _ _ h => h) (Or.inl ⟨by rfl, ?hq7_35⟩) (by assumption) ?_
          case hq7_35 => intro w hSw; (try dsimp only at hSw); go_simp; try (with_reducible rfl)
          (try simp only [Act.put, List.setIfInBounds_toArray, List.set_cons_zero, List.set_cons_succ])
          refine wpAnyH_take (i := 8) (oi := { dst := some 20, op := Op.binOp BinOp.neq 4 (Operand.tmp 15) (Operand.tmp 19) 4, type := 4, pos := "ref.go:104", after := #[{ on := 3, ground := Ground.data }, { on := 7, ground := Ground.data }], guard := none }) (v := .bool false) rfl (by kernel_rfl) (by kernel_rfl) (by kernel_rfl) (fun _ _ _ h => h) (Or.inl ⟨by rfl, ?hq8_36⟩) (by assumption) ?_
          case hq8_36 => intro w hSw; (try dsimp only at hSw); go_simp; try (simp; try omega)
          (try simp only [Act.put, List.setIfInBounds_toArray, List.set_cons_zero, List.set_cons_succ])
          refine wpAnyH_done (by kernel_rfl) ?_ _
          clear d1 d2
          have HJ := Lib.hid (show Below w.heap.size w wq.drew from HB.out.2.1.drew)
          go_wp2
          go_roundw
          case rel =>
            refine ⟨j + 1, hlj, nxt _, fun k hk => ?_, HJ.out⟩
            by_cases e : k = j
            · subst e
              rw [← HB.out.2.2.1, ← HB.out.2.2.2]
            · exact HB.out.1 k (by omega)
          case measure => exact meas hlj
    · obtain rfl : n = j := (last hj hlj).symm
      have HB := Lib.hid (And.intro heq hbq)
      clear heq hbq
      go_wp2
      go_ret
      obtain ⟨heq, hbq⟩ := HB.out
      obtain ⟨-, -, hnn, hl⟩ := HA.out
      refine ⟨?_, hbq⟩
      have e : a = b := ext_get hl fun k hk => heq k (by omega)
      simp [e]

set_option maxRecDepth 100000 in
set_option maxHeartbeats 8000000 in
theorem rSame_any (v1 v2 : Value) (X : List (List (List Bool))) (w : World) (h1 : Rd3 w v1 X) (h2 : Rd3 w v2 X) (hn : X.length ≤ 1000 ∧ ∀ S ∈ X, S.length ≤ 2000 ∧ ∀ st ∈ S, st.length ≤ 1000) :
    Calls Try.prog 12 #[v1, v2] w fun e w' => e = .returned (.bool true) ∧ Below w.heap.size w w' := by
  obtain ⟨oX, capX, rfl⟩ := h1.form
  obtain ⟨oY, capY, rfl⟩ := h2.form
  obtain ⟨L, hL⟩ : ∃ L, L = X.length := ⟨_, rfl⟩
  rw [← hL] at h1 h2 hn ⊢
  have hL1 := hn.1
  have HA := Lib.hid (And.intro h1 (And.intro h2 (And.intro hn hL)))
  clear h1 h2 hn hL
  go_enter Try.func12, Try.ntmps12
  go_wp2
  go_loopw [5] (fun u wr => ∃ i : Nat, i ≤ L ∧ u = .int .i64 i ∧ Below w.heap.size w wr) (fun u _ => L - (intOf u).toNat)
  case atStart => exact ⟨0, Nat.zero_le _, rfl, Below.refl _ _⟩
  case round =>
    obtain ⟨i, hi, rfl, hbr⟩ := hrel
    obtain ⟨wo, rfl⟩ : ∃ wo : World, wo = wr := ⟨_, rfl⟩
    by_cases hlt : i < L
    · as_aux_lemma =>
        obtain ⟨h1, h2, hn, hL⟩ := HA.out
        obtain ⟨bX, pX, ou, cu, rfl, c1, r1⟩ := h1.row (i := i) (by omega)
        obtain ⟨bY, pY, ov, cv, rfl, c2, r2⟩ := h2.row (i := i) (by omega)
        have hSin : rowZ X i ∈ X := by
          rw [rowZ, List.getElem?_eq_getElem (by omega)]
          exact List.getElem_mem _
        have hS := hn.2 _ hSin
        obtain ⟨m, hm⟩ : ∃ m, m = (rowZ X i).length := ⟨_, rfl⟩
        rw [← hm] at c1 r1 c2 r2 hS
        have hm1 := hS.1
        have d1 := below_cell hbr c1
        have d2 := below_cell hbr c2
        have HI := Lib.hid (And.intro c1 (And.intro r1 (And.intro c2 (And.intro r2 (And.intro hm (And.intro hS hbr))))))
        clear h1 h2 hn hL c1 r1 c2 r2 hm hS hbr hSin
        go_upto_region 6 with fail
        refine wp_region_held_drew (S := (fun w' => w'.cell? ⟨bX, pX + i, none⟩ = some (.slice ou m cu) ∧ w'.cell? ⟨bY, pY + i, none⟩ = some (.slice ov m cv))) (by kernel_rfl) ?_ (fun hHeld => ?_)
        · exact And.intro d1 d2
        refine wpAnyH_take (i := 0) (oi := { dst := some 18, op := Op.move (Operand.tmp 0), type := 31, pos := "ref.go:225", after := #[], guard := none }) (v := ?vq0_37) rfl (by kernel_rfl) (by kernel_rfl) (by kernel_rfl) (fun _ _ _ h => h) (Or.inl ⟨by rfl, ?hq0_37⟩) (by assumption) ?_
        case hq0_37 => intro w hSw; (try dsimp only at hSw); go_simp; try (with_reducible rfl)
        (try simp only [Act.put, List.setIfInBounds_toArray, List.set_cons_zero, List.set_cons_succ])
        refine wpAnyH_take (i := 1) (oi := { dst := some 19, op := Op.move (Operand.tmp 5), type := 3, pos := "ref.go:225", after := #[], guard := none }) (v := ?vq1_38) rfl (by kernel_rfl) (by kernel_rfl) (by kernel_rfl) (fun _ _ _ h => h) (Or.inl ⟨by rfl, ?hq1_38⟩) (by assumption) ?_
        case hq1_38 => intro w hSw; (try dsimp only at hSw); go_simp; try (with_reducible rfl)
        (try simp only [Act.put, List.setIfInBounds_toArray, List.set_cons_zero, List.set_cons_succ])
        refine wpAnyH_take (i := 2) (oi := { dst := some 20, op := Op.indexAddr 31 (Operand.tmp 18) (Operand.tmp 19), type := 0, pos := "ref.go:225", after := #[{ on := 0, ground := Ground.data }, { on := 1, ground := Ground.data }], guard := none }) (v := .pointer (some ⟨bX, pX + i, none⟩)) rfl (by kernel_rfl) (by kernel_rfl) (by kernel_rfl) (fun _ _ _ h => h) (Or.inl ⟨by rfl, ?hq2_39⟩) (by assumption) ?_
        case hq2_39 => intro w hSw; (try dsimp only at hSw); go_simp; try (intro h; exfalso; omega)
        (try simp only [Act.put, List.setIfInBounds_toArray, List.set_cons_zero, List.set_cons_succ])
        refine wpAnyH_take (i := 3) (oi := { dst := some 21, op := Op.load 44 (Operand.tmp 20), type := 44, pos := "ref.go:225", after := #[{ on := 2, ground := Ground.data }], guard := none }) (v := ?vq3_40) rfl (by kernel_rfl) (by kernel_rfl) (by kernel_rfl) (fun _ _ _ h => h) (Or.inl ⟨by rfl, ?hq3_40⟩) (by assumption) ?_
        case hq3_40 => intro w hSw; (try dsimp only at hSw); go_simp; try (with_reducible rfl)
        (try simp only [Act.put, List.setIfInBounds_toArray, List.set_cons_zero, List.set_cons_succ])
        refine wpAnyH_take (i := 4) (oi := { dst := some 22, op := Op.call { callee := Callee.builtin Builtin.len, args := #[Operand.tmp 21], argTypes := #[44] }, type := 3, pos := "ref.go:225", after := #[{ on := 3, ground := Ground.data }], guard := none }) (v := ?vq4_41) rfl (by kernel_rfl) (by kernel_rfl) (by kernel_rfl) (fun _ _ _ h => h) (Or.inl ⟨by rfl, ?hq4_41⟩) (by assumption) ?_
        case hq4_41 => intro w hSw; (try dsimp only at hSw); go_simp; try (with_reducible rfl)
        (try simp only [Act.put, List.setIfInBounds_toArray, List.set_cons_zero, List.set_cons_succ])
        refine wpAnyH_take (i := 5) (oi := { dst := some 23, op := Op.move (Operand.tmp 1), type := 31, pos := "ref.go:225", after := #[], guard := none }) (v := ?vq5_42) rfl (by kernel_rfl) (by kernel_rfl) (by kernel_rfl) (fun _ _ _ h => h) (Or.inl ⟨by rfl, ?hq5_42⟩) (by assumption) ?_
        case hq5_42 => intro w hSw; (try dsimp only at hSw); go_simp; try (with_reducible rfl)
        (try simp only [Act.put, List.setIfInBounds_toArray, List.set_cons_zero, List.set_cons_succ])
        refine wpAnyH_take (i := 6) (oi := { dst := some 24, op := Op.move (Operand.tmp 5), type := 3, pos := "ref.go:225", after := #[], guard := none }) (v := ?vq6_43) rfl (by kernel_rfl) (by kernel_rfl) (by kernel_rfl) (fun _ _ _ h => h) (Or.inl ⟨by rfl, ?hq6_43⟩) (by assumption) ?_
        case hq6_43 => intro w hSw; (try dsimp only at hSw); go_simp; try (with_reducible rfl)
        (try simp only [Act.put, List.setIfInBounds_toArray, List.set_cons_zero, List.set_cons_succ])
        refine wpAnyH_take (i := 7) (oi := { dst := some 25, op := Op.indexAddr 31 (Operand.tmp 23) (Operand.tmp 24), type := 0, pos := "ref.go:225", after := #[{ on := 5, ground := Ground.data }, { on := 6, ground := Ground.data }], guard := none }) (v := .pointer (some ⟨bY, pY + i, none⟩)) rfl (by kernel_rfl) (by kernel_rfl) (by kernel_rfl) (fun _ _ _ h => h) (Or.inl ⟨by rfl, ?hq7_44⟩) (by assumption) ?_
        case hq7_44 => intro w hSw; (try dsimp only at hSw); go_simp; try (intro h; exfalso; omega)
        (try simp only [Act.put, List.setIfInBounds_toArray, List.set_cons_zero, List.set_cons_succ])
        refine wpAnyH_take (i := 8) (oi := { dst := some 26, op := Op.load 44 (Operand.tmp 25), type := 44, pos := "ref.go:225", after := #[{ on := 7, ground := Ground.data }], guard := none }) (v := ?vq8_45) rfl (by kernel_rfl) (by kernel_rfl) (by kernel_rfl) (fun _ _ _ h => h) (Or.inl ⟨by rfl, ?hq8_45⟩) (by assumption) ?_
        case hq8_45 => intro w hSw; (try dsimp only at hSw); go_simp; try (with_reducible rfl)
        (try simp only [Act.put, List.setIfInBounds_toArray, List.set_cons_zero, List.set_cons_succ])
        refine wpAnyH_take (i := 9) (oi := { dst := some 27, op := Op.call { callee := Callee.builtin Builtin.len, args := #[Operand.tmp 26], argTypes := #[44] }, type := 3, pos := "ref.go:225", after := #[{ on := 8, ground := Ground.data }], guard := none }) (v := ?vq9_46) rfl (by kernel_rfl) (by kernel_rfl) (by kernel_rfl) (fun _ _ _ h => h) (Or.inl ⟨by rfl, ?hq9_46⟩) (by assumption) ?_
        case hq9_46 => intro w hSw; (try dsimp only at hSw); go_simp; try (with_reducible rfl)
        (try simp only [Act.put, List.setIfInBounds_toArray, List.set_cons_zero, List.set_cons_succ])
        refine wpAnyH_take (i := 10) (oi := { dst := some 28, op := Op.binOp BinOp.neq 3 (Operand.tmp 22) (Operand.tmp 27) 3, type := 4, pos := "ref.go:225", after := #[{ on := 4, ground := Ground.data }, { on := 9, ground := Ground.data }], guard := none }) (v := .bool false) rfl (by kernel_rfl) (by kernel_rfl) (by kernel_rfl) (fun _ _ _ h => h) (Or.inl ⟨by rfl, ?hq10_47⟩) (by assumption) ?_
        case hq10_47 => intro w hSw; (try dsimp only at hSw); go_simp; try (simp; try omega)
        (try simp only [Act.put, List.setIfInBounds_toArray, List.set_cons_zero, List.set_cons_succ])
        refine wpAnyH_done (by kernel_rfl) ?_ _
        have HB := Lib.hid (show Below w.heap.size w wo.drew from HI.out.2.2.2.2.2.2.drew)
        clear d1 d2
        go_wp2
        go_loopw [6] (fun u wr => ∃ q : Nat, q ≤ m ∧ u = .int .i64 q ∧ Below w.heap.size w wr) (fun u _ => m - (intOf u).toNat)
        case atStart => exact ⟨0, Nat.zero_le _, rfl, HB.out⟩
        case round =>
          obtain ⟨q, hq, rfl, hbq⟩ := hrel
          obtain ⟨wp, rfl⟩ : ∃ wp : World, wp = wr := ⟨_, rfl⟩
          by_cases hlq : q < m
          · as_aux_lemma =>
              obtain ⟨c1, r1, c2, r2, hm, hS, hbr⟩ := HI.out
              obtain ⟨bU, pU, ox, cx, rfl, c3, r3⟩ := r1.row (i := q) (by omega)
              obtain ⟨bV, pV, oy, cy, rfl, c4, r4⟩ := r2.row (i := q) (by omega)
              obtain ⟨nq, hnq⟩ : ∃ k, k = ((rowZ X i)[q]?.getD []).length := ⟨_, rfl⟩
              have hnq1 : nq ≤ 1000 := by
                rw [hnq, List.getElem?_eq_getElem (by omega)]
                exact hS.2 _ (List.getElem_mem _)
              have HSM : Go.RowKit.Hid (∀ W, Below wp.heap.size wp W → Calls Try.prog 26 #[.slice ox nq cx, .slice oy nq cy] W fun e w' => e = .returned (.bool true) ∧ Below W.heap.size W w') := Lib.hid (fun W hW => by
                have hW' : Below w.heap.size w W := hbq.trans (hW.mono hbq.size)
                have h := rsame_any _ _ _ _ W (r3.below hW') (r4.below hW') rfl (by rw [← hnq]; exact hnq1)
                rw [← hnq] at h
                simpa using h)
              rw [← hnq] at c3 c4
              have d1 := below_cell hbq c1
              have d2 := below_cell hbq c2
              have d3 := below_cell hbq c3
              have d4 := below_cell hbq c4
              have HQ := Lib.hid hbq
              clear c1 r1 c2 r2 hm hS hbr c3 r3 c4 r4 hnq hbq
              go_upto_region 11 with fail
              refine wp_region_held_drew (S := (fun w' => w'.cell? ⟨bX, pX + i, none⟩ = some (.slice (some ⟨bU, pU, none⟩) m cu) ∧ w'.cell? ⟨bY, pY + i, none⟩ = some (.slice (some ⟨bV, pV, none⟩) m cv) ∧ w'.cell? ⟨bU, pU + q, none⟩ = some (.slice ox nq cx) ∧ w'.cell? ⟨bV, pV + q, none⟩ = some (.slice oy nq cy))) (by kernel_rfl) ?_ (fun hHeld => ?_)
              · exact And.intro d1 (And.intro d2 (And.intro d3 d4))
              refine wpAnyH_take (i := 0) (oi := { dst := some 38, op := Op.move (Operand.tmp 0), type := 31, pos := "ref.go:229", after := #[], guard := none }) (v := ?vq0_48) rfl (by kernel_rfl) (by kernel_rfl) (by kernel_rfl) (fun _ _ _ h => h) (Or.inl ⟨by rfl, ?hq0_48⟩) (by assumption) ?_
              case hq0_48 => intro w hSw; (try dsimp only at hSw); go_simp; try (with_reducible rfl)
              (try simp only [Act.put, List.setIfInBounds_toArray, List.set_cons_zero, List.set_cons_succ])
              refine wpAnyH_take (i := 1) (oi := { dst := some 39, op := Op.move (Operand.tmp 5), type := 3, pos := "ref.go:229", after := #[], guard := none }) (v := ?vq1_49) rfl (by kernel_rfl) (by kernel_rfl) (by kernel_rfl) (fun _ _ _ h => h) (Or.inl ⟨by rfl, ?hq1_49⟩) (by assumption) ?_
              case hq1_49 => intro w hSw; (try dsimp only at hSw); go_simp; try (with_reducible rfl)
              (try simp only [Act.put, List.setIfInBounds_toArray, List.set_cons_zero, List.set_cons_succ])
              refine wpAnyH_take (i := 2) (oi := { dst := some 40, op := Op.indexAddr 31 (Operand.tmp 38) (Operand.tmp 39), type := 0, pos := "ref.go:229", after := #[{ on := 0, ground := Ground.data }, { on := 1, ground := Ground.data }], guard := none }) (v := .pointer (some ⟨bX, pX + i, none⟩)) rfl (by kernel_rfl) (by kernel_rfl) (by kernel_rfl) (fun _ _ _ h => h) (Or.inl ⟨by rfl, ?hq2_50⟩) (by assumption) ?_
              case hq2_50 => intro w hSw; (try dsimp only at hSw); go_simp; try (intro h; exfalso; omega)
              (try simp only [Act.put, List.setIfInBounds_toArray, List.set_cons_zero, List.set_cons_succ])
              refine wpAnyH_take (i := 3) (oi := { dst := some 41, op := Op.load 44 (Operand.tmp 40), type := 44, pos := "ref.go:229", after := #[{ on := 2, ground := Ground.data }], guard := none }) (v := ?vq3_51) rfl (by kernel_rfl) (by kernel_rfl) (by kernel_rfl) (fun _ _ _ h => h) (Or.inl ⟨by rfl, ?hq3_51⟩) (by assumption) ?_
              case hq3_51 => intro w hSw; (try dsimp only at hSw); go_simp; try (with_reducible rfl)
              (try simp only [Act.put, List.setIfInBounds_toArray, List.set_cons_zero, List.set_cons_succ])
              refine wpAnyH_take (i := 4) (oi := { dst := some 42, op := Op.move (Operand.tmp 6), type := 3, pos := "ref.go:229", after := #[], guard := none }) (v := ?vq4_52) rfl (by kernel_rfl) (by kernel_rfl) (by kernel_rfl) (fun _ _ _ h => h) (Or.inl ⟨by rfl, ?hq4_52⟩) (by assumption) ?_
              case hq4_52 => intro w hSw; (try dsimp only at hSw); go_simp; try (with_reducible rfl)
              (try simp only [Act.put, List.setIfInBounds_toArray, List.set_cons_zero, List.set_cons_succ])
              refine wpAnyH_take (i := 5) (oi := { dst := some 43, op := Op.indexAddr 44 (Operand.tmp 41) (Operand.tmp 42), type := 0, pos := "ref.go:229", after := #[{ on := 3, ground := Ground.data }, { on := 4, ground := Ground.data }], guard := none }) (v := .pointer (some ⟨bU, pU + q, none⟩)) rfl (by kernel_rfl) (by kernel_rfl) (by kernel_rfl) (fun _ _ _ h => h) (Or.inl ⟨by rfl, ?hq5_53⟩) (by assumption) ?_
              case hq5_53 => intro w hSw; (try dsimp only at hSw); go_simp; try (intro h; exfalso; omega)
              (try simp only [Act.put, List.setIfInBounds_toArray, List.set_cons_zero, List.set_cons_succ])
              refine wpAnyH_take (i := 6) (oi := { dst := some 44, op := Op.load 26 (Operand.tmp 43), type := 26, pos := "ref.go:229", after := #[{ on := 5, ground := Ground.data }], guard := none }) (v := ?vq6_54) rfl (by kernel_rfl) (by kernel_rfl) (by kernel_rfl) (fun _ _ _ h => h) (Or.inl ⟨by rfl, ?hq6_54⟩) (by assumption) ?_
              case hq6_54 => intro w hSw; (try dsimp only at hSw); go_simp; try (with_reducible rfl)
              (try simp only [Act.put, List.setIfInBounds_toArray, List.set_cons_zero, List.set_cons_succ])
              refine wpAnyH_take (i := 7) (oi := { dst := some 45, op := Op.call { callee := Callee.builtin Builtin.len, args := #[Operand.tmp 44], argTypes := #[26] }, type := 3, pos := "ref.go:229", after := #[{ on := 6, ground := Ground.data }], guard := none }) (v := ?vq7_55) rfl (by kernel_rfl) (by kernel_rfl) (by kernel_rfl) (fun _ _ _ h => h) (Or.inl ⟨by rfl, ?hq7_55⟩) (by assumption) ?_
              case hq7_55 => intro w hSw; (try dsimp only at hSw); go_simp; try (with_reducible rfl)
              (try simp only [Act.put, List.setIfInBounds_toArray, List.set_cons_zero, List.set_cons_succ])
              refine wpAnyH_take (i := 8) (oi := { dst := some 46, op := Op.move (Operand.tmp 1), type := 31, pos := "ref.go:229", after := #[], guard := none }) (v := ?vq8_56) rfl (by kernel_rfl) (by kernel_rfl) (by kernel_rfl) (fun _ _ _ h => h) (Or.inl ⟨by rfl, ?hq8_56⟩) (by assumption) ?_
              case hq8_56 => intro w hSw; (try dsimp only at hSw); go_simp; try (with_reducible rfl)
              (try simp only [Act.put, List.setIfInBounds_toArray, List.set_cons_zero, List.set_cons_succ])
              refine wpAnyH_take (i := 9) (oi := { dst := some 47, op := Op.move (Operand.tmp 5), type := 3, pos := "ref.go:229", after := #[], guard := none }) (v := ?vq9_57) rfl (by kernel_rfl) (by kernel_rfl) (by kernel_rfl) (fun _ _ _ h => h) (Or.inl ⟨by rfl, ?hq9_57⟩) (by assumption) ?_
              case hq9_57 => intro w hSw; (try dsimp only at hSw); go_simp; try (with_reducible rfl)
              (try simp only [Act.put, List.setIfInBounds_toArray, List.set_cons_zero, List.set_cons_succ])
              refine wpAnyH_take (i := 10) (oi := { dst := some 48, op := Op.indexAddr 31 (Operand.tmp 46) (Operand.tmp 47), type := 0, pos := "ref.go:229", after := #[{ on := 8, ground := Ground.data }, { on := 9, ground := Ground.data }], guard := none }) (v := .pointer (some ⟨bY, pY + i, none⟩)) rfl (by kernel_rfl) (by kernel_rfl) (by kernel_rfl) (fun _ _ _ h => h) (Or.inl ⟨by rfl, ?hq10_58⟩) (by assumption) ?_
              case hq10_58 => intro w hSw; (try dsimp only at hSw); go_simp; try (intro h; exfalso; omega)
              (try simp only [Act.put, List.setIfInBounds_toArray, List.set_cons_zero, List.set_cons_succ])
              refine wpAnyH_take (i := 11) (oi := { dst := some 49, op := Op.load 44 (Operand.tmp 48), type := 44, pos := "ref.go:229", after := #[{ on := 10, ground := Ground.data }], guard := none }) (v := ?vq11_59) rfl (by kernel_rfl) (by kernel_rfl) (by kernel_rfl) (fun _ _ _ h => h) (Or.inl ⟨by rfl, ?hq11_59⟩) (by assumption) ?_
              case hq11_59 => intro w hSw; (try dsimp only at hSw); go_simp; try (with_reducible rfl)
              (try simp only [Act.put, List.setIfInBounds_toArray, List.set_cons_zero, List.set_cons_succ])
              refine wpAnyH_take (i := 12) (oi := { dst := some 50, op := Op.move (Operand.tmp 6), type := 3, pos := "ref.go:229", after := #[], guard := none }) (v := ?vq12_60) rfl (by kernel_rfl) (by kernel_rfl) (by kernel_rfl) (fun _ _ _ h => h) (Or.inl ⟨by rfl, ?hq12_60⟩) (by assumption) ?_
              case hq12_60 => intro w hSw; (try dsimp only at hSw); go_simp; try (with_reducible rfl)
              (try simp only [Act.put, List.setIfInBounds_toArray, List.set_cons_zero, List.set_cons_succ])
              refine wpAnyH_take (i := 13) (oi := { dst := some 51, op := Op.indexAddr 44 (Operand.tmp 49) (Operand.tmp 50), type := 0, pos := "ref.go:229", after := #[{ on := 11, ground := Ground.data }, { on := 12, ground := Ground.data }], guard := none }) (v := .pointer (some ⟨bV, pV + q, none⟩)) rfl (by kernel_rfl) (by kernel_rfl) (by kernel_rfl) (fun _ _ _ h => h) (Or.inl ⟨by rfl, ?hq13_61⟩) (by assumption) ?_
              case hq13_61 => intro w hSw; (try dsimp only at hSw); go_simp; try (intro h; exfalso; omega)
              (try simp only [Act.put, List.setIfInBounds_toArray, List.set_cons_zero, List.set_cons_succ])
              refine wpAnyH_take (i := 14) (oi := { dst := some 52, op := Op.load 26 (Operand.tmp 51), type := 26, pos := "ref.go:229", after := #[{ on := 13, ground := Ground.data }], guard := none }) (v := ?vq14_62) rfl (by kernel_rfl) (by kernel_rfl) (by kernel_rfl) (fun _ _ _ h => h) (Or.inl ⟨by rfl, ?hq14_62⟩) (by assumption) ?_
              case hq14_62 => intro w hSw; (try dsimp only at hSw); go_simp; try (with_reducible rfl)
              (try simp only [Act.put, List.setIfInBounds_toArray, List.set_cons_zero, List.set_cons_succ])
              refine wpAnyH_take (i := 15) (oi := { dst := some 53, op := Op.call { callee := Callee.builtin Builtin.len, args := #[Operand.tmp 52], argTypes := #[26] }, type := 3, pos := "ref.go:229", after := #[{ on := 14, ground := Ground.data }], guard := none }) (v := ?vq15_63) rfl (by kernel_rfl) (by kernel_rfl) (by kernel_rfl) (fun _ _ _ h => h) (Or.inl ⟨by rfl, ?hq15_63⟩) (by assumption) ?_
              case hq15_63 => intro w hSw; (try dsimp only at hSw); go_simp; try (with_reducible rfl)
              (try simp only [Act.put, List.setIfInBounds_toArray, List.set_cons_zero, List.set_cons_succ])
              refine wpAnyH_take (i := 16) (oi := { dst := some 54, op := Op.binOp BinOp.neq 3 (Operand.tmp 45) (Operand.tmp 53) 3, type := 4, pos := "ref.go:229", after := #[{ on := 7, ground := Ground.data }, { on := 15, ground := Ground.data }], guard := none }) (v := .bool false) rfl (by kernel_rfl) (by kernel_rfl) (by kernel_rfl) (fun _ _ _ h => h) (Or.inl ⟨by rfl, ?hq16_64⟩) (by assumption) ?_
              case hq16_64 => intro w hSw; (try dsimp only at hSw); go_simp; try (simp; try omega)
              (try simp only [Act.put, List.setIfInBounds_toArray, List.set_cons_zero, List.set_cons_succ])
              refine wpAnyH_take (i := 17) (oi := { dst := some 55, op := Op.move (Operand.tmp 54), type := 4, pos := "ref.go:229", after := #[{ on := 16, ground := Ground.data }], guard := none }) (v := ?vq17_65) rfl (by kernel_rfl) (by kernel_rfl) (by kernel_rfl) (fun _ _ _ h => h) (Or.inl ⟨by rfl, ?hq17_65⟩) (by assumption) ?_
              case hq17_65 => intro w hSw; (try dsimp only at hSw); go_simp; try (with_reducible rfl)
              (try simp only [Act.put, List.setIfInBounds_toArray, List.set_cons_zero, List.set_cons_succ])
              refine wpAnyH_take (i := 18) (oi := { dst := some 56, op := Op.move (Operand.tmp 0), type := 31, pos := "ref.go:229", after := #[{ on := 17, ground := Ground.guard }], guard := some (17, false) }) (v := ?vq18_66) rfl (by kernel_rfl) (by kernel_rfl) (by kernel_rfl) (fun _ _ _ h => h) (Or.inl ⟨by rfl, ?hq18_66⟩) (by assumption) ?_
              case hq18_66 => intro w hSw; (try dsimp only at hSw); go_simp; try (with_reducible rfl)
              (try simp only [Act.put, List.setIfInBounds_toArray, List.set_cons_zero, List.set_cons_succ])
              refine wpAnyH_take (i := 19) (oi := { dst := some 57, op := Op.move (Operand.tmp 5), type := 3, pos := "ref.go:229", after := #[{ on := 17, ground := Ground.guard }], guard := some (17, false) }) (v := ?vq19_67) rfl (by kernel_rfl) (by kernel_rfl) (by kernel_rfl) (fun _ _ _ h => h) (Or.inl ⟨by rfl, ?hq19_67⟩) (by assumption) ?_
              case hq19_67 => intro w hSw; (try dsimp only at hSw); go_simp; try (with_reducible rfl)
              (try simp only [Act.put, List.setIfInBounds_toArray, List.set_cons_zero, List.set_cons_succ])
              refine wpAnyH_take (i := 20) (oi := { dst := some 58, op := Op.indexAddr 31 (Operand.tmp 56) (Operand.tmp 57), type := 0, pos := "ref.go:229", after := #[{ on := 18, ground := Ground.data }, { on := 19, ground := Ground.data }, { on := 17, ground := Ground.guard }], guard := some (17, false) }) (v := .pointer (some ⟨bX, pX + i, none⟩)) rfl (by kernel_rfl) (by kernel_rfl) (by kernel_rfl) (fun _ _ _ h => h) (Or.inl ⟨by rfl, ?hq20_68⟩) (by assumption) ?_
              case hq20_68 => intro w hSw; (try dsimp only at hSw); go_simp; try (intro h; exfalso; omega)
              (try simp only [Act.put, List.setIfInBounds_toArray, List.set_cons_zero, List.set_cons_succ])
              refine wpAnyH_take (i := 21) (oi := { dst := some 59, op := Op.load 44 (Operand.tmp 58), type := 44, pos := "ref.go:229", after := #[{ on := 20, ground := Ground.data }, { on := 17, ground := Ground.guard }], guard := some (17, false) }) (v := ?vq21_69) rfl (by kernel_rfl) (by kernel_rfl) (by kernel_rfl) (fun _ _ _ h => h) (Or.inl ⟨by rfl, ?hq21_69⟩) (by assumption) ?_
              case hq21_69 => intro w hSw; (try dsimp only at hSw); go_simp; try (with_reducible rfl)
              (try simp only [Act.put, List.setIfInBounds_toArray, List.set_cons_zero, List.set_cons_succ])
              refine wpAnyH_take (i := 22) (oi := { dst := some 60, op := Op.move (Operand.tmp 6), type := 3, pos := "ref.go:229", after := #[{ on := 17, ground := Ground.guard }], guard := some (17, false) }) (v := ?vq22_70) rfl (by kernel_rfl) (by kernel_rfl) (by kernel_rfl) (fun _ _ _ h => h) (Or.inl ⟨by rfl, ?hq22_70⟩) (by assumption) ?_
              case hq22_70 => intro w hSw; (try dsimp only at hSw); go_simp; try (with_reducible rfl)
              (try simp only [Act.put, List.setIfInBounds_toArray, List.set_cons_zero, List.set_cons_succ])
              refine wpAnyH_take (i := 23) (oi := { dst := some 61, op := Op.indexAddr 44 (Operand.tmp 59) (Operand.tmp 60), type := 0, pos := "ref.go:229", after := #[{ on := 21, ground := Ground.data }, { on := 22, ground := Ground.data }, { on := 17, ground := Ground.guard }], guard := some (17, false) }) (v := .pointer (some ⟨bU, pU + q, none⟩)) rfl (by kernel_rfl) (by kernel_rfl) (by kernel_rfl) (fun _ _ _ h => h) (Or.inl ⟨by rfl, ?hq23_71⟩) (by assumption) ?_
              case hq23_71 => intro w hSw; (try dsimp only at hSw); go_simp; try (intro h; exfalso; omega)
              (try simp only [Act.put, List.setIfInBounds_toArray, List.set_cons_zero, List.set_cons_succ])
              refine wpAnyH_take (i := 24) (oi := { dst := some 62, op := Op.load 26 (Operand.tmp 61), type := 26, pos := "ref.go:229", after := #[{ on := 23, ground := Ground.data }, { on := 17, ground := Ground.guard }], guard := some (17, false) }) (v := ?vq24_72) rfl (by kernel_rfl) (by kernel_rfl) (by kernel_rfl) (fun _ _ _ h => h) (Or.inl ⟨by rfl, ?hq24_72⟩) (by assumption) ?_
              case hq24_72 => intro w hSw; (try dsimp only at hSw); go_simp; try (with_reducible rfl)
              (try simp only [Act.put, List.setIfInBounds_toArray, List.set_cons_zero, List.set_cons_succ])
              refine wpAnyH_take (i := 25) (oi := { dst := some 63, op := Op.move (Operand.tmp 1), type := 31, pos := "ref.go:229", after := #[{ on := 17, ground := Ground.guard }], guard := some (17, false) }) (v := ?vq25_73) rfl (by kernel_rfl) (by kernel_rfl) (by kernel_rfl) (fun _ _ _ h => h) (Or.inl ⟨by rfl, ?hq25_73⟩) (by assumption) ?_
              case hq25_73 => intro w hSw; (try dsimp only at hSw); go_simp; try (with_reducible rfl)
              (try simp only [Act.put, List.setIfInBounds_toArray, List.set_cons_zero, List.set_cons_succ])
              refine wpAnyH_take (i := 26) (oi := { dst := some 64, op := Op.move (Operand.tmp 5), type := 3, pos := "ref.go:229", after := #[{ on := 17, ground := Ground.guard }], guard := some (17, false) }) (v := ?vq26_74) rfl (by kernel_rfl) (by kernel_rfl) (by kernel_rfl) (fun _ _ _ h => h) (Or.inl ⟨by rfl, ?hq26_74⟩) (by assumption) ?_
              case hq26_74 => intro w hSw; (try dsimp only at hSw); go_simp; try (with_reducible rfl)
              (try simp only [Act.put, List.setIfInBounds_toArray, List.set_cons_zero, List.set_cons_succ])
              refine wpAnyH_take (i := 27) (oi := { dst := some 65, op := Op.indexAddr 31 (Operand.tmp 63) (Operand.tmp 64), type := 0, pos := "ref.go:229", after := #[{ on := 25, ground := Ground.data }, { on := 26, ground := Ground.data }, { on := 17, ground := Ground.guard }], guard := some (17, false) }) (v := .pointer (some ⟨bY, pY + i, none⟩)) rfl (by kernel_rfl) (by kernel_rfl) (by kernel_rfl) (fun _ _ _ h => h) (Or.inl ⟨by rfl, ?hq27_75⟩) (by assumption) ?_
              case hq27_75 => intro w hSw; (try dsimp only at hSw); go_simp; try (intro h; exfalso; omega)
              (try simp only [Act.put, List.setIfInBounds_toArray, List.set_cons_zero, List.set_cons_succ])
              refine wpAnyH_take (i := 28) (oi := { dst := some 66, op := Op.load 44 (Operand.tmp 65), type := 44, pos := "ref.go:229", after := #[{ on := 27, ground := Ground.data }, { on := 17, ground := Ground.guard }], guard := some (17, false) }) (v := ?vq28_76) rfl (by kernel_rfl) (by kernel_rfl) (by kernel_rfl) (fun _ _ _ h => h) (Or.inl ⟨by rfl, ?hq28_76⟩) (by assumption) ?_
              case hq28_76 => intro w hSw; (try dsimp only at hSw); go_simp; try (with_reducible rfl)
              (try simp only [Act.put, List.setIfInBounds_toArray, List.set_cons_zero, List.set_cons_succ])
              refine wpAnyH_take (i := 29) (oi := { dst := some 67, op := Op.move (Operand.tmp 6), type := 3, pos := "ref.go:229", after := #[{ on := 17, ground := Ground.guard }], guard := some (17, false) }) (v := ?vq29_77) rfl (by kernel_rfl) (by kernel_rfl) (by kernel_rfl) (fun _ _ _ h => h) (Or.inl ⟨by rfl, ?hq29_77⟩) (by assumption) ?_
              case hq29_77 => intro w hSw; (try dsimp only at hSw); go_simp; try (with_reducible rfl)
              (try simp only [Act.put, List.setIfInBounds_toArray, List.set_cons_zero, List.set_cons_succ])
              refine wpAnyH_take (i := 30) (oi := { dst := some 68, op := Op.indexAddr 44 (Operand.tmp 66) (Operand.tmp 67), type := 0, pos := "ref.go:229", after := #[{ on := 28, ground := Ground.data }, { on := 29, ground := Ground.data }, { on := 17, ground := Ground.guard }], guard := some (17, false) }) (v := .pointer (some ⟨bV, pV + q, none⟩)) rfl (by kernel_rfl) (by kernel_rfl) (by kernel_rfl) (fun _ _ _ h => h) (Or.inl ⟨by rfl, ?hq30_78⟩) (by assumption) ?_
              case hq30_78 => intro w hSw; (try dsimp only at hSw); go_simp; try (intro h; exfalso; omega)
              (try simp only [Act.put, List.setIfInBounds_toArray, List.set_cons_zero, List.set_cons_succ])
              refine wpAnyH_take (i := 31) (oi := { dst := some 69, op := Op.load 26 (Operand.tmp 68), type := 26, pos := "ref.go:229", after := #[{ on := 30, ground := Ground.data }, { on := 17, ground := Ground.guard }], guard := some (17, false) }) (v := ?vq31_79) rfl (by kernel_rfl) (by kernel_rfl) (by kernel_rfl) (fun _ _ _ h => h) (Or.inl ⟨by rfl, ?hq31_79⟩) (by assumption) ?_
              case hq31_79 => intro w hSw; (try dsimp only at hSw); go_simp; try (with_reducible rfl)
              (try simp only [Act.put, List.setIfInBounds_toArray, List.set_cons_zero, List.set_cons_succ])
              refine wpAnyH_ready (rs := [32]) (by kernel_rfl) (by simp) ?_
              refine AllReadyH.cons (o := { dst := some 70, op := Op.call { callee := Callee.value (Operand.func 26), args := #[Operand.tmp 62, Operand.tmp 69], argTypes := #[26, 26] }, type := 4, pos := "ref.go:229", after := #[{ on := 24, ground := Ground.data }, { on := 31, ground := Ground.data }, { on := 17, ground := Ground.chain }, { on := 17, ground := Ground.guard }], guard := some (17, false) }) rfl (fun K hK => ?_) AllReadyH.nil
              go_simp
              refine (HSM.out _ (Below.refl _ _).drew).mono ?_
              rintro e w9 ⟨rfl, hb9⟩
              have hb99 : Below wp.heap.size wp w9 := (Below.refl _ _).drew.trans hb9
              refine hK.out _ _ ⟨below_cell hb99 d1, below_cell hb99 d2, below_cell hb99 d3, below_cell hb99 d4⟩ (fun hHeld => ?_)
              clear hK K
              have HB9 := Lib.hid hb99
              clear hb9 hb99
              (try simp only [Act.put, List.setIfInBounds_toArray, List.set_cons_zero, List.set_cons_succ])
              refine wpAnyH_take (i := 33) (oi := { dst := some 71, op := Op.unOp UnOp.not 4 (Operand.tmp 70), type := 4, pos := "ref.go:229", after := #[{ on := 32, ground := Ground.data }, { on := 17, ground := Ground.guard }], guard := some (17, false) }) (v := .bool false) rfl (by kernel_rfl) (by kernel_rfl) (by kernel_rfl) (fun _ _ _ h => h) (Or.inl ⟨by rfl, ?hq33_80⟩) (by assumption) ?_
              case hq33_80 => intro w hSw; (try dsimp only at hSw); go_simp; try (simp; try omega)
              (try simp only [Act.put, List.setIfInBounds_toArray, List.set_cons_zero, List.set_cons_succ])
              refine wpAnyH_take (i := 34) (oi := { dst := some 72, op := Op.pick (Operand.tmp 55) (Operand.const (Value.bool true)) (Operand.tmp 71), type := 4, pos := "ref.go:229", after := #[{ on := 17, ground := Ground.data }, { on := 33, ground := Ground.data }], guard := none }) (v := .bool false) rfl (by kernel_rfl) (by kernel_rfl) (by kernel_rfl) (fun _ _ _ h => h) (Or.inl ⟨by rfl, ?hq34_81⟩) (by assumption) ?_
              case hq34_81 => intro w hSw; (try dsimp only at hSw); go_simp; try (simp; try omega)
              (try simp only [Act.put, List.setIfInBounds_toArray, List.set_cons_zero, List.set_cons_succ])
              refine wpAnyH_done (by kernel_rfl) ?_ _
              have HJ := Lib.hid (show Below w.heap.size w w9 from HQ.out.trans (HB9.out.mono HQ.out.size))
              clear d1 d2 d3 d4
              go_wp2
              go_roundw
              case rel => exact ⟨q + 1, hlq, nxt _, HJ.out⟩
              case measure => exact meas hlq
          · as_aux_lemma =>
              obtain rfl : m = q := (last hq hlq).symm
              have d1 := below_cell hbq HI.out.1
              have HJ := Lib.hid hbq
              clear hbq
              go_wp2
              go_roundw
              case rel => exact ⟨i + 1, hlt, nxt _, HJ.out⟩
              case measure => exact meas hlt
    · as_aux_lemma =>
        obtain rfl : L = i := (last hi hlt).symm
        have HJ := Lib.hid hbr
        clear hbr
        go_wp2
        go_ret
        exact ⟨rfl, HJ.out⟩


/-- A row of changes that is made, of rows that lie in the arguments. -/
def XRow (n0 base : Nat) (w : World) (v : Value) (D : List Chg) (xs : List Value) : Prop :=
  w.ownsRow base 89 4 v D.length xs ∧ ∀ i, i < D.length → xs[i * 4]? = some (.int .i64 (D[i]?.getD default).b) ∧ xs[i * 4 + 1]? = some (.int .i64 (D[i]?.getD default).s) ∧
    (∃ u, xs[i * 4 + 2]? = some u ∧ IRow n0 w u (D[i]?.getD default).gen) ∧ (∃ u, xs[i * 4 + 3]? = some u ∧ IRow n0 w u (D[i]?.getD default).kill)
theorem XRow.nil (n0 base : Nat) (w : World) : XRow n0 base w (.slice none 0 0) [] [] := ⟨World.ownsRow_nil _ _ _ _, fun i hi => absurd hi (Nat.not_lt_zero _)⟩
theorem XRow.snoc {n0 base : Nat} {w w' : World} {v v' : Value} {D : List Chg} {xs : List Value} {c : Chg} {ug uk : Value} (h : XRow n0 base w v D xs) (hn : n0 ≤ base) (hnw : n0 ≤ w.heap.size) (hk : Kep (fun b => v.ownBlock = some b) w w')
    (hown : w'.ownsRow base 89 4 v' (D.length + 1) (xs ++ [.int .i64 c.b, .int .i64 c.s, ug, uk])) (hg : IRow n0 w ug c.gen) (hki : IRow n0 w uk c.kill) :
    XRow n0 base w' v' (D ++ [c]) (xs ++ [.int .i64 c.b, .int .i64 c.s, ug, uk]) := by
  obtain ⟨h1, h2⟩ := h
  have hxl : xs.length = D.length * 4 := h1.1
  have hirow : ∀ (u : Value) (l : List Int), IRow n0 w u l → IRow n0 w' u l := fun u l hu => hu.below (hk.to_below (n := n0) hnw fun k hk1 hv => by
    have := (own_lt h1 hv).2
    omega) (Nat.le_refl _)
  refine ⟨by rw [List.length_append]; exact hown, fun i hi => ?_⟩
  rw [List.length_append, List.length_singleton] at hi
  by_cases e : i < D.length
  · obtain ⟨a1, a2, ⟨u, a3, a4⟩, u', a5, a6⟩ := h2 i e
    rw [List.getElem?_append_left e, List.getElem?_append_left (by omega), List.getElem?_append_left (by omega), List.getElem?_append_left (by omega), List.getElem?_append_left (by omega)]
    exact ⟨a1, a2, ⟨u, a3, hirow _ _ a4⟩, u', a5, hirow _ _ a6⟩
  · obtain rfl : i = D.length := by omega
    rw [List.getElem?_append_right (Nat.le_refl _), Nat.sub_self, List.getElem?_append_right (by omega), List.getElem?_append_right (by omega), List.getElem?_append_right (by omega), List.getElem?_append_right (by omega), hxl, Nat.sub_self, show D.length * 4 + 1 - D.length * 4 = 1 by omega, show D.length * 4 + 2 - D.length * 4 = 2 by omega, show D.length * 4 + 3 - D.length * 4 = 3 by omega]
    exact ⟨rfl, rfl, ⟨ug, rfl, hirow _ _ hg⟩, uk, rfl, hirow _ _ hki⟩
/-- Such a row is one of changes. -/
theorem XRow.crow {n0 base : Nat} {w : World} {v : Value} {D : List Chg} {xs : List Value} (h : XRow n0 base w v D xs) (hn : n0 ≤ w.heap.size) : ∃ oa cap, v = .slice oa D.length cap ∧ CRow w.heap.size w oa D := by
  obtain ⟨h1, h2⟩ := h
  obtain ⟨hxl, h1'⟩ := h1
  rcases h1' with ⟨rfl, h0⟩ | ⟨g, cap, cur, rfl, -, hg, -, -, hcs, hcur⟩
  · exact ⟨none, 0, by rw [h0], fun hl => by omega⟩
  · refine ⟨_, cap, rfl, fun _ => ⟨g, 0, rfl, (Array.getElem?_eq_some_iff.1 hg).1, fun i hi => ?_⟩⟩
    have hb : Bx w g 89 cur.toList := by rw [Bx]; simpa using hg
    have hc : ∀ k, k < D.length * 4 → w.cell? ⟨g, k, none⟩ = xs[k]? := fun k hk => by
      rw [hb.cell, ← hcur, List.getElem?_take_of_lt hk]
    obtain ⟨a1, a2, ⟨u, a3, a4⟩, u', a5, a6⟩ := h2 i hi
    rw [Nat.zero_add, hc _ (by omega), hc _ (by omega), hc _ (by omega), hc _ (by omega)]
    exact ⟨a1, a2, ⟨u, a3, a4.mono hn⟩, u', a5, a6.mono hn⟩
theorem infoRChg : (Try.prog.info? 89).map (fun i => (i.zero, i.size, i.bytes)) = some (some (.agg #[.int .i64 0, .int .i64 0, .slice none 0 0, .slice none 0 0]), 4, 64) := by kernel_rfl

set_option maxRecDepth 100000 in
set_option maxHeartbeats 8000000 in
theorem changes_any (n0 : Nat) (oc : Option Addr) (capC : Nat) (C : List Chg) (w : World) (hC : CRow n0 w oc C) (hC1 : C.length ≤ 1000) (hn0 : n0 ≤ w.heap.size) :
    Calls Try.prog 15 #[.slice oc C.length capC] w fun e w' => ∃ o' c', e = .returned (.slice o' C.length c') ∧ Below w.heap.size w w' ∧ CRow w'.heap.size w' o' C := by
  obtain ⟨kC, hnC⟩ : ∃ k, k = C.length := ⟨_, rfl⟩
  rw [← hnC] at hC1 ⊢
  have HA := Lib.hid (And.intro hC (And.intro hnC hn0))
  clear hC hnC hn0
  obtain ⟨i4, hi4, hz4, hs4, hb4⟩ := info_parts infoRChg
  have HI4 := Lib.hid (And.intro hi4 (And.intro hz4 (And.intro hs4 hb4)))
  clear hi4 hz4 hs4 hb4
  go_enter Try.func15, Try.ntmps15
  go_wp2
  go_loopw [3, 4] (fun um ui wr => ∃ (i : Nat) (xs : List Value), i ≤ kC ∧ ui = .int .i64 i ∧ XRow n0 w.heap.size wr um (C.take i) xs ∧ Below w.heap.size w wr) (fun _ ui _ => kC - (intOf ui).toNat)
  case atStart => exact ⟨0, [], Nat.zero_le _, rfl, by rw [List.take_zero]; exact XRow.nil _ _ _, Below.refl _ _⟩
  case round =>
    obtain ⟨i, xs, hi, rfl, hxr, hbw⟩ := hrel
    obtain ⟨wz, rfl⟩ : ∃ wz : World, wz = wr := ⟨_, rfl⟩
    by_cases hlt : i < kC
    · as_aux_lemma =>
        obtain ⟨hC, hnC, hn0⟩ := HA.out
        obtain ⟨bl, off, rfl, hbl, hrow⟩ := hC (by omega)
        obtain ⟨a1, a2, ⟨v3, a3, hg⟩, v4, a4, hk⟩ := hrow i (by omega)
        obtain ⟨bi, hbi⟩ : ∃ x, x = (C[i]?.getD default).b := ⟨_, rfl⟩
        obtain ⟨si, hsi⟩ : ∃ x, x = (C[i]?.getD default).s := ⟨_, rfl⟩
        obtain ⟨gl, hgl⟩ : ∃ x, x = (C[i]?.getD default).gen := ⟨_, rfl⟩
        obtain ⟨kl, hkl⟩ : ∃ x, x = (C[i]?.getD default).kill := ⟨_, rfl⟩
        rw [← hbi] at a1
        rw [← hsi] at a2
        rw [← hgl] at hg
        rw [← hkl] at hk
        obtain ⟨ng, hng⟩ : ∃ x, x = gl.length := ⟨_, rfl⟩
        obtain ⟨mk, hmk⟩ : ∃ x, x = kl.length := ⟨_, rfl⟩
        obtain ⟨og, cg, hv3, -⟩ := id hg
        obtain ⟨ok, ck, hv4, -⟩ := id hk
        subst hv3 hv4
        rw [← hng] at a3 hg
        rw [← hmk] at a4 hk
        have HAI : Go.RowKit.Hid (∀ W, Below w.heap.size w W → W.cell? ⟨bl, off + i * 4, none⟩ = some (.int .i64 bi) ∧ W.cell? ⟨bl, off + i * 4 + 1, none⟩ = some (.int .i64 si) ∧ W.cell? ⟨bl, off + i * 4 + 2, none⟩ = some (.slice og ng cg) ∧ W.cell? ⟨bl, off + i * 4 + 3, none⟩ = some (.slice ok mk ck)) := Lib.hid (fun W h => ⟨below_cell h a1, below_cell h a2, below_cell h a3, below_cell h a4⟩)
        have HGI := Lib.hid (And.intro hg hk)
        have HE := Lib.hid (And.intro hbi (And.intro hsi (And.intro hgl (And.intro hkl (And.intro hnC hn0)))))
        have hSS := HAI.out wz hbw
        have HTZ : Go.RowKit.Hid (XRow n0 w.heap.size wz u3 (C.take i) xs ∧ wz.ownsRow w.heap.size 89 4 u3 i xs) := Lib.hid (by
          have h2 := hxr.1
          rw [List.length_take, show min i C.length = i by omega] at h2
          exact ⟨hxr, h2⟩)
        have HZ := Lib.hid (And.intro hn0 hbw)
        clear hC hnC hn0 hbl hrow hbi hsi hgl hkl hng hmk hg hk a1 a2 a3 a4 hxr hbw
        go_upto_region 5 with fail
        refine wp_region_held_drew (S := (fun w' => w'.cell? ⟨bl, off + i * 4, none⟩ = some (.int .i64 bi) ∧ w'.cell? ⟨bl, off + i * 4 + 1, none⟩ = some (.int .i64 si) ∧ w'.cell? ⟨bl, off + i * 4 + 2, none⟩ = some (.slice og ng cg) ∧ w'.cell? ⟨bl, off + i * 4 + 3, none⟩ = some (.slice ok mk ck))) (by kernel_rfl) ?_ (fun hHeld => ?_)
        · exact hSS
        obtain ⟨Ud, hUd⟩ : ∃ Ud, Ud = wz.drew := ⟨_, rfl⟩
        rw [← hUd]
        have HUD := Lib.hid hUd
        have hSd : Ud.cell? ⟨bl, off + i * 4, none⟩ = some (.int .i64 bi) ∧ Ud.cell? ⟨bl, off + i * 4 + 1, none⟩ = some (.int .i64 si) ∧ Ud.cell? ⟨bl, off + i * 4 + 2, none⟩ = some (.slice og ng cg) ∧ Ud.cell? ⟨bl, off + i * 4 + 3, none⟩ = some (.slice ok mk ck) := by rw [hUd]; exact hSS
        clear hUd
        refine wpAnyH_take (i := 0) (oi := { dst := some 11, op := Op.move (Operand.tmp 3), type := 34, pos := "law.go:46", after := #[], guard := none }) (v := ?vq0_1) rfl (by kernel_rfl) (by kernel_rfl) (by kernel_rfl) (fun _ _ _ h => h) (Or.inl ⟨by rfl, ?hq0_1⟩) (by assumption) ?_
        case hq0_1 => intro w hSw; (try dsimp only at hSw); go_simp; try (with_reducible rfl)
        (try simp only [Act.put, List.setIfInBounds_toArray, List.set_cons_zero, List.set_cons_succ])
        refine wpAnyH_take (i := 1) (oi := { dst := some 12, op := Op.move (Operand.tmp 0), type := 27, pos := "law.go:46", after := #[], guard := none }) (v := ?vq1_2) rfl (by kernel_rfl) (by kernel_rfl) (by kernel_rfl) (fun _ _ _ h => h) (Or.inl ⟨by rfl, ?hq1_2⟩) (by assumption) ?_
        case hq1_2 => intro w hSw; (try dsimp only at hSw); go_simp; try (with_reducible rfl)
        (try simp only [Act.put, List.setIfInBounds_toArray, List.set_cons_zero, List.set_cons_succ])
        refine wpAnyH_take (i := 2) (oi := { dst := some 13, op := Op.move (Operand.tmp 4), type := 3, pos := "law.go:46", after := #[], guard := none }) (v := ?vq2_3) rfl (by kernel_rfl) (by kernel_rfl) (by kernel_rfl) (fun _ _ _ h => h) (Or.inl ⟨by rfl, ?hq2_3⟩) (by assumption) ?_
        case hq2_3 => intro w hSw; (try dsimp only at hSw); go_simp; try (with_reducible rfl)
        (try simp only [Act.put, List.setIfInBounds_toArray, List.set_cons_zero, List.set_cons_succ])
        refine wpAnyH_take (i := 3) (oi := { dst := some 14, op := Op.indexAddr 27 (Operand.tmp 12) (Operand.tmp 13), type := 0, pos := "law.go:46", after := #[{ on := 1, ground := Ground.data }, { on := 2, ground := Ground.data }], guard := none }) (v := .pointer (some ⟨bl, off + i * 4, none⟩)) rfl (by kernel_rfl) (by kernel_rfl) (by kernel_rfl) (fun _ _ _ h => h) (Or.inl ⟨by rfl, ?hq3_4⟩) (by assumption) ?_
        case hq3_4 => intro w hSw; (try dsimp only at hSw); go_simp; try (intro h; exfalso; omega)
        (try simp only [Act.put, List.setIfInBounds_toArray, List.set_cons_zero, List.set_cons_succ])
        refine wpAnyH_take (i := 4) (oi := { dst := some 15, op := Op.fieldAddr 66 (Operand.tmp 14) 0, type := 0, pos := "law.go:46", after := #[{ on := 3, ground := Ground.data }], guard := none }) (v := .pointer (some ⟨bl, off + i * 4, none⟩)) rfl (by kernel_rfl) (by kernel_rfl) (by kernel_rfl) (fun _ _ _ h => h) (Or.inl ⟨by rfl, ?hq4_5⟩) (by assumption) ?_
        case hq4_5 => intro w hSw; (try dsimp only at hSw); go_simp; try (intro h; exfalso; omega)
        (try simp only [Act.put, List.setIfInBounds_toArray, List.set_cons_zero, List.set_cons_succ])
        refine wpAnyH_take (i := 5) (oi := { dst := some 16, op := Op.load 3 (Operand.tmp 15), type := 3, pos := "law.go:46", after := #[{ on := 4, ground := Ground.data }], guard := none }) (v := ?vq5_6) rfl (by kernel_rfl) (by kernel_rfl) (by kernel_rfl) (fun _ _ _ h => h) (Or.inl ⟨by rfl, ?hq5_6⟩) (by assumption) ?_
        case hq5_6 => intro w hSw; (try dsimp only at hSw); go_simp; try (with_reducible rfl)
        (try simp only [Act.put, List.setIfInBounds_toArray, List.set_cons_zero, List.set_cons_succ])
        refine wpAnyH_take (i := 6) (oi := { dst := some 17, op := Op.move (Operand.tmp 0), type := 27, pos := "law.go:46", after := #[], guard := none }) (v := ?vq6_7) rfl (by kernel_rfl) (by kernel_rfl) (by kernel_rfl) (fun _ _ _ h => h) (Or.inl ⟨by rfl, ?hq6_7⟩) (by assumption) ?_
        case hq6_7 => intro w hSw; (try dsimp only at hSw); go_simp; try (with_reducible rfl)
        (try simp only [Act.put, List.setIfInBounds_toArray, List.set_cons_zero, List.set_cons_succ])
        refine wpAnyH_take (i := 7) (oi := { dst := some 18, op := Op.move (Operand.tmp 4), type := 3, pos := "law.go:46", after := #[], guard := none }) (v := ?vq7_8) rfl (by kernel_rfl) (by kernel_rfl) (by kernel_rfl) (fun _ _ _ h => h) (Or.inl ⟨by rfl, ?hq7_8⟩) (by assumption) ?_
        case hq7_8 => intro w hSw; (try dsimp only at hSw); go_simp; try (with_reducible rfl)
        (try simp only [Act.put, List.setIfInBounds_toArray, List.set_cons_zero, List.set_cons_succ])
        refine wpAnyH_take (i := 8) (oi := { dst := some 19, op := Op.indexAddr 27 (Operand.tmp 17) (Operand.tmp 18), type := 0, pos := "law.go:46", after := #[{ on := 6, ground := Ground.data }, { on := 7, ground := Ground.data }], guard := none }) (v := .pointer (some ⟨bl, off + i * 4, none⟩)) rfl (by kernel_rfl) (by kernel_rfl) (by kernel_rfl) (fun _ _ _ h => h) (Or.inl ⟨by rfl, ?hq8_9⟩) (by assumption) ?_
        case hq8_9 => intro w hSw; (try dsimp only at hSw); go_simp; try (intro h; exfalso; omega)
        (try simp only [Act.put, List.setIfInBounds_toArray, List.set_cons_zero, List.set_cons_succ])
        refine wpAnyH_take (i := 9) (oi := { dst := some 20, op := Op.fieldAddr 66 (Operand.tmp 19) 1, type := 0, pos := "law.go:46", after := #[{ on := 8, ground := Ground.data }], guard := none }) (v := .pointer (some ⟨bl, off + i * 4 + 1, none⟩)) rfl (by kernel_rfl) (by kernel_rfl) (by kernel_rfl) (fun _ _ _ h => h) (Or.inl ⟨by rfl, ?hq9_10⟩) (by assumption) ?_
        case hq9_10 => intro w hSw; (try dsimp only at hSw); go_simp; try (intro h; exfalso; omega)
        (try simp only [Act.put, List.setIfInBounds_toArray, List.set_cons_zero, List.set_cons_succ])
        refine wpAnyH_take (i := 10) (oi := { dst := some 21, op := Op.load 3 (Operand.tmp 20), type := 3, pos := "law.go:46", after := #[{ on := 9, ground := Ground.data }], guard := none }) (v := ?vq10_11) rfl (by kernel_rfl) (by kernel_rfl) (by kernel_rfl) (fun _ _ _ h => h) (Or.inl ⟨by rfl, ?hq10_11⟩) (by assumption) ?_
        case hq10_11 => intro w hSw; (try dsimp only at hSw); go_simp; try (with_reducible rfl)
        (try simp only [Act.put, List.setIfInBounds_toArray, List.set_cons_zero, List.set_cons_succ])
        refine wpAnyH_take (i := 11) (oi := { dst := some 22, op := Op.move (Operand.tmp 0), type := 27, pos := "law.go:46", after := #[], guard := none }) (v := ?vq11_12) rfl (by kernel_rfl) (by kernel_rfl) (by kernel_rfl) (fun _ _ _ h => h) (Or.inl ⟨by rfl, ?hq11_12⟩) (by assumption) ?_
        case hq11_12 => intro w hSw; (try dsimp only at hSw); go_simp; try (with_reducible rfl)
        (try simp only [Act.put, List.setIfInBounds_toArray, List.set_cons_zero, List.set_cons_succ])
        refine wpAnyH_take (i := 12) (oi := { dst := some 23, op := Op.move (Operand.tmp 4), type := 3, pos := "law.go:46", after := #[], guard := none }) (v := ?vq12_13) rfl (by kernel_rfl) (by kernel_rfl) (by kernel_rfl) (fun _ _ _ h => h) (Or.inl ⟨by rfl, ?hq12_13⟩) (by assumption) ?_
        case hq12_13 => intro w hSw; (try dsimp only at hSw); go_simp; try (with_reducible rfl)
        (try simp only [Act.put, List.setIfInBounds_toArray, List.set_cons_zero, List.set_cons_succ])
        refine wpAnyH_take (i := 13) (oi := { dst := some 24, op := Op.indexAddr 27 (Operand.tmp 22) (Operand.tmp 23), type := 0, pos := "law.go:46", after := #[{ on := 11, ground := Ground.data }, { on := 12, ground := Ground.data }], guard := none }) (v := .pointer (some ⟨bl, off + i * 4, none⟩)) rfl (by kernel_rfl) (by kernel_rfl) (by kernel_rfl) (fun _ _ _ h => h) (Or.inl ⟨by rfl, ?hq13_14⟩) (by assumption) ?_
        case hq13_14 => intro w hSw; (try dsimp only at hSw); go_simp; try (intro h; exfalso; omega)
        (try simp only [Act.put, List.setIfInBounds_toArray, List.set_cons_zero, List.set_cons_succ])
        refine wpAnyH_take (i := 14) (oi := { dst := some 25, op := Op.fieldAddr 66 (Operand.tmp 24) 2, type := 0, pos := "law.go:46", after := #[{ on := 13, ground := Ground.data }], guard := none }) (v := .pointer (some ⟨bl, off + i * 4 + 2, none⟩)) rfl (by kernel_rfl) (by kernel_rfl) (by kernel_rfl) (fun _ _ _ h => h) (Or.inl ⟨by rfl, ?hq14_15⟩) (by assumption) ?_
        case hq14_15 => intro w hSw; (try dsimp only at hSw); go_simp; try (intro h; exfalso; omega)
        (try simp only [Act.put, List.setIfInBounds_toArray, List.set_cons_zero, List.set_cons_succ])
        refine wpAnyH_take (i := 15) (oi := { dst := some 26, op := Op.load 42 (Operand.tmp 25), type := 42, pos := "law.go:46", after := #[{ on := 14, ground := Ground.data }], guard := none }) (v := ?vq15_16) rfl (by kernel_rfl) (by kernel_rfl) (by kernel_rfl) (fun _ _ _ h => h) (Or.inl ⟨by rfl, ?hq15_16⟩) (by assumption) ?_
        case hq15_16 => intro w hSw; (try dsimp only at hSw); go_simp; try (with_reducible rfl)
        (try simp only [Act.put, List.setIfInBounds_toArray, List.set_cons_zero, List.set_cons_succ])
        refine wpAnyH_take (i := 16) (oi := { dst := some 27, op := Op.move (Operand.tmp 0), type := 27, pos := "law.go:46", after := #[], guard := none }) (v := ?vq16_17) rfl (by kernel_rfl) (by kernel_rfl) (by kernel_rfl) (fun _ _ _ h => h) (Or.inl ⟨by rfl, ?hq16_17⟩) (by assumption) ?_
        case hq16_17 => intro w hSw; (try dsimp only at hSw); go_simp; try (with_reducible rfl)
        (try simp only [Act.put, List.setIfInBounds_toArray, List.set_cons_zero, List.set_cons_succ])
        refine wpAnyH_take (i := 17) (oi := { dst := some 28, op := Op.move (Operand.tmp 4), type := 3, pos := "law.go:46", after := #[], guard := none }) (v := ?vq17_18) rfl (by kernel_rfl) (by kernel_rfl) (by kernel_rfl) (fun _ _ _ h => h) (Or.inl ⟨by rfl, ?hq17_18⟩) (by assumption) ?_
        case hq17_18 => intro w hSw; (try dsimp only at hSw); go_simp; try (with_reducible rfl)
        (try simp only [Act.put, List.setIfInBounds_toArray, List.set_cons_zero, List.set_cons_succ])
        refine wpAnyH_take (i := 18) (oi := { dst := some 29, op := Op.indexAddr 27 (Operand.tmp 27) (Operand.tmp 28), type := 0, pos := "law.go:46", after := #[{ on := 16, ground := Ground.data }, { on := 17, ground := Ground.data }], guard := none }) (v := .pointer (some ⟨bl, off + i * 4, none⟩)) rfl (by kernel_rfl) (by kernel_rfl) (by kernel_rfl) (fun _ _ _ h => h) (Or.inl ⟨by rfl, ?hq18_19⟩) (by assumption) ?_
        case hq18_19 => intro w hSw; (try dsimp only at hSw); go_simp; try (intro h; exfalso; omega)
        (try simp only [Act.put, List.setIfInBounds_toArray, List.set_cons_zero, List.set_cons_succ])
        refine wpAnyH_take (i := 19) (oi := { dst := some 30, op := Op.fieldAddr 66 (Operand.tmp 29) 3, type := 0, pos := "law.go:46", after := #[{ on := 18, ground := Ground.data }], guard := none }) (v := .pointer (some ⟨bl, off + i * 4 + 3, none⟩)) rfl (by kernel_rfl) (by kernel_rfl) (by kernel_rfl) (fun _ _ _ h => h) (Or.inl ⟨by rfl, ?hq19_20⟩) (by assumption) ?_
        case hq19_20 => intro w hSw; (try dsimp only at hSw); go_simp; try (intro h; exfalso; omega)
        (try simp only [Act.put, List.setIfInBounds_toArray, List.set_cons_zero, List.set_cons_succ])
        refine wpAnyH_take (i := 20) (oi := { dst := some 31, op := Op.load 42 (Operand.tmp 30), type := 42, pos := "law.go:46", after := #[{ on := 19, ground := Ground.data }], guard := none }) (v := ?vq20_21) rfl (by kernel_rfl) (by kernel_rfl) (by kernel_rfl) (fun _ _ _ h => h) (Or.inl ⟨by rfl, ?hq20_21⟩) (by assumption) ?_
        case hq20_21 => intro w hSw; (try dsimp only at hSw); go_simp; try (with_reducible rfl)
        (try simp only [Act.put, List.setIfInBounds_toArray, List.set_cons_zero, List.set_cons_succ])
        refine wpAnyH_take (i := 21) (oi := { dst := some 32, op := Op.build 89 #[(0, Operand.tmp 16), (1, Operand.tmp 21), (2, Operand.tmp 26), (3, Operand.tmp 31)], type := 89, pos := "law.go:46", after := #[{ on := 5, ground := Ground.data }, { on := 10, ground := Ground.data }, { on := 15, ground := Ground.data }, { on := 20, ground := Ground.data }], guard := none }) (v := ?vq21_22) rfl (by kernel_rfl) (by kernel_rfl) (by kernel_rfl) (fun _ _ _ h => h) (Or.inl ⟨by rfl, ?hq21_22⟩) (by assumption) ?_
        case hq21_22 => intro w hSw; (try dsimp only at hSw); go_simp; try (with_reducible rfl)
        (try simp only [Act.put, List.setIfInBounds_toArray, List.set_cons_zero, List.set_cons_succ])
        refine wpAnyH_ready (rs := [22]) (by kernel_rfl) (by simp) ?_
        refine AllReadyH.cons (o := { dst := some 33, op := Op.buildSlice 34 1 #[(0, Operand.tmp 32)], type := 34, pos := "law.go:46", after := #[{ on := 21, ground := Ground.data }], guard := none }) rfl (fun K hK => ?_) AllReadyH.nil
        go_simp
        obtain ⟨Wa, hWa⟩ : ∃ Wa, Wa = Ud.alloc (.cells #[.int .i64 bi, .int .i64 si, .slice og ng cg, .slice ok mk ck] 89) := ⟨_, rfl⟩
        rw [← hWa]
        obtain ⟨ua, hua⟩ : ∃ ua, ua = Ud.heap.size := ⟨_, rfl⟩
        rw [← hua]
        have HWA := Lib.hid (And.intro hWa hua)
        have HBa : Go.RowKit.Hid (Below w.heap.size w Wa) := Lib.hid (by
          rw [hWa, HUD.out]
          have h1 := HZ.out.2
          exact h1.drew.alloc h1.size _)
        clear hWa hua
        refine hK.out _ _ (HAI.out Wa HBa.out) (fun hHeld => ?_)
        clear hK K
        (try simp only [Act.put, List.setIfInBounds_toArray, List.set_cons_zero, List.set_cons_succ])
        refine wpAnyH_ready (rs := [23]) (by kernel_rfl) (by simp) ?_
        refine AllReadyH.cons (o := { dst := some 34, op := Op.call { callee := Callee.builtin Builtin.append, args := #[Operand.tmp 11, Operand.tmp 33], argTypes := #[34, 34] }, type := 34, pos := "law.go:46", after := #[{ on := 0, ground := Ground.data }, { on := 22, ground := Ground.data }], guard := none }) rfl (fun K hK => ?_) AllReadyH.nil
        refine op_append_own_at (.tmp 11) (.tmp 33) 34 rfl w.heap.size 89 i4 _ 4 64 Try.underlying34 HI4.out.1 HI4.out.2.1 HI4.out.2.2.1 HI4.out.2.2.2 rfl (by decide) u3 i xs rfl (by rw [HWA.out.1, HUD.out]; exact (show World.ownsRow _ _ _ _ _ _ _ from HTZ.out.2).alloc _) ⟨ua, 0, none⟩ 1 1 [.int .i64 bi, .int .i64 si, .slice og ng cg, .slice ok mk ck] rfl rfl (by rw [HWA.out.1, HWA.out.2]; exact new_cells _ [.int .i64 bi, .int .i64 si, .slice og ng cg, .slice ok mk ck] _) (fun u hu => by simp at hu; rcases hu with rfl | rfl | rfl | rfl <;> rfl) (by unfold maxLen; omega) (by omega) HBa.out.size ?_
        intro v' w6 hown hg hnil hat
        have H6 : Go.RowKit.Hid (w6.ownsRow w.heap.size 89 4 v' (i + 1) (xs ++ [.int .i64 bi, .int .i64 si, .slice og ng cg, .slice ok mk ck]) ∧ Kep (fun b => u3.ownBlock = some b) wz w6 ∧ Below w.heap.size w w6) := Lib.hid (by
          have hlow : ∀ k, u3.ownBlock = some k → w.heap.size ≤ k := fun k hk => (own_lt HTZ.out.2 hk).2
          have hk : Kep (fun b => u3.ownBlock = some b) wz Wa := by
            rw [HWA.out.1, HUD.out]
            exact (Kep.refl _ _).drew.alloc _
          exact ⟨hown, hk.grown hg (fun q hq => .inr hq), HBa.out.grown hg HBa.out.size (fun q hq => hlow q hq)⟩)
        clear hown hg hnil hat
        refine hK.out _ _ (HAI.out w6 H6.out.2.2) (fun hHeld => ?_)
        clear hK K
        (try simp only [Act.put, List.setIfInBounds_toArray, List.set_cons_zero, List.set_cons_succ])
        refine wpAnyH_take (i := 24) (oi := { dst := some 3, op := Op.assign (Operand.tmp 34), type := 34, pos := "law.go:46", after := #[{ on := 23, ground := Ground.data }, { on := 23, ground := Ground.chain }, { on := 0, ground := Ground.phase }, { on := 1, ground := Ground.phase }, { on := 2, ground := Ground.phase }, { on := 3, ground := Ground.phase }, { on := 4, ground := Ground.phase }, { on := 5, ground := Ground.phase }, { on := 6, ground := Ground.phase }, { on := 7, ground := Ground.phase }, { on := 8, ground := Ground.phase }, { on := 9, ground := Ground.phase }, { on := 10, ground := Ground.phase }, { on := 11, ground := Ground.phase }, { on := 12, ground := Ground.phase }, { on := 13, ground := Ground.phase }, { on := 14, ground := Ground.phase }, { on := 15, ground := Ground.phase }, { on := 16, ground := Ground.phase }, { on := 17, ground := Ground.phase }, { on := 18, ground := Ground.phase }, { on := 19, ground := Ground.phase }, { on := 20, ground := Ground.phase }, { on := 21, ground := Ground.phase }, { on := 22, ground := Ground.phase }, { on := 23, ground := Ground.phase }], guard := none }) (v := ?vq24_23) rfl (by kernel_rfl) (by kernel_rfl) (by kernel_rfl) (fun _ _ _ h => h) (Or.inl ⟨by rfl, ?hq24_23⟩) (by assumption) ?_
        case hq24_23 => intro w hSw; (try dsimp only at hSw); go_simp; try (with_reducible rfl)
        (try simp only [Act.put, List.setIfInBounds_toArray, List.set_cons_zero, List.set_cons_succ])
        refine wpAnyH_done (by kernel_rfl) ?_ _
        clear hSS
        go_wp2
        go_roundw
        case rel =>
          obtain ⟨hown, hkp, hb6⟩ := H6.out
          obtain ⟨hbi, hsi, hgl, hkl, hnC, hn0⟩ := HE.out
          refine ⟨i + 1, xs ++ [.int .i64 bi, .int .i64 si, .slice og ng cg, .slice ok mk ck], hlt, nxt _, ?_, hb6⟩
          have hl : (C.take i).length = i := by
            rw [List.length_take]
            omega
          rw [take_snoc (by omega)]
          have e : C[i]?.getD default = ⟨bi, si, gl, kl⟩ := by rw [hbi, hsi, hgl, hkl]
          rw [e]
          have hbz := HZ.out.2
          exact HTZ.out.1.snoc (c := ⟨bi, si, gl, kl⟩) hn0 (Nat.le_trans hn0 hbz.size) hkp (by rw [hl]; exact hown) (HGI.out.1.below hbz hn0) (HGI.out.2.below hbz hn0)
        case measure => exact meas hlt
    · as_aux_lemma =>
        obtain rfl : kC = i := (last hi hlt).symm
        have HI := Lib.hid (And.intro hxr hbw)
        clear hxr hbw
        go_wp2
        go_ret
        obtain ⟨hxr, hbw⟩ := HI.out
        obtain ⟨-, hnC, hn0⟩ := HA.out
        rw [hnC, List.take_length] at hxr
        obtain ⟨oM, cM, hv, hcr⟩ := hxr.crow (Nat.le_trans hn0 hbw.size)
        rw [← hnC] at hv
        subst hv
        exact ⟨oM, cM, rfl, hbw, hcr⟩


/-- How many are still as they were at first. -/
def unm (e : Bool) (r : List Bool) : Nat := r.countP (· == e)
def unmR (e : Bool) (A : List (List Bool)) : Nat := (A.map (unm e)).sum
theorem unm_le (e : Bool) : ∀ a b : List Bool, a.length = b.length → (∀ j : Nat, j < a.length → a[j]?.getD false = (!e) → b[j]?.getD false = (!e)) → unm e b ≤ unm e a ∧ (a ≠ b → unm e b < unm e a)
  | [], [], _, _ => ⟨Nat.le_refl _, fun h => absurd rfl h⟩
  | x :: a, y :: b, hl, h => by
    have hl' : a.length = b.length := by simpa using hl
    obtain ⟨h1, h2⟩ := unm_le e a b hl' fun j hj hv => by
      have := h (j + 1) (by simpa using hj)
      simp only [List.getElem?_cons_succ] at this
      exact this hv
    have h0 := h 0 (by simp)
    simp only [List.getElem?_cons_zero, Option.getD_some] at h0
    have e1 : ∀ (z : Bool) (l : List Bool), unm e (z :: l) = unm e l + if z = e then 1 else 0 := fun z l => by
      simp only [unm, List.countP_cons, beq_iff_eq]
    rw [e1, e1]
    by_cases hx : x = e
    · rw [if_pos hx]
      by_cases hy : y = e
      · rw [if_pos hy]
        refine ⟨by omega, fun hne => ?_⟩
        have : a ≠ b := fun e' => hne (by rw [hx, hy, e'])
        have := h2 this
        omega
      · rw [if_neg hy]
        exact ⟨by omega, fun _ => by omega⟩
    · have hx' : x = !e := by cases x <;> cases e <;> simp_all
      have hy' : y = !e := h0 hx'
      have hy : ¬ y = e := by rw [hy']; cases e <;> simp
      rw [if_neg hx, if_neg hy]
      refine ⟨by omega, fun hne => ?_⟩
      have : a ≠ b := fun e' => hne (by rw [hx', hy', e'])
      have := h2 this
      omega
theorem sum_set : ∀ (l : List Nat) (i x : Nat), i < l.length → (l.set i x).sum + l[i]?.getD 0 = l.sum + x
  | [], i, x, h => absurd h (by simp)
  | y :: l, 0, x, _ => by simp; omega
  | y :: l, i + 1, x, h => by
    have := sum_set l i x (by simpa using h)
    simp only [List.set_cons_succ, List.sum_cons, List.getElem?_cons_succ]
    omega
theorem unmR_set (e : Bool) (A : List (List Bool)) (i : Nat) (r : List Bool) (h : i < A.length) : unmR e (A.set i r) + unm e (A[i]?.getD []) = unmR e A + unm e r := by
  have := sum_set (A.map (unm e)) i (unm e r) (by simpa using h)
  unfold unmR
  rw [List.map_set]
  rw [List.getElem?_map, List.getElem?_eq_getElem h] at this
  rw [List.getElem?_eq_getElem h]
  exact this
theorem set_getD {α : Type} {A : List (List α)} {i k : Nat} {r : List α} (h : i < A.length) : (A.set i r)[k]?.getD [] = if i = k then r else A[k]?.getD [] := by
  by_cases e : i = k
  · subst e
    rw [List.getElem?_set_self h, if_pos rfl]
    rfl
  · rw [List.getElem?_set_ne e, if_neg e]

section
variable {g : Gb} {n : Nat} {C : List Chg} {st : List Bool} {every : Bool} {A O : List (List Bool)}
abbrev rowA (A : List (List Bool)) (i : Nat) : List Bool := A[i]?.getD []
abbrev vA (A : List (List Bool)) (i j : Nat) : Bool := (rowA A i)[j]?.getD false
abbrev runF (g : Gb) (n : Nat) (C : List Chg) (i : Nat) (r : List Bool) : List Bool := runB g n C i (alongL false (insR g i)) r
abbrev lvF (g : Gb) (n : Nat) (C : List Chg) (every : Bool) (j i : Nat) (b : Bool) : Bool := lvS (allF g n C false false) (allF g n C false true) (!every) j i b
theorem run_lv {i j : Nat} {r : List Bool} (hr : r.length = n) (hj : j < n) (so : Bool) : ((runF g n C i r)[j]?.getD false == so) = lvS (allF g n C false false) (allF g n C false true) so j i (r[j]?.getD false == so) := by
  unfold lvS allF
  rcases runB_flag g n C i j hj (alongL false (insR g i)) with ⟨v, hv⟩ | hv
  · rw [runF, hv _ hr, hv _ (by simp), hv _ (by simp)]
    cases so <;> simp
  · rw [runF, hv _ hr, hv _ (by simp), hv _ (by simp)]
    simp only [List.getElem?_replicate, hj, if_true, Option.getD_some]
    cases so <;> cases hz : r[j]?.getD false <;> simp [hz]
/-- What comes to a block. -/
def NwP (g : Gb) (n : Nat) (st : List Bool) (every : Bool) (O : List (List Bool)) (i j : Nat) : Prop :=
  (if i = 0 then iniF st n else List.replicate n every)[j]?.getD false = (!every) ∨ ∃ p, Rch g p ∧ i ∈ tos g p ∧ vA O p j = (!every)
def NwAt (g : Gb) (n : Nat) (st : List Bool) (every : Bool) (O : List (List Bool)) (i : Nat) (now : List Bool) : Prop :=
  now.length = n ∧ ∀ j, j < n → (now[j]?.getD false = (!every) ↔ NwP g n st every O i j)
/-- What stays so from round to round. -/
structure FxI (g : Gb) (n : Nat) (C : List Chg) (st : List Bool) (every : Bool) (A O : List (List Bool)) : Prop where
  la : A.length = g.length
  lo : O.length = g.length
  ra : ∀ i, i < g.length → (rowA A i).length = n
  ro : ∀ i, i < g.length → (rowA O i).length = n
  sa : ∀ i j, Rch g i → j < n → vA A i j = (!every) → SpZ g n C st every j i
  so : ∀ i j, Rch g i → j < n → vA O i j = (!every) → lvF g n C every j i (vA A i j == !every) = true
  sn : ∀ i j, Rch g i → j < n → vA A i j = (!every) → NwP g n st every O i j
theorem lv_mono {i j : Nat} (h : lvF g n C every j i false = true) : lvF g n C every j i true = true := all_mono_any g n C false (!every) j i h
theorem lv_le {i j : Nat} {a b : Bool} (h : lvF g n C every j i a = true) (hab : a = true → b = true) : lvF g n C every j i b = true := by
  cases a with
  | true => rw [hab rfl]; exact h
  | false =>
    cases b with
    | true => exact lv_mono h
    | false => exact h
theorem FxI.nw (h : FxI g n C st every A O) {i j : Nat} (hi : Rch g i) (hj : j < n) (hn : NwP g n st every O i j) : SpZ g n C st every j i := by
  rcases hn with hb | ⟨p, hp, ht, hv⟩
  · exact .base hi (by simp only [beq_iff_eq]; exact hb)
  · have hl := h.so p j hp hj hv
    cases hz : (vA A p j == !every) with
    | false =>
      rw [hz] at hl
      exact .all hp hl ht
    | true =>
      rw [hz] at hl
      exact .pass hp (h.sa p j hp hj (by simpa using hz)) hl ht
theorem NwP.mono {O O' : List (List Bool)} {i j : Nat} (h : NwP g n st every O i j) (hO : ∀ p, Rch g p → vA O p j = (!every) → vA O' p j = (!every)) : NwP g n st every O' i j := by
  rcases h with h | ⟨p, h1, h2, h3⟩
  · exact .inl h
  · exact .inr ⟨p, h1, h2, hO p h1 h3⟩
/-- Looking at one block. -/
theorem FxI.up (h : FxI g n C st every A O) {i : Nat} (hi : Rch g i) {now : List Bool} (hn : NwAt g n st every O i now) :
    (∀ j, j < n → vA A i j = (!every) → now[j]?.getD false = (!every)) ∧ (∀ j, j < n → vA O i j = (!every) → (runF g n C i now)[j]?.getD false = (!every)) := by
  have h1 : ∀ j, j < n → vA A i j = (!every) → now[j]?.getD false = (!every) := fun j hj hv => (hn.2 j hj).2 (h.sn i j hi hj hv)
  refine ⟨h1, fun j hj hv => ?_⟩
  have h2 := lv_le (h.so i j hi hj hv) (b := (now[j]?.getD false == !every)) fun e => by
    simp only [beq_iff_eq] at e ⊢
    exact h1 j hj e
  have h3 := run_lv (g := g) (C := C) (i := i) hn.1 hj (!every)
  rw [show lvS (allF g n C false false) (allF g n C false true) (!every) j i (now[j]?.getD false == !every) = true from h2] at h3
  simpa using h3
theorem FxI.step (h : FxI g n C st every A O) {i : Nat} (hi : Rch g i) {now : List Bool} (hn : NwAt g n st every O i now) : FxI g n C st every (A.set i now) (O.set i (runF g n C i now)) := by
  have hil := rch_lt hi
  have hiA : i < A.length := by rw [h.la]; exact hil
  have hiO : i < O.length := by rw [h.lo]; exact hil
  have hlen : (runF g n C i now).length = n := by rw [runF, runB_len, hn.1]
  obtain ⟨u1, u2⟩ := h.up hi hn
  have hO : ∀ j, j < n → ∀ p, Rch g p → vA O p j = (!every) → vA (O.set i (runF g n C i now)) p j = (!every) := fun j hj p hp hv => by
    rw [vA, rowA, set_getD hiO]
    split
    · rename_i e
      subst e
      exact u2 j hj hv
    · exact hv
  refine ⟨by rw [List.length_set]; exact h.la, by rw [List.length_set]; exact h.lo, fun k hk => ?_, fun k hk => ?_, fun k j hk hj hv => ?_, fun k j hk hj hv => ?_, fun k j hk hj hv => ?_⟩
  · rw [rowA, set_getD hiA]
    split
    · exact hn.1
    · exact h.ra k hk
  · rw [rowA, set_getD hiO]
    split
    · exact hlen
    · exact h.ro k hk
  · rw [vA, rowA, set_getD hiA] at hv
    split at hv
    · rename_i e
      subst e
      exact h.nw hk hj ((hn.2 j hj).1 hv)
    · exact h.sa k j hk hj hv
  · rw [vA, rowA, set_getD hiO] at hv
    rw [vA, rowA, set_getD hiA]
    split at hv
    · rename_i e
      subst e
      rw [if_pos rfl]
      have h3 := run_lv (g := g) (C := C) (i := i) hn.1 hj (!every)
      rw [hv] at h3
      simpa using h3.symm
    · rename_i e
      rw [if_neg e]
      exact h.so k j hk hj hv
  · refine NwP.mono ?_ (hO j hj)
    rw [vA, rowA, set_getD hiA] at hv
    split at hv
    · rename_i e
      subst e
      exact (hn.2 j hj).1 hv
    · exact h.sn k j hk hj hv
/-- How much may still turn. -/
def leftF (every : Bool) (A O : List (List Bool)) : Nat := unmR every A + unmR every O
theorem FxI.less (h : FxI g n C st every A O) {i : Nat} (hi : Rch g i) {now : List Bool} (hn : NwAt g n st every O i now) :
    leftF every (A.set i now) (O.set i (runF g n C i now)) ≤ leftF every A O ∧ (now ≠ rowA A i ∨ runF g n C i now ≠ rowA O i → leftF every (A.set i now) (O.set i (runF g n C i now)) < leftF every A O) := by
  have hil := rch_lt hi
  have e1 : unmR every (A.set i now) + unm every (rowA A i) = unmR every A + unm every now := unmR_set every A i now (by rw [h.la]; exact hil)
  have e2 : unmR every (O.set i (runF g n C i now)) + unm every (rowA O i) = unmR every O + unm every (runF g n C i now) := unmR_set every O i (runF g n C i now) (by rw [h.lo]; exact hil)
  obtain ⟨u1, u2⟩ := h.up hi hn
  have l1 := unm_le every (rowA A i) now (by rw [h.ra i hil, hn.1]) fun j hj hv => u1 j (by rw [h.ra i hil] at hj; exact hj) hv
  have l2 := unm_le every (rowA O i) (runF g n C i now) (by rw [h.ro i hil, runF, runB_len, hn.1]) fun j hj hv => u2 j (by rw [h.ro i hil] at hj; exact hj) hv
  unfold leftF
  refine ⟨by have := l1.1; have := l2.1; omega, fun hne => ?_⟩
  rcases hne with hne | hne
  · have := l1.2 (fun e => hne e.symm)
    have := l2.1
    omega
  · have := l2.2 (fun e => hne e.symm)
    have := l1.1
    omega
/-- The first blocks are settled. -/
def FxS (g : Gb) (n : Nat) (C : List Chg) (st : List Bool) (every : Bool) (A O : List (List Bool)) (k : Nat) : Prop :=
  ∀ i, i < k → Rch g i → NwAt g n st every O i (rowA A i) ∧ rowA O i = runF g n C i (rowA A i)
theorem FxI.full (h : FxI g n C st every A O) (hs : FxS g n C st every A O g.length) {j : Nat} (hj : j < n) : ∀ i, SpZ g n C st every j i → vA A i j = (!every) := by
  have hout : ∀ p, Rch g p → lvF g n C every j p (vA A p j == !every) = true → vA O p j = (!every) := fun p hp hl => by
    have hpl := rch_lt hp
    rw [vA, (hs p hpl hp).2]
    have h3 := run_lv (g := g) (C := C) (i := p) (h.ra p hpl) hj (!every)
    rw [show lvS (allF g n C false false) (allF g n C false true) (!every) j p ((rowA A p)[j]?.getD false == !every) = true from hl] at h3
    simpa using h3
  intro i hi
  induction hi with
  | @base i a b =>
    refine ((hs i (rch_lt a) a).1.2 j hj).2 (.inl ?_)
    simpa only [beq_iff_eq] using b
  | @all p t a b c =>
    have ht : Rch g t := .pass (rch_lt a) a rfl c
    refine ((hs t (rch_lt ht) ht).1.2 j hj).2 (.inr ⟨p, a, c, hout p a ?_⟩)
    exact lv_le b (fun e => by cases e)
  | @pass p t a _ b c ih =>
    have ht : Rch g t := .pass (rch_lt a) a rfl c
    refine ((hs t (rch_lt ht) ht).1.2 j hj).2 (.inr ⟨p, a, c, hout p a ?_⟩)
    rw [ih]
    simpa using b
/-- What the document's Flow tells. -/
def rfZ (g : Gb) (n : Nat) (C : List Chg) (V : List Bool) (A : List (List Bool)) : List (List (List Bool)) := stZ V (fun i => stL g n C false i (rowA A i))
theorem FxI.fls (h : FxI g n C st every A O) (hs : FxS g n C st every A O g.length) {V : List Bool} (hl : V.length = g.length) (hV : ∀ i, i < g.length → (bitF V i = true ↔ Rch g i)) : FlS g n C st every (rfZ g n C V A) := by
  have hr : ∀ i, Rch g i → i < V.length ∧ bitF V i = true := fun i h => ⟨by have := rch_lt h; omega, (hV i (rch_lt h)).2 h⟩
  have hrow : ∀ i, Rch g i → rowZ (rfZ g n C V A) i = stL g n C false i (rowA A i) := fun i h => by
    rw [rowZ, rfZ, stZ_at (hr i h).1, if_pos (hr i h).2]
  refine ⟨by rw [rfZ, stZ_len, hl], fun i hi hn => ?_, fun i h => by rw [hrow i h, stL_len], fun i k hi hk => ?_, fun i k hi hk => ?_, fun i j hi hj => ?_⟩
  · rw [rowZ, rfZ, stZ_at (by omega), if_neg (fun hb => hn ((hV i hi).1 hb))]
  · rw [stateZ, hrow i hi, stL_at _ _ _ _ _ _ _ hk, runB_len, h.ra i (rch_lt hi)]
  · rw [stateZ, stateZ, hrow i hi, stL_at _ _ _ _ _ _ _ (by omega), stL_at _ _ _ _ _ _ _ (by omega), runB_take _ _ _ _ (by simp [alongL]; omega), stepF]
    simp [alongF]
  · rw [valZ, stateZ, hrow i hi, stL_at _ _ _ _ _ _ _ (by omega)]
    show vA A i j = (!every) ↔ _
    exact ⟨h.sa i j hi hj, h.full hs hj i⟩
/-- There is one such answer. -/
theorem FlS.one {X Y : List (List (List Bool))} (hX : FlS g n C st every X) (hY : FlS g n C st every Y) : X = Y := by
  have hs : ∀ i k, Rch g i → k < insR g i + 2 → stateZ X i k = stateZ Y i k := fun i k hi hk => by
    induction k with
    | zero =>
      refine ext_get (by rw [hX.row i 0 hi hk, hY.row i 0 hi hk]) fun j hj => ?_
      rw [hX.row i 0 hi hk] at hj
      have h1 := hX.first i j hi hj
      have h2 := hY.first i j hi hj
      have h3 : valZ X i 0 j = (!every) ↔ valZ Y i 0 j = (!every) := h1.trans h2.symm
      show valZ X i 0 j = valZ Y i 0 j
      revert h3
      cases valZ X i 0 j <;> cases valZ Y i 0 j <;> cases every <;> simp
    | succ k ih => rw [hX.step i k hi (by omega), hY.step i k hi (by omega), ih (by omega)]
  have hrow : ∀ i, i < g.length → rowZ X i = rowZ Y i := fun i hi => by
    by_cases hr : Rch g i
    · have l1 := hX.cnt i hr
      have l2 := hY.cnt i hr
      refine List.ext_getElem (by rw [l1, l2]) fun k h1 h2 => ?_
      have := hs i k hr (by omega)
      rw [stateZ, stateZ, List.getElem?_eq_getElem h1, List.getElem?_eq_getElem h2] at this
      exact this
    · rw [hX.un i hi hr, hY.un i hi hr]
  refine List.ext_getElem (by rw [hX.len, hY.len]) fun i h1 h2 => ?_
  have := hrow i (by rw [← hX.len]; exact h1)
  rw [rowZ, rowZ, List.getElem?_eq_getElem h1, List.getElem?_eq_getElem h2] at this
  exact this
/-- How it begins. -/
theorem FxI.start (g : Gb) (n : Nat) (C : List Chg) (st : List Bool) (every : Bool) : FxI g n C st every (List.replicate g.length (List.replicate n every)) (List.replicate g.length (List.replicate n every)) := by
  have hr : ∀ i, i < g.length → rowA (List.replicate g.length (List.replicate n every)) i = List.replicate n every := fun i hi => by
    rw [rowA, List.getElem?_replicate, if_pos hi]
    rfl
  have hv : ∀ i j, Rch g i → j < n → ¬ vA (List.replicate g.length (List.replicate n every)) i j = (!every) := fun i j hi hj h => by
    rw [vA, hr i (rch_lt hi), List.getElem?_replicate, if_pos hj] at h
    cases every <;> simp at h
  refine ⟨List.length_replicate, List.length_replicate, fun i hi => by rw [hr i hi]; exact List.length_replicate, fun i hi => by rw [hr i hi]; exact List.length_replicate, fun i j hi hj h => (hv i j hi hj h).elim, fun i j hi hj h => (hv i j hi hj h).elim, fun i j hi hj h => (hv i j hi hj h).elim⟩
end
end Go.Proofs.Ytfpdecjlfnambaa
