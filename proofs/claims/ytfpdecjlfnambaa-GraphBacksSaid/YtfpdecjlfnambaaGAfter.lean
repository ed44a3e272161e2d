/-
  Graph's laws: what a step makes of flags. Conditions: the changes lie in the heap, so do the flags.
-/
import Derived.Test.YtfpdecjlfnambaaGMarked
namespace Go.Proofs.Ytfpdecjlfnambaa
open Go Go.RowKit

/-- A row of flags in a block from its beginning on, none below n0. -/
def OwB (n0 : Nat) (o : Option Addr) (n : Nat) (st : List Bool) (wr : World) : Prop := st.length = n ∧ (0 < n → ∃ g ex, o = some ⟨g, 0, none⟩ ∧ n0 ≤ g ∧ Bx wr g 4 (bC st ++ ex))
/-- What is made, or ended, at a step. -/
def klF (C : List Chg) (b s : Int) (n : Nat) (gen : Bool) : List Int := C.flatMap fun c => if c.b = b ∧ c.s = s then okF n (if gen then c.gen else c.kill) else []
theorem klF_take {C : List Chg} {k : Nat} (h : k < C.length) (b s : Int) (n : Nat) (gen : Bool) : klF (C.take (k + 1)) b s n gen = klF (C.take k) b s n gen ++ (if (C[k]?.getD default).b = b ∧ (C[k]?.getD default).s = s then okF n (if gen then (C[k]?.getD default).gen else (C[k]?.getD default).kill) else []) := by
  rw [List.take_add_one, List.getElem?_eq_getElem h, klF, List.flatMap_append]
  simp [klF]
theorem setsF_snoc (l : List Int) (x : Int) (v : Bool) (st : List Bool) : setsF (l ++ [x]) v st = (setsF l v st).set x.toNat v := by simp [setsF]
/-- What after tells. -/
def aftF (C : List Chg) (b s : Int) (n : Nat) (st : List Bool) : List Bool := setsF (klF C b s n true) true (setsF (klF C b s n false) false st)
theorem aftF_step {g : Gb} {n : Nat} {C : List Chg} {i k : Nat} (h : okS g i k = true) (st : List Bool) : aftF C i k n st = stepF g n C i k st := by
  have e : ∀ gen, klF C (i : Int) (k : Int) n gen = rlF g n C ((i : Int), (k : Int), gen) := fun gen => by
    unfold klF rlF
    congr 1
    funext c
    by_cases hc : c.b = i ∧ c.s = k
    · obtain ⟨h1, h2⟩ := hc
      simp [h1, h2, h]
    · simp [hc]
  rw [aftF, e, e]
  rfl

/-- append(nil, st...): a row of the call's own, or none. -/
theorem wpList_append_flags {P : Program} {w : World} {ops : Array Oper} {rest : List Oper} {o : Oper} {a : Act} {Q : Exit → Act → World → Prop} (hgd : o.guard = none) (s x : Operand) (t : TypeId)
    (ho : o.op = .call { callee := .builtin .append, args := #[s, x], argTypes := #[t, t] })
    (i : TypeInfo) (ht : P.underlying t = some (.slice 4)) (hi : P.info? 4 = some i) (hz : i.zero = some (.bool false)) (hsize : i.size = 1) (hby : i.bytes = 1)
    (hs : a.eval s = .slice none 0 0) (oN : Option Addr) (n c : Nat) (st : List Bool) (hx : a.eval x = .slice oN n c) (hw : OwB 0 oN n st w) (hn : n ≤ 1000)
    (h : ∀ o' c' w', OwB w.heap.size o' n st w' → Below w.heap.size w w' → wpList P ops Q rest (a.put o.dst (.slice o' n c')) w') :
    wpList P ops Q (o :: rest) a w := by
  have hst := hw.1
  cases oN with
  | none =>
    have hn0 : n = 0 := by
      rcases Nat.eq_zero_or_pos n with h0 | h0
      · exact h0
      · obtain ⟨g, ex, h1, -⟩ := hw.2 h0
        cases h1
    subst hn0
    refine wpList_plain hgd fun K hK => ?_
    have hr : (Builtin.append_ #[t, t] o.type #[.slice none 0 0, .slice none 0 c]).run P w = .ok (.slice none 0 0) w := by
      simp [Builtin.append_, run_underlying ht, sizeOf, typeInfo, hi, Builtin.lenOf, Builtin.firstCells, loadCells, loadCellsFrom]
    unfold Oper.wp execOp
    simp only [ho, resolve, invoke, builtin, Sem.run_bind, Sem.run_pure, Result.andThen_ok, List.map_toArray, List.map_cons, List.map_nil, hs, hx, hr]
    exact hK _ _ (h none 0 w ⟨hst, fun h => absurd h (Nat.lt_irrefl _)⟩ (Below.refl _ _))
  | some ad =>
    refine wpList_append_own_at w hgd s x t ho w.heap.size 4 i _ 1 1 ht hi hz hsize hby rfl (by decide) _ 0 [] hs (World.ownsRow_nil _ _ _ _) ad n c (bC st) hx (by simp [hst]) ?c1 ?c2 ?c3 ?c4 ?c5 ?_
    case c1 =>
      intro j u hu
      have hj : j < st.length := by
        have := (List.getElem?_eq_some_iff.1 hu).1
        simpa using this
      obtain ⟨g, ex, h3, -, h4⟩ := hw.2 (by omega)
      cases h3
      have h5 := h4.cell j
      rw [List.getElem?_append_left (by simpa using hj), hu] at h5
      rw [← h5]
      by_cases h0 : j = 0 <;> simp [Addr.add, h0]
    case c2 => intro u hu; simp [bC] at hu; rcases hu with ⟨-, rfl⟩ | ⟨-, rfl⟩ <;> rfl
    case c3 => unfold maxLen; omega
    case c4 => omega
    case c5 => exact Nat.le_refl _
    intro v' w1 hown hg _ hvb
    have hB : Below w.heap.size w w1 := (Below.refl _ _).grown hg (Nat.le_refl _) (fun _ h => by cases h)
    rw [Nat.zero_add, List.nil_append] at hown
    rcases hown.2 with ⟨rfl, h0⟩ | ⟨g, cap, cur, rfl, hb, hg', h1, h2, h3, h4⟩
    · subst h0
      exact h none 0 w1 ⟨hst, fun h => absurd h (Nat.lt_irrefl _)⟩ hB
    · refine h (some ⟨g, 0, none⟩) cap w1 ⟨hst, fun _ => ⟨g, cur.toList.drop n, rfl, hb, ?_⟩⟩ hB
      rw [Nat.mul_one] at h4
      rw [← h4, List.take_append_drop, Bx]
      simpa using hg'

set_option maxRecDepth 100000 in
set_option maxHeartbeats 8000000 in
theorem after_any (n0 : Nat) (oc : Option Addr) (capC : Nat) (C : List Chg) (bk at_ : Int) (oN : Option Addr) (n c : Nat) (st : List Bool) (w : World) (hC : CRow n0 w oc C) (hcl : ∀ c ∈ C, c.gen.length ≤ 1000 ∧ c.kill.length ≤ 1000) (hC1 : C.length ≤ 1000) (hn0 : n0 ≤ w.heap.size) (hn : n ≤ 1000) (hw : OwB 0 oN n st w) :
    Calls Try.prog 22 #[.slice oN n c, .slice oc C.length capC, .int .i64 bk, .int .i64 at_] w fun e w' => ∃ o' c', e = .returned (.slice o' n c') ∧ OwB w.heap.size o' n (aftF C bk at_ n st) w' ∧ Below w.heap.size w w' := by
  obtain ⟨kC, hnC⟩ : ∃ k, k = C.length := ⟨_, rfl⟩
  rw [← hnC] at hC1 ⊢
  have HA := Lib.hid (And.intro hC (And.intro hnC (And.intro hcl hn0)))
  have HW := Lib.hid hw
  clear hC hnC hcl hn0 hw
  obtain ⟨i3, hi3, hz3, hs3, hb3⟩ := info_parts infoBool
  have HI3 := Lib.hid (And.intro hi3 (And.intro hz3 (And.intro hs3 hb3)))
  clear hi3 hz3 hs3 hb3
  go_enter Try.func22, Try.ntmps22
  go_wp2_with (at_builtin; refine wpList_append_flags rfl (.tmp 14) (.tmp 15) 26 rfl i3 Try.underlying26 HI3.out.1 HI3.out.2.1 HI3.out.2.2.1 HI3.out.2.2.2 rfl oN n c st rfl HW.out hn ?_)
  intro o c' w1 ho hB
  have HO := Lib.hid (And.intro ho hB)
  clear ho hB
  go_wp2
  go_loopw [10] (fun u wr => ∃ i : Nat, i ≤ kC ∧ u = .int .i64 i ∧ OwB w.heap.size o n (setsF (klF (C.take i) bk at_ n false) false st) wr ∧ Below w.heap.size w wr) (fun u _ => kC - (intOf u).toNat)
  case atStart => exact ⟨0, Nat.zero_le _, rfl, by rw [List.take_zero]; exact HO.out.1, HO.out.2⟩
  case round =>
    obtain ⟨i, hi, rfl, how, hbw⟩ := hrel
    by_cases hli : i < kC
    · obtain ⟨hC, hnC, hcl, hn0⟩ := HA.out
      obtain ⟨bl, off, rfl, hbl, hrow⟩ := hC.below hbw hn0 (by omega)
      obtain ⟨a1, a2, ⟨v3, a3, hg⟩, v4, a4, hk⟩ := hrow i (by omega)
      obtain ⟨cb, hcb⟩ : ∃ x, x = (C[i]?.getD default).b := ⟨_, rfl⟩
      obtain ⟨cs, hcs⟩ : ∃ x, x = (C[i]?.getD default).s := ⟨_, rfl⟩
      obtain ⟨l, hl⟩ : ∃ x, x = (C[i]?.getD default).kill := ⟨_, rfl⟩
      rw [← hcb] at a1
      rw [← hcs] at a2
      obtain ⟨og, cg, hv3, hgc⟩ := hg
      obtain ⟨ok, ck, hv4, hkc⟩ := hk
      subst hv3 hv4
      obtain ⟨m, hm⟩ : ∃ m, m = l.length := ⟨_, rfl⟩
      have hm1 : m ≤ 1000 := by
        have hin : (C[i]?.getD default) ∈ C := by
          rw [List.getElem?_eq_getElem (show i < C.length by omega)]
          exact List.getElem_mem _
        have := hcl _ hin
        rw [hm, hl]
        exact this.2
      rw [← hl, ← hm] at a4
      have hcc : 0 < m → ∃ bg fg, ok = some ⟨bg, fg, none⟩ ∧ bg < w.heap.size ∧ ∀ q, q < m → wr.cell? ⟨bg, fg + q, none⟩ = some (.int .i64 (l[q]?.getD 0)) := fun h0 => by
        obtain ⟨bg, fg, e1, e3, e2⟩ := hkc (by rw [← hl, ← hm]; exact h0)
        exact ⟨bg, fg, e1, by omega, fun q hq => by rw [hl]; exact e2 q (by rw [← hl, ← hm]; exact hq)⟩
      have hblw : bl < w.heap.size := by omega
      have hktk : klF (C.take (i + 1)) bk at_ n false = klF (C.take i) bk at_ n false ++ (if cb = bk ∧ cs = at_ then okF n l else []) := by
        rw [klF_take (show i < C.length by omega), ← hcb, ← hcs, hl]
        rfl
      have A1 : ∀ wq, Below w.heap.size wr wq → wq.cell? ⟨bl, off + i * 4, none⟩ = some (.int .i64 cb) := fun wq h => (h.cell (p := ⟨bl, off + i * 4, none⟩) hblw).trans a1
      have A2 : ∀ wq, Below w.heap.size wr wq → wq.cell? ⟨bl, off + i * 4 + 1, none⟩ = some (.int .i64 cs) := fun wq h => (h.cell (p := ⟨bl, off + i * 4 + 1, none⟩) hblw).trans a2
      have A3 : ∀ wq, Below w.heap.size wr wq → wq.cell? ⟨bl, off + i * 4 + 3, none⟩ = some (.slice ok m ck) := fun wq h => (h.cell (p := ⟨bl, off + i * 4 + 3, none⟩) hblw).trans a4
      have A4 : 0 < m → ∃ bg fg, ok = some ⟨bg, fg, none⟩ ∧ ∀ wq, Below w.heap.size wr wq → ∀ q, q < m → wq.cell? ⟨bg, fg + q, none⟩ = some (.int .i64 (l[q]?.getD 0)) := fun h0 => by
        obtain ⟨bg, fg, e1, e3, e2⟩ := hcc h0
        exact ⟨bg, fg, e1, fun wq h q hq => (h.cell (p := ⟨bg, fg + q, none⟩) e3).trans (e2 q hq)⟩
      have HI := Lib.hid (And.intro how (And.intro hbw (And.intro hktk (And.intro A1 (And.intro A2 (And.intro A3 (And.intro A4 hm)))))))
      clear hC hnC hcl hn0 hrow hbl hcb hcs hl hgc hkc hm hcc hblw hktk A1 A2 A3 A4 how hbw a1 a2 a3 a4
      go_wp2
      go_loopw [11] (fun u wq => ∃ q : Nat, q ≤ m ∧ u = .int .i64 q ∧ (q = 0 ∨ (cb = bk ∧ cs = at_)) ∧ OwB w.heap.size o n (setsF (klF (C.take i) bk at_ n false ++ okF n (l.take q)) false st) wq ∧ Below w.heap.size wr wq) (fun u _ => m - (intOf u).toNat)
      case atStart => exact ⟨0, Nat.zero_le _, rfl, .inl rfl, by simpa [okF] using HI.out.1, Below.refl _ _⟩
      case round =>
        obtain ⟨q, hq, rfl, hqm, how, hbq⟩ := hrel
        have a1 := HI.out.2.2.2.1 _ hbq
        have a2 := HI.out.2.2.2.2.1 _ hbq
        have a3 := HI.out.2.2.2.2.2.1 _ hbq
        by_cases hlq : q < m
        · by_cases e1 : cb = bk
          · by_cases e2 : cs = at_
            · obtain ⟨bg, fg, rfl, hcc⟩ := HI.out.2.2.2.2.2.2.1 (by omega)
              have c9 := hcc _ hbq q hlq
              obtain ⟨x, hx⟩ : ∃ x, x = l[q]?.getD 0 := ⟨_, rfl⟩
              rw [← hx] at c9
              have hokt := okF_take (n := n) (l := l) (k := q) (by rw [← HI.out.2.2.2.2.2.2.2]; exact hlq)
              rw [← hx] at hokt
              subst e1 e2
              have HQ := Lib.hid (And.intro how (And.intro hbq (And.intro hqm hokt)))
              clear hcc hx hokt hqm
              by_cases x0 : 0 ≤ x
              · obtain ⟨y, rfl⟩ : ∃ y : Nat, x = (y : Int) := ⟨x.toNat, by omega⟩
                by_cases xn : y < n
                · obtain ⟨hsl, hob⟩ := how
                  obtain ⟨g, ex, rfl, hgw, hbr⟩ := hob (by omega)
                  have hcy := hbr.cell y
                  rw [bC_at (by omega)] at hcy
                  have hfy := hbr.frozen y
                  have HR := Lib.hid (And.intro hsl (And.intro hgw hbr))
                  clear hob hsl hgw hbr hbq
                  go_wp2
                  go_roundw
                  case rel =>
                    obtain ⟨hsl, hgw, hbr⟩ := HR.out
                    obtain ⟨-, hbq, -, hokt⟩ := HQ.out
                    rw [if_pos (by simp [isPl]; omega)] at hokt
                    refine ⟨q + 1, by omega, by simp, .inr (by simp), ?_, hbq.setCell (p := ⟨g, y, none⟩) hgw _⟩
                    have h1 := hbr.set y (.bool false)
                    rw [bCx_set _ _ (by omega)] at h1
                    rw [hokt, ← List.append_assoc, setsF_snoc]
                    exact ⟨by rw [List.length_set]; exact hsl, fun _ => ⟨g, ex, rfl, hgw, h1⟩⟩
                  case measure => simp [intOf]; omega
                · clear hbq
                  go_wp2
                  go_roundw
                  case rel =>
                    obtain ⟨how, hbq, -, hokt⟩ := HQ.out
                    rw [if_neg (by simp [isPl]; omega), List.append_nil] at hokt
                    exact ⟨q + 1, by omega, by simp, .inr (by simp), by rw [hokt]; exact how, hbq⟩
                  case measure => simp [intOf]; omega
              · clear hbq
                go_wp2
                go_roundw
                case rel =>
                  obtain ⟨how, hbq, -, hokt⟩ := HQ.out
                  rw [if_neg (by simp [isPl]; omega), List.append_nil] at hokt
                  exact ⟨q + 1, by omega, by simp, .inr (by simp), by rw [hokt]; exact how, hbq⟩
                case measure => simp [intOf]; omega
            · have HQ := Lib.hid (And.intro how (And.intro hbq hqm))
              clear how hbq hqm
              go_wp2
              go_roundw
              case rel =>
                obtain ⟨how, hbq, hqm⟩ := HQ.out
                refine ⟨i + 1, by omega, by simp, ?_, HI.out.2.1.trans hbq⟩
                rw [HI.out.2.2.1]
                rw [if_neg (by rintro ⟨h1, h2⟩; first | exact e1 h1 | exact e2 h2), List.append_nil]
                have hq0 : q = 0 := by
                  rcases hqm with h | ⟨h1, h2⟩
                  · exact h
                  · first | exact absurd h1 e1 | exact absurd h2 e2
                subst hq0
                simpa [okF] using how
              case measure => simp [intOf]; omega
          · have HQ := Lib.hid (And.intro how (And.intro hbq hqm))
            clear how hbq hqm
            go_wp2
            go_roundw
            case rel =>
              obtain ⟨how, hbq, hqm⟩ := HQ.out
              refine ⟨i + 1, by omega, by simp, ?_, HI.out.2.1.trans hbq⟩
              rw [HI.out.2.2.1]
              rw [if_neg (by rintro ⟨h1, h2⟩; first | exact e1 h1 | exact e2 h2), List.append_nil]
              have hq0 : q = 0 := by
                rcases hqm with h | ⟨h1, h2⟩
                · exact h
                · first | exact absurd h1 e1 | exact absurd h2 e2
              subst hq0
              simpa [okF] using how
            case measure => simp [intOf]; omega
        · obtain rfl : q = m := by omega
          have HQ := Lib.hid (And.intro how (And.intro hbq hqm))
          clear how hbq hqm
          go_wp2
          go_roundw
          case rel =>
            obtain ⟨how, hbq, hqm⟩ := HQ.out
            refine ⟨i + 1, by omega, by simp, ?_, HI.out.2.1.trans hbq⟩
            rw [HI.out.2.2.1]
            have hm := HI.out.2.2.2.2.2.2.2
            rw [hm, List.take_length] at how
            rcases hqm with h | h
            · have hl0 : l = [] := List.eq_nil_of_length_eq_zero (by omega)
              subst hl0
              simpa [okF] using how
            · rw [if_pos h]
              exact how
          case measure => simp [intOf]; omega
    · obtain rfl : kC = i := by omega
      have HI := Lib.hid (And.intro how hbw)
      clear how hbw
      go_wp2
      have HK := Lib.hid (show OwB w.heap.size o n (setsF (klF C bk at_ n false) false st) wr ∧ Below w.heap.size w wr from by
        obtain ⟨how, hbw⟩ := HI.out
        have hnC := HA.out.2.1
        rw [hnC, List.take_length] at how
        exact ⟨how, hbw⟩)
      clear HI
      go_loopw [12] (fun u wr => ∃ i : Nat, i ≤ kC ∧ u = .int .i64 i ∧ OwB w.heap.size o n (setsF (klF (C.take i) bk at_ n true) true (setsF (klF C bk at_ n false) false st)) wr ∧ Below w.heap.size w wr) (fun u _ => kC - (intOf u).toNat)
      case atStart => exact ⟨0, Nat.zero_le _, rfl, by rw [List.take_zero]; exact HK.out.1, HK.out.2⟩
      case round =>
        obtain ⟨i, hi, rfl, how, hbw⟩ := hrel
        by_cases hli : i < kC
        · obtain ⟨hC, hnC, hcl, hn0⟩ := HA.out
          obtain ⟨bl, off, rfl, hbl, hrow⟩ := hC.below hbw hn0 (by omega)
          obtain ⟨a1, a2, ⟨v3, a3, hg⟩, v4, a4, hk⟩ := hrow i (by omega)
          obtain ⟨cb, hcb⟩ : ∃ x, x = (C[i]?.getD default).b := ⟨_, rfl⟩
          obtain ⟨cs, hcs⟩ : ∃ x, x = (C[i]?.getD default).s := ⟨_, rfl⟩
          obtain ⟨l, hl⟩ : ∃ x, x = (C[i]?.getD default).gen := ⟨_, rfl⟩
          rw [← hcb] at a1
          rw [← hcs] at a2
          obtain ⟨og, cg, hv3, hgc⟩ := hg
          obtain ⟨ok, ck, hv4, hkc⟩ := hk
          subst hv3 hv4
          obtain ⟨m, hm⟩ : ∃ m, m = l.length := ⟨_, rfl⟩
          have hm1 : m ≤ 1000 := by
            have hin : (C[i]?.getD default) ∈ C := by
              rw [List.getElem?_eq_getElem (show i < C.length by omega)]
              exact List.getElem_mem _
            have := hcl _ hin
            rw [hm, hl]
            exact this.1
          rw [← hl, ← hm] at a3
          have hcc : 0 < m → ∃ bg fg, og = some ⟨bg, fg, none⟩ ∧ bg < w.heap.size ∧ ∀ q, q < m → wr.cell? ⟨bg, fg + q, none⟩ = some (.int .i64 (l[q]?.getD 0)) := fun h0 => by
            obtain ⟨bg, fg, e1, e3, e2⟩ := hgc (by rw [← hl, ← hm]; exact h0)
            exact ⟨bg, fg, e1, by omega, fun q hq => by rw [hl]; exact e2 q (by rw [← hl, ← hm]; exact hq)⟩
          have hblw : bl < w.heap.size := by omega
          have hktk : klF (C.take (i + 1)) bk at_ n true = klF (C.take i) bk at_ n true ++ (if cb = bk ∧ cs = at_ then okF n l else []) := by
            rw [klF_take (show i < C.length by omega), ← hcb, ← hcs, hl]
            rfl
          have A1 : ∀ wq, Below w.heap.size wr wq → wq.cell? ⟨bl, off + i * 4, none⟩ = some (.int .i64 cb) := fun wq h => (h.cell (p := ⟨bl, off + i * 4, none⟩) hblw).trans a1
          have A2 : ∀ wq, Below w.heap.size wr wq → wq.cell? ⟨bl, off + i * 4 + 1, none⟩ = some (.int .i64 cs) := fun wq h => (h.cell (p := ⟨bl, off + i * 4 + 1, none⟩) hblw).trans a2
          have A3 : ∀ wq, Below w.heap.size wr wq → wq.cell? ⟨bl, off + i * 4 + 2, none⟩ = some (.slice og m cg) := fun wq h => (h.cell (p := ⟨bl, off + i * 4 + 2, none⟩) hblw).trans a3
          have A4 : 0 < m → ∃ bg fg, og = some ⟨bg, fg, none⟩ ∧ ∀ wq, Below w.heap.size wr wq → ∀ q, q < m → wq.cell? ⟨bg, fg + q, none⟩ = some (.int .i64 (l[q]?.getD 0)) := fun h0 => by
            obtain ⟨bg, fg, e1, e3, e2⟩ := hcc h0
            exact ⟨bg, fg, e1, fun wq h q hq => (h.cell (p := ⟨bg, fg + q, none⟩) e3).trans (e2 q hq)⟩
          have HI := Lib.hid (And.intro how (And.intro hbw (And.intro hktk (And.intro A1 (And.intro A2 (And.intro A3 (And.intro A4 hm)))))))
          clear hC hnC hcl hn0 hrow hbl hcb hcs hl hgc hkc hm hcc hblw hktk A1 A2 A3 A4 how hbw a1 a2 a3 a4
          go_wp2
          go_loopw [13] (fun u wq => ∃ q : Nat, q ≤ m ∧ u = .int .i64 q ∧ (q = 0 ∨ (cb = bk ∧ cs = at_)) ∧ OwB w.heap.size o n (setsF (klF (C.take i) bk at_ n true ++ okF n (l.take q)) true (setsF (klF C bk at_ n false) false st)) wq ∧ Below w.heap.size wr wq) (fun u _ => m - (intOf u).toNat)
          case atStart => exact ⟨0, Nat.zero_le _, rfl, .inl rfl, by simpa [okF] using HI.out.1, Below.refl _ _⟩
          case round =>
            obtain ⟨q, hq, rfl, hqm, how, hbq⟩ := hrel
            have a1 := HI.out.2.2.2.1 _ hbq
            have a2 := HI.out.2.2.2.2.1 _ hbq
            have a3 := HI.out.2.2.2.2.2.1 _ hbq
            by_cases hlq : q < m
            · by_cases e1 : cb = bk
              · by_cases e2 : cs = at_
                · obtain ⟨bg, fg, rfl, hcc⟩ := HI.out.2.2.2.2.2.2.1 (by omega)
                  have c9 := hcc _ hbq q hlq
                  obtain ⟨x, hx⟩ : ∃ x, x = l[q]?.getD 0 := ⟨_, rfl⟩
                  rw [← hx] at c9
                  have hokt := okF_take (n := n) (l := l) (k := q) (by rw [← HI.out.2.2.2.2.2.2.2]; exact hlq)
                  rw [← hx] at hokt
                  subst e1 e2
                  have HQ := Lib.hid (And.intro how (And.intro hbq (And.intro hqm hokt)))
                  clear hcc hx hokt hqm
                  by_cases x0 : 0 ≤ x
                  · obtain ⟨y, rfl⟩ : ∃ y : Nat, x = (y : Int) := ⟨x.toNat, by omega⟩
                    by_cases xn : y < n
                    · obtain ⟨hsl, hob⟩ := how
                      obtain ⟨g, ex, rfl, hgw, hbr⟩ := hob (by omega)
                      have hcy := hbr.cell y
                      rw [bC_at (by omega)] at hcy
                      have hfy := hbr.frozen y
                      have HR := Lib.hid (And.intro hsl (And.intro hgw hbr))
                      clear hob hsl hgw hbr hbq
                      go_wp2
                      go_roundw
                      case rel =>
                        obtain ⟨hsl, hgw, hbr⟩ := HR.out
                        obtain ⟨-, hbq, -, hokt⟩ := HQ.out
                        rw [if_pos (by simp [isPl]; omega)] at hokt
                        refine ⟨q + 1, by omega, by simp, .inr (by simp), ?_, hbq.setCell (p := ⟨g, y, none⟩) hgw _⟩
                        have h1 := hbr.set y (.bool true)
                        rw [bCx_set _ _ (by omega)] at h1
                        rw [hokt, ← List.append_assoc, setsF_snoc]
                        exact ⟨by rw [List.length_set]; exact hsl, fun _ => ⟨g, ex, rfl, hgw, h1⟩⟩
                      case measure => simp [intOf]; omega
                    · clear hbq
                      go_wp2
                      go_roundw
                      case rel =>
                        obtain ⟨how, hbq, -, hokt⟩ := HQ.out
                        rw [if_neg (by simp [isPl]; omega), List.append_nil] at hokt
                        exact ⟨q + 1, by omega, by simp, .inr (by simp), by rw [hokt]; exact how, hbq⟩
                      case measure => simp [intOf]; omega
                  · clear hbq
                    go_wp2
                    go_roundw
                    case rel =>
                      obtain ⟨how, hbq, -, hokt⟩ := HQ.out
                      rw [if_neg (by simp [isPl]; omega), List.append_nil] at hokt
                      exact ⟨q + 1, by omega, by simp, .inr (by simp), by rw [hokt]; exact how, hbq⟩
                    case measure => simp [intOf]; omega
                · have HQ := Lib.hid (And.intro how (And.intro hbq hqm))
                  clear how hbq hqm
                  go_wp2
                  go_roundw
                  case rel =>
                    obtain ⟨how, hbq, hqm⟩ := HQ.out
                    refine ⟨i + 1, by omega, by simp, ?_, HI.out.2.1.trans hbq⟩
                    rw [HI.out.2.2.1]
                    rw [if_neg (by rintro ⟨h1, h2⟩; first | exact e1 h1 | exact e2 h2), List.append_nil]
                    have hq0 : q = 0 := by
                      rcases hqm with h | ⟨h1, h2⟩
                      · exact h
                      · first | exact absurd h1 e1 | exact absurd h2 e2
                    subst hq0
                    simpa [okF] using how
                  case measure => simp [intOf]; omega
              · have HQ := Lib.hid (And.intro how (And.intro hbq hqm))
                clear how hbq hqm
                go_wp2
                go_roundw
                case rel =>
                  obtain ⟨how, hbq, hqm⟩ := HQ.out
                  refine ⟨i + 1, by omega, by simp, ?_, HI.out.2.1.trans hbq⟩
                  rw [HI.out.2.2.1]
                  rw [if_neg (by rintro ⟨h1, h2⟩; first | exact e1 h1 | exact e2 h2), List.append_nil]
                  have hq0 : q = 0 := by
                    rcases hqm with h | ⟨h1, h2⟩
                    · exact h
                    · first | exact absurd h1 e1 | exact absurd h2 e2
                  subst hq0
                  simpa [okF] using how
                case measure => simp [intOf]; omega
            · obtain rfl : q = m := by omega
              have HQ := Lib.hid (And.intro how (And.intro hbq hqm))
              clear how hbq hqm
              go_wp2
              go_roundw
              case rel =>
                obtain ⟨how, hbq, hqm⟩ := HQ.out
                refine ⟨i + 1, by omega, by simp, ?_, HI.out.2.1.trans hbq⟩
                rw [HI.out.2.2.1]
                have hm := HI.out.2.2.2.2.2.2.2
                rw [hm, List.take_length] at how
                rcases hqm with h | h
                · have hl0 : l = [] := List.eq_nil_of_length_eq_zero (by omega)
                  subst hl0
                  simpa [okF] using how
                · rw [if_pos h]
                  exact how
              case measure => simp [intOf]; omega
        · obtain rfl : kC = i := by omega
          have HI := Lib.hid (And.intro how hbw)
          clear how hbw
          go_wp2
          go_ret
          obtain ⟨-, hnC, -⟩ := HA.out
          obtain ⟨how, hbw⟩ := HI.out
          rw [hnC, List.take_length] at how
          exact ⟨_, _, rfl, how, hbw⟩

end Go.Proofs.Ytfpdecjlfnambaa
