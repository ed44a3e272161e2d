/-
  MachineSame of the law of package machine. Conditions: the arguments lie in the heap; no instruction has more labels than a bulk can hold.
-/
import Derived.Test.YtgpkhdccchpljaaDoorKJTwo
import Derived.Test.YtgpkhdccchpljaaDoorKJOver
namespace Go.Proofs.YtgpkhdccchpljaaDoor
open Go.RowKit
open M (Wd MS RepAt Owned Kept Turned)
open C (In Cr Pg PgOk)

/-- an act in cells -/
def AcC (w : World) (b o : Nat) (a : Ac) (lv : Value) : Prop :=
  w.cell? ⟨b, o, none⟩ = some (.int .i64 a.k) ∧ w.cell? ⟨b, o + 1, none⟩ = some (.int .i64 a.a) ∧ w.cell? ⟨b, o + 2, none⟩ = some (.int .i64 a.n) ∧ w.cell? ⟨b, o + 3, none⟩ = some lv
def ActsV (w : World) (v : Value) (l : List Ac) : Prop :=
  ∃ oa cap b off, v = .slice oa l.length cap ∧ (0 < l.length → oa = some ⟨b, off, none⟩ ∧ b < w.heap.size) ∧ ∀ i a, l[i]? = some a → (∃ lv, AcC w b (off + i * 4) a lv ∧ C.IntsV w lv a.l) ∧ inR a.a ∧ inR a.n ∧ ∀ n ∈ a.l, inR n

/-- three machines side by side -/
structure Tri (w wr : World) (p : Pg) (ma mb mc : Nat) (ea : List (Int × Int)) (Sa : MS) (ta : List Ev) (Oa : Nat → Prop) (eb : List (Int × Int)) (Sb : MS) (tb : List Ev) (Ob : Nat → Prop) (ec : List (Int × Int)) (Sc : MS) (tc : List Ev) (Oc : Nat → Prop) : Prop where
  a : Mch wr Oa ma p ea Sa ta
  b : Mch wr Ob mb p eb Sb tb
  c : Mch wr Oc mc p ec Sc tc
  below : Below w.heap.size w wr
  oa : ∀ b, Oa b → w.heap.size ≤ b
  ob : ∀ b, Ob b → w.heap.size ≤ b
  oc : ∀ b, Oc b → w.heap.size ≤ b
  ab : ∀ b, Oa b → ¬ Ob b
  ac : ∀ b, Oa b → ¬ Oc b
  bc : ∀ b, Ob b → ¬ Oc b
section
variable {w wr w' : World} {p : Pg} {ma mb mc : Nat} {ea eb ec e2 : List (Int × Int)} {Sa Sb Sc S2 : MS} {ta tb tc t2 : List Ev} {Oa Ob Oc O2 : Nat → Prop}
theorem Tri.under (h : Tri w wr p ma mb mc ea Sa ta Oa eb Sb tb Ob ec Sc tc Oc) (hb : Below wr.heap.size wr w') : Tri w w' p ma mb mc ea Sa ta Oa eb Sb tb Ob ec Sc tc Oc :=
  ⟨h.a.under hb, h.b.under hb, h.c.under hb, h.below.trans (hb.mono h.below.size), h.oa, h.ob, h.oc, h.ab, h.ac, h.bc⟩
theorem nx1 {N : Nat} {O O' P : Nat → Prop} (h : ∀ b, O b → ¬ P b) (hA : ∀ b, O' b → O b ∨ N ≤ b) (hlt : ∀ b, P b → b < N) : ∀ b, O' b → ¬ P b := fun b hb hp => by
  rcases hA b hb with h1 | h1
  · exact h b h1 hp
  · exact absurd (hlt b hp) (by omega)
theorem nx2 {N : Nat} {O O' P : Nat → Prop} (h : ∀ b, P b → ¬ O b) (hA : ∀ b, O' b → O b ∨ N ≤ b) (hlt : ∀ b, P b → b < N) : ∀ b, P b → ¬ O' b := fun b hp hb => nx1 (fun b h1 h2 => h b h2 h1) hA hlt b hb hp
theorem nxb {N B : Nat} {O O' : Nat → Prop} (h : ∀ b, O b → B ≤ b) (hA : ∀ b, O' b → O b ∨ N ≤ b) (hB : B ≤ N) : ∀ b, O' b → B ≤ b := fun b hb => by
  rcases hA b hb with h1 | h1
  · exact h b h1
  · omega
theorem Tri.actA (h : Tri w wr p ma mb mc ea Sa ta Oa eb Sb tb Ob ec Sc tc Oc) (hA : Acted wr w' Oa O2 ma p e2 S2 t2) : Tri w w' p ma mb mc e2 S2 t2 O2 eb Sb tb Ob ec Sc tc Oc :=
  ⟨hA.mch, h.b.kept hA.kept fun b hb ha => h.ab b ha hb, h.c.kept hA.kept fun b hb ha => h.ac b ha hb, M.Kept.below h.below hA.kept h.below.size h.oa, nxb h.oa hA.own h.below.size, h.ob, h.oc, nx1 h.ab hA.own h.b.lt, nx1 h.ac hA.own h.c.lt, h.bc⟩
theorem Tri.actB (h : Tri w wr p ma mb mc ea Sa ta Oa eb Sb tb Ob ec Sc tc Oc) (hA : Acted wr w' Ob O2 mb p e2 S2 t2) : Tri w w' p ma mb mc ea Sa ta Oa e2 S2 t2 O2 ec Sc tc Oc :=
  ⟨h.a.kept hA.kept h.ab, hA.mch, h.c.kept hA.kept fun b hb ha => h.bc b ha hb, M.Kept.below h.below hA.kept h.below.size h.ob, h.oa, nxb h.ob hA.own h.below.size, h.oc, nx2 h.ab hA.own h.a.lt, h.ac, nx1 h.bc hA.own h.c.lt⟩
theorem Tri.actC (h : Tri w wr p ma mb mc ea Sa ta Oa eb Sb tb Ob ec Sc tc Oc) (hA : Acted wr w' Oc O2 mc p e2 S2 t2) : Tri w w' p ma mb mc ea Sa ta Oa eb Sb tb Ob e2 S2 t2 O2 :=
  ⟨h.a.kept hA.kept h.ac, h.b.kept hA.kept h.bc, hA.mch, M.Kept.below h.below hA.kept h.below.size h.oc, h.oa, h.ob, nxb h.oc hA.own h.below.size, h.ab, nx2 h.ac hA.own h.a.lt, nx2 h.bc hA.own h.b.lt⟩
end
/-- how much there can be after i acts -/
structure Szs (p : Pg) (i : Nat) (ea : List (Int × Int)) (Sa : MS) (ec : List (Int × Int)) (Sc : MS) (tc : List Ev) : Prop where
  cx : CxOk ⟨p, ea, 1⟩
  cxc : CxOk ⟨p, ec, 1⟩
  m : MemOk Sa
  mc : MemOk Sc
  sz : Sa.blocks.length ≤ i * 3001
  szc : Sc.blocks.length ≤ i * 3001
  ev : ea.length ≤ i
  evc : ec.length ≤ i
  tc : tc.length ≤ i * 12008

set_option maxRecDepth 100000 in
set_option maxHeartbeats 3000000 in
theorem machineSame_walk (w : World) (fv cv : Value) (p : Pg) (words fuel : Int) (v3 v4 : Value) (l o : List Ac) (hP : C.PgV w fv cv p) (hL : C.LabOk p) (hl0 : ∀ f ∈ p.fs, ∀ x ∈ f, x.l.length * 8 ≤ 140737488355328) (hin : ∀ f ∈ p.fs, ∀ x ∈ f, inR x.b) (ht : C.TabAt w) (h3 : ActsV w v3 l) (h4 : ActsV w v4 o) :
    Calls Tryd.prog 4 #[.agg #[fv, cv], .int .i64 words, .int .i64 fuel, v3, v4] w fun e w' => e = .returned (.bool true) ∧ Below w.heap.size w w' := by
  have hP' := hP
  obtain ⟨⟨oaf, capf, bf, off, rfl, -, -, -, -⟩, oac, capc, bc, offc, rfl, -, -, -, -⟩ := hP'
  obtain ⟨oal, capl, bl, ofl, rfl, l3, l4⟩ := h3
  obtain ⟨oao, capo, bo, ofo, rfl, o3, o4⟩ := h4
  obtain ⟨nf, hnf⟩ : ∃ n, p.fs.length = n := ⟨_, rfl⟩
  obtain ⟨ncs, hncs⟩ : ∃ m, p.cs.length = m := ⟨_, rfl⟩
  rw [hnf, hncs] at hP ⊢
  clear hnf hncs
  obtain ⟨n, hn⟩ : ∃ n, l.length = n := ⟨_, rfl⟩
  obtain ⟨m, hm⟩ : ∃ m, o.length = m := ⟨_, rfl⟩
  rw [hn] at l3 ⊢
  rw [hm] at o3 ⊢
  have HLL := Lib.hid (And.intro l3 (And.intro l4 hn))
  have HOO := Lib.hid (And.intro o3 (And.intro o4 hm))
  clear l3 l4 o3 o4 hn hm
  obtain ⟨W, hW⟩ : ∃ W, W = w.alloc (.cells #[.slice oaf nf capf, .slice oac ncs capc] 25) := ⟨_, rfl⟩
  have hbW : Below w.heap.size w W := by rw [hW]; exact C.alloc_below _ _
  have hx0 : W.heap[w.heap.size]? = some (.cells #[.slice oaf nf capf, .slice oac ncs capc] 25) := by rw [hW, heap_alloc_new]
  have hts := ht.lt
  have hwk := Lib.hid (works_any W (ht.below hbW hts))
  have hov := Lib.hid (fun (w1 : World) (hb : Below w.heap.size w w1) => over_any (hP.below hb))
  have hnew := Lib.hid (fun (w1 : World) (hb : Below w.heap.size w w1) => new_any (hP.below hb) hL (ht.below hb hts) hl0 words 1)
  have HIN := Lib.hid hin
  clear hP hL ht hl0 hts hin
  obtain ⟨B, hB⟩ : ∃ B, B = w.heap.size := ⟨_, rfl⟩
  rw [← hB] at hx0
  have HW := Lib.hid hbW
  have HX0 := Lib.hid hx0
  go_enter Tryd.func4, Tryd.ntmps4
  go_upto_region 1 with fail
  rw [← hW]
  simp only [← hB]
  clear hW hx0 hbW
  replace hB := Lib.hid hB
  go_upto_region 4 with (go_at_call 5; refine hwk.out.mono ?_; rintro e w1 ⟨rfl, hb1⟩; have HB1 := Lib.hid hb1; clear hwk hb1)
  have hbw1 := HW.out.trans (HB1.out.mono HW.out.size)
  have HBW1 := Lib.hid hbw1
  have HX1 := Lib.hid (keepB7 HX0.out HB1.out)
  clear hbw1
  obtain ⟨a0, a1, af, al⟩ := cells2 HX1.out
  have HOV := Lib.hid (hov.out w1 HBW1.out)
  clear hov HX0
  go_upto_region 5 with (go_at_call 6; refine HOV.out.mono ?_; rintro e w2 ⟨rfl, hb2⟩; have HB2 := Lib.hid hb2; clear HOV hb2)
  have HBW2 := Lib.hid (HBW1.out.trans (HB2.out.mono HBW1.out.size))
  have HX2 := Lib.hid (keepB7 HX1.out HB2.out)
  clear a0 a1 af al HX1
  cases hob : overB p with
  | true =>
    go_wp2
    go_ret
    exact ⟨rfl, HBW2.out⟩
  | false =>
    by_cases h1 : 60 < n
    · have t1 : decide ((60 : Int) < n) = true := by simp; omega
      clear h1
      go_wp2
      go_ret
      exact ⟨rfl, HBW2.out⟩
    by_cases h2 : 60 < m
    · have t1 : decide ((60 : Int) < n) = false := by simp; omega
      have t2 : decide ((60 : Int) < m) = true := by simp; omega
      clear h1 h2
      go_wp2
      go_ret
      exact ⟨rfl, HBW2.out⟩
    by_cases h3 : 3000 < fuel
    · have t1 : decide ((60 : Int) < n) = false := by simp; omega
      have t2 : decide ((60 : Int) < m) = false := by simp; omega
      have t3 : decide (3000 < fuel) = true := by simpa using h3
      clear h1 h2 h3
      go_wp2
      go_ret
      exact ⟨rfl, HBW2.out⟩
    by_cases h4 : 2000 < words
    · have t1 : decide ((60 : Int) < n) = false := by simp; omega
      have t2 : decide ((60 : Int) < m) = false := by simp; omega
      have t3 : decide (3000 < fuel) = false := by simp; omega
      have t4 : decide (2000 < words) = true := by simpa using h4
      clear h1 h2 h3 h4
      go_wp2
      go_ret
      exact ⟨rfl, HBW2.out⟩
    have t1 : decide ((60 : Int) < n) = false := by simp; omega
    have t2 : decide ((60 : Int) < m) = false := by simp; omega
    have t3 : decide (3000 < fuel) = false := by simp; omega
    have t4 : decide (2000 < words) = false := by simp; omega
    have HFU := Lib.hid (show fuel ≤ 1000000 ∧ fuel.toNat ≤ 3000 by omega)
    have HNM := Lib.hid (show n ≤ 60 ∧ m ≤ 60 by omega)
    clear h1 h2 h3 h4
    go_upto_region 7 with fail
    clear t1 t2 t3 t4
    obtain ⟨a0, a1, af, al⟩ := cells2 HX2.out
    by_cases hok : PgOk p
    · have HOK := Lib.hid hok
      have hn2 := Lib.hid (hnew.out w2 HBW2.out)
      clear hok
      go_upto_region 8 with (go_at_call 7; refine hn2.out.mono ?_; rintro e w3 hpost; obtain ⟨ma, Oa, rfl, hb3, hMa, hOa⟩ := new_mch HOK.out hpost; have HM3 := Lib.hid (And.intro hb3 (And.intro hMa hOa)); clear hb3 hMa hOa hpost hn2)
      have HBW3 := Lib.hid (HBW2.out.trans (HM3.out.1.mono HBW2.out.size))
      have HX3 := Lib.hid (keepB7 HX2.out HM3.out.1)
      clear a0 a1 af al
      obtain ⟨a0, a1, af, al⟩ := cells2 HX3.out
      have hn3 := Lib.hid (hnew.out w3 HBW3.out)
      go_upto_region 9 with (go_at_call 7; refine hn3.out.mono ?_; rintro e w4 hpost; obtain ⟨mb, Ob, rfl, hb3, hMa, hOa⟩ := new_mch HOK.out hpost; have HM4 := Lib.hid (And.intro hb3 (And.intro hMa hOa)); clear hb3 hMa hOa hpost hn3)
      have HBW4 := Lib.hid (HBW3.out.trans (HM4.out.1.mono HBW3.out.size))
      have HX4 := Lib.hid (keepB7 HX3.out HM4.out.1)
      clear a0 a1 af al
      obtain ⟨a0, a1, af, al⟩ := cells2 HX4.out
      have hn4 := Lib.hid (hnew.out w4 HBW4.out)
      go_upto_region 10 with (go_at_call 7; refine hn4.out.mono ?_; rintro e w5 hpost; obtain ⟨mc, Oc, rfl, hb3, hMa, hOa⟩ := new_mch HOK.out hpost; have HM5 := Lib.hid (And.intro hb3 (And.intro hMa hOa)); clear hb3 hMa hOa hpost hn4)
      clear a0 a1 af al hnew
      have HTR := Lib.hid (show Tri w w5 p ma mb mc [] ⟨min (max words 0) 1048576, []⟩ [] Oa [] ⟨min (max words 0) 1048576, []⟩ [] Ob [] ⟨min (max words 0) 1048576, []⟩ [] Oc by
        obtain ⟨ba, Ma, ha⟩ := HM3.out
        obtain ⟨bb, Mb, hb⟩ := HM4.out
        obtain ⟨bc', Mc, hc⟩ := HM5.out
        have s2 := HBW2.out.size
        have s3 := HBW3.out.size
        have s4 := HBW4.out.size
        refine ⟨(Ma.under bb).under bc', Mb.under bc', Mc, HBW4.out.trans (bc'.mono s4), fun b h => Nat.le_trans s2 (ha b h), fun b h => Nat.le_trans s3 (hb b h), fun b h => Nat.le_trans s4 (hc b h), fun b h1 h2 => ?_, fun b h1 h2 => ?_, fun b h1 h2 => ?_⟩
        · have := Ma.lt b h1; have := hb b h2; omega
        · have := Ma.lt b h1; have := hc b h2; have := bb.size; omega
        · have := Mb.lt b h1; have := hc b h2; omega)
      have HCX := Lib.hid (show CxOk ⟨p, [], 1⟩ from ⟨HOK.out, HIN.out, fun e n h => by simp [brought] at h⟩)
      clear HM3 HM4 HM5 HX2 HX3 HX4 HBW1 HBW2 HBW3 HBW4 HB1 HB2
      go_wp2_with fail
      go_loopw [19] (fun u19 wr => ∃ (i : Nat) (S : MS) (evs : List (Int × Int)) (Sc : MS) (evsc : List (Int × Int)) (tc : List Ev) (Oa Ob Oc : Nat → Prop), u19 = .int .i64 i ∧ i ≤ n ∧ Tri w wr p ma mb mc evs S [] Oa evs S [] Ob evsc Sc tc Oc ∧ Szs p i evs S evsc Sc tc) (fun u19 _ => match u19 with | .int _ k => n - k.toNat | _ => 0)
      case atStart => exact ⟨0, _, _, _, _, _, _, _, _, rfl, Nat.zero_le _, HTR.out, ⟨HCX.out, HCX.out, fun l h => by simp at h, fun l h => by simp at h, by simp, by simp, by simp, by simp, by simp⟩⟩
      case round =>
        clear HTR Oa Ob Oc
        obtain ⟨i, S, evs, Sc, evsc, tc, Oa, Ob, Oc, rfl, hin, hTR, hSZ⟩ := hrel
        have T0 := Lib.hid hTR
        have SZ := Lib.hid hSZ
        clear hTR hSZ
        by_cases hi : i < n
        · have HT := Lib.hid (lt_dec' i n hi)
          have HI := Lib.hid (wrapm i (by have := HNM.out; omega))
          have hi60 : i ≤ 60 := by have := HNM.out; omega
          obtain ⟨x, hx⟩ : ∃ x, l[i]? = some x := ⟨_, List.getElem?_eq_getElem (by have := HLL.out.2.2; omega)⟩
          obtain ⟨rfl, hbl⟩ := HLL.out.1 (by omega)
          obtain ⟨⟨lx, kx, hlx⟩, hxa, hxn, hxl⟩ := HLL.out.2.1 i x hx
          have HXX := Lib.hid (And.intro hxa (And.intro hxn (And.intro hxl hlx)))
          have HK := Lib.hid (show ∀ wr : World, Below w.heap.size w wr → wr.cell? ⟨bl, ofl + i * 4, none⟩ = some (.int .i64 x.k) ∧ wr.cell? ⟨bl, ofl + i * 4 + 1, none⟩ = some (.int .i64 x.a) ∧ wr.cell? ⟨bl, ofl + i * 4 + 2, none⟩ = some (.int .i64 x.n) ∧ wr.cell? ⟨bl, ofl + i * 4 + 3, none⟩ = some lx ∧ bl < wr.heap.size from fun wr hb => ⟨(hb.cell (p := ⟨bl, ofl + i * 4, none⟩) hbl).trans kx.1, (hb.cell (p := ⟨bl, ofl + i * 4 + 1, none⟩) hbl).trans kx.2.1, (hb.cell (p := ⟨bl, ofl + i * 4 + 2, none⟩) hbl).trans kx.2.2.1, (hb.cell (p := ⟨bl, ofl + i * 4 + 3, none⟩) hbl).trans kx.2.2.2, Nat.lt_of_lt_of_le hbl hb.size⟩)
          clear hxa hxn hxl kx hx hbl
          have hii : (i : Int) < n := by omega
          obtain ⟨ox, nx, cx, hlv⟩ : ∃ ox nx cx, lx = .slice ox nx cx := by obtain ⟨_, _, _, _, h, _⟩ := hlx; exact ⟨_, _, _, h⟩
          clear hlx
          have HLX := Lib.hid hlv
          clear hlv
          have hsA := T0.out.a.act (W0 := w) SZ.out.cx SZ.out.m (by simp) fuel HFU.out.1 (by have := SZ.out.sz; have := HFU.out.2; omega) (by have := SZ.out.ev; omega) T0.out.below T0.out.oa x HXX.out.1 HXX.out.2.1 HXX.out.2.2.1 lx HXX.out.2.2.2
          rw [HLX.out] at hsA
          have HSA := Lib.hid hsA
          clear hsA
          obtain ⟨k0, k1, k2, k3, kb⟩ := HK.out wr T0.out.below
          rw [HLX.out] at k3
          obtain ⟨hw1, hw2, hw3⟩ := HI.out
          have t1 := HT.out
          go_upto_region 16 with (go_at_call 16; refine HSA.out.mono ?_; rintro e w5 ⟨o1, S', evs', ta, Oa', hR1, he, hA5, hm5, hs5, ht5, he5, hc5⟩; rw [show outV o1 = .agg #[.int .i64 o1.k, .int .i64 o1.n] from rfl] at he; subst he; have HRA := Lib.hid (And.intro hR1 (show ta.length < 100000000 by have := HFU.out.2; simp at ht5; omega)); have HA5 := Lib.hid hA5; have HN5 := Lib.hid (And.intro hm5 (And.intro hs5 (And.intro he5 hc5))); clear hR1 hA5 hm5 hs5 ht5 he5 hc5 HSA)
          have hbn : Below w5.heap.size w5 (w5.alloc (.cells #[.int .i64 o1.k, .int .i64 o1.n] 41)) := C.alloc_below _ _
          have hyn : (w5.alloc (.cells #[.int .i64 o1.k, .int .i64 o1.n] 41)).heap[w5.heap.size]? = some (.cells #[.int .i64 o1.k, .int .i64 o1.n] 41) := heap_alloc_new _ _
          have T5 := T0.out.actA HA5.out
          have T6a := Lib.hid (T5.under hbn)
          have HK6 := Lib.hid (show (¬ Oa' w5.heap.size) ∧ (¬ Ob w5.heap.size) ∧ (¬ Oc w5.heap.size) from ⟨fun h => Nat.lt_irrefl _ (T5.a.lt _ h), fun h => Nat.lt_irrefl _ (T5.b.lt _ h), fun h => Nat.lt_irrefl _ (T5.c.lt _ h)⟩)
          clear k0 k1 k2 k3 kb hbn T5
          generalize w5.alloc (.cells #[.int .i64 o1.k, .int .i64 o1.n] 41) = W6a at hyn T6a ⊢
          generalize w5.heap.size = k5 at hyn HK6 ⊢
          have HR5a := Lib.hid hyn
          clear hyn t1
          by_cases him : i < m
          · have t1 := lt_dec' i m him
            obtain ⟨y, hy⟩ : ∃ y, o[i]? = some y := ⟨_, List.getElem?_eq_getElem (by have := HOO.out.2.2; omega)⟩
            obtain ⟨rfl, hbo⟩ := HOO.out.1 (by omega)
            obtain ⟨⟨ly, ky, hly⟩, hya, hyn, hyl⟩ := HOO.out.2.1 i y hy
            have hjj : (i : Int) < m := by omega
            have hsC := T6a.out.c.act (W0 := w) SZ.out.cxc SZ.out.mc (by have := SZ.out.tc; omega) fuel HFU.out.1 (by have := SZ.out.szc; have := HFU.out.2; omega) (by have := SZ.out.evc; omega) T6a.out.below T6a.out.oc y hya hyn hyl ly hly
            obtain ⟨oy, ny, cy, hlv⟩ : ∃ ox nx cx, ly = .slice ox nx cx := by obtain ⟨_, _, _, _, h, _⟩ := hly; exact ⟨_, _, _, h⟩
            rw [hlv] at hsC ky
            have HSC := Lib.hid hsC
            have c0 := (T6a.out.below.cell (p := ⟨bo, ofo + i * 4, none⟩) hbo).trans ky.1
            have c1 := (T6a.out.below.cell (p := ⟨bo, ofo + i * 4 + 1, none⟩) hbo).trans ky.2.1
            have c2 := (T6a.out.below.cell (p := ⟨bo, ofo + i * 4 + 2, none⟩) hbo).trans ky.2.2.1
            have c3 := (T6a.out.below.cell (p := ⟨bo, ofo + i * 4 + 3, none⟩) hbo).trans ky.2.2.2
            have cb : bo < W6a.heap.size := Nat.lt_of_lt_of_le hbo T6a.out.below.size
            clear hsC hlv hly ky hya hyn hyl hy
            go_upto_region 18 with (go_at_call 16; refine HSC.out.mono ?_; rintro e W6 ⟨o3, Sc', evc', tc', Oc', -, rfl, hA7, hm7, hs7, ht7, he7, hc7⟩; have HA7 := Lib.hid hA7; have HN7 := Lib.hid (And.intro hm7 (And.intro hs7 (And.intro ht7 (And.intro he7 hc7)))); clear hA7 hm7 hs7 ht7 he7 hc7 HSC)
            have T6 := Lib.hid (T6a.out.actC HA7.out)
            have HR5 := Lib.hid (show W6.heap[k5]? = some (.cells #[.int .i64 o1.k, .int .i64 o1.n] 41) ∧ ¬ Oa' k5 ∧ ¬ Ob k5 from ⟨(HA7.out.kept.block k5 (Array.getElem?_eq_some_iff.1 HR5a.out).1 HK6.out.2.2).trans HR5a.out, HK6.out.1, HK6.out.2.1⟩)
            have HSC5 := Lib.hid (show CxOk ⟨p, evc', 1⟩ ∧ MemOk Sc' ∧ Sc'.blocks.length ≤ (i + 1) * 3001 ∧ evc'.length ≤ i + 1 ∧ tc'.length ≤ (i + 1) * 12008 from ⟨HN7.out.2.2.2.2, HN7.out.1, by have := HN7.out.2.1; have := SZ.out.szc; have := HFU.out.2; omega, by have := HN7.out.2.2.2.1; have := SZ.out.evc; simp at *; omega, by have := HN7.out.2.2.1; have := SZ.out.tc; have := HFU.out.2; omega⟩)
            clear c0 c1 c2 c3 cb t1 HN7

            -- b acts
            have hsB := T6.out.b.act (W0 := w) SZ.out.cx SZ.out.m (by simp) fuel HFU.out.1 (by have := SZ.out.sz; have := HFU.out.2; omega) (by have := SZ.out.ev; omega) T6.out.below T6.out.ob x HXX.out.1 HXX.out.2.1 HXX.out.2.2.1 lx HXX.out.2.2.2
            rw [HLX.out] at hsB
            have HSB := Lib.hid hsB
            clear hsB
            obtain ⟨k0, k1, k2, k3, kb⟩ := HK.out W6 T6.out.below
            rw [HLX.out] at k3
            go_upto_region 19 with (go_at_call 16; refine HSB.out.mono ?_; rintro e w8 ⟨o2, Sb, evb, tb, Ob', hR2, he, hA8, -⟩; rw [show outV o2 = .agg #[.int .i64 o2.k, .int .i64 o2.n] from rfl] at he; subst he; have hdet := OneRel.det HRA.out.1 hR2; obtain ⟨rfl, rfl, rfl, rfl⟩ := hdet; have HA8 := Lib.hid hA8; clear hR2 hA8)
            have hr8 := HA8.out.kept.block k5 (by have := HR5.out.1; exact (Array.getElem?_eq_some_iff.1 this).1) HR5.out.2.2
            rw [HR5.out.1] at hr8
            have hbn : Below w8.heap.size w8 (w8.alloc (.cells #[.int .i64 o1.k, .int .i64 o1.n] 41)) := C.alloc_below _ _
            have hyn : (w8.alloc (.cells #[.int .i64 o1.k, .int .i64 o1.n] 41)).heap[w8.heap.size]? = some (.cells #[.int .i64 o1.k, .int .i64 o1.n] 41) := heap_alloc_new _ _
            have hr9 := keepB7 hr8 hbn
            have T8 := T6.out.actB HA8.out
            have T9 := Lib.hid (T8.under hbn)
            have HK8 := Lib.hid (show (∀ b, Oa' b → b ≠ w8.heap.size) ∧ (∀ b, Ob' b → b ≠ w8.heap.size) from ⟨fun b hb => Nat.ne_of_lt (T8.a.lt b hb), fun b hb => Nat.ne_of_lt (T8.b.lt b hb)⟩)
            have HK5 := Lib.hid (show ¬ Ob' k5 from fun h => by
              rcases HA8.out.own k5 h with h1 | h1
              · exact HR5.out.2.2 h1
              · have h2 := (Array.getElem?_eq_some_iff.1 HR5.out.1).1
                omega)
            clear k0 k1 k2 k3 kb hbn T8 hr8 HSB
            generalize w8.alloc (.cells #[.int .i64 o1.k, .int .i64 o1.n] 41) = W9 at hyn hr9 T9 ⊢
            generalize w8.heap.size = k8 at hyn HK8 ⊢
            have HR9 := Lib.hid (And.intro hr9 hyn)
            clear hr9 hyn
            -- what both told
            have HTA := Lib.hid T9.out.a.tell
            go_upto_region 20 with
              (first
                | (go_at_call 13; refine HTA.out.mono ?_; rintro e w10 ⟨Oa2, v1, B1', rfl, hA10, hrow1, hown1⟩; have hT10 := T9.out.actA hA10; have HTB := Lib.hid hT10.b.tell; have HX10 := Lib.hid (And.intro hA10 (And.intro hrow1 (And.intro hown1 hT10))); clear HTA hA10 hrow1 hown1 hT10)
                | (go_at_call 13; refine HTB.out.mono ?_; rintro e w11 ⟨Ob2, v2, B2', rfl, hA11, hrow2, hown2⟩; have hT11 := HX10.out.2.2.2.actB hA11; have hrow1' := own_keep HX10.out.2.1 (w' := w11) (fun b hb => hA11.kept.block b (by obtain ⟨_, h⟩ := own_blk HX10.out.2.1 hb; exact (Array.getElem?_eq_some_iff.1 h).1) (T9.out.ab b (HX10.out.2.2.1 b hb))); have hte := told_eq hrow1' hrow2 (by have := HRA.out.2; omega); have HTE := Lib.hid hte; have HX11 := Lib.hid (And.intro hA11 hT11); clear HTB hA11 hrow2 hown2 hT11 hrow1' hte)
                | (go_at_call 12; refine HTE.out.mono ?_; rintro e w12 ⟨rfl, hb12⟩; have HB12 := Lib.hid hb12; clear HTE hb12))
            have T12 := Lib.hid (HX11.out.2.under HB12.out)
            have hq10 : w10.heap[k5]? = some (.cells #[.int .i64 o1.k, .int .i64 o1.n] 41) ∧ w10.heap[k8]? = some (.cells #[.int .i64 o1.k, .int .i64 o1.n] 41) :=
              ⟨(HX10.out.1.kept.block k5 (Array.getElem?_eq_some_iff.1 HR9.out.1).1 HR5.out.2.1).trans HR9.out.1, (HX10.out.1.kept.block k8 (Array.getElem?_eq_some_iff.1 HR9.out.2).1 fun h => HK8.out.1 k8 h rfl).trans HR9.out.2⟩
            have hq11 : w11.heap[k5]? = some (.cells #[.int .i64 o1.k, .int .i64 o1.n] 41) ∧ w11.heap[k8]? = some (.cells #[.int .i64 o1.k, .int .i64 o1.n] 41) :=
              ⟨(HX11.out.1.kept.block k5 (Array.getElem?_eq_some_iff.1 hq10.1).1 HK5.out).trans hq10.1, (HX11.out.1.kept.block k8 (Array.getElem?_eq_some_iff.1 hq10.2).1 fun h => HK8.out.2 k8 h rfl).trans hq10.2⟩
            obtain ⟨y0, y1, yf, yl⟩ := cells2 (keepB7 hq11.1 HB12.out)
            obtain ⟨z0, z1, zf, zl⟩ := cells2 (keepB7 hq11.2 HB12.out)
            clear hq10 hq11
            have HLA := Lib.hid T12.out.a.live
            have HLB := Lib.hid T12.out.b.live
            obtain ⟨hw1, hw2, hw3⟩ := HI.out
            go_wp2_with
              (first
                | (go_at_call 15; refine HLA.out.mono ?_; rintro e w13 ⟨rfl, rfl⟩)
                | (go_at_call 15; refine HLB.out.mono ?_; rintro e w14 ⟨rfl, rfl⟩)
                | fail)
            go_roundw
            case rel =>
              have h1 := HN5.out.2.1
              have h2 := HN5.out.2.2.1
              have h3 := SZ.out.sz
              have h4 := SZ.out.ev
              have h5 := HFU.out.2
              exact ⟨i + 1, _, _, _, _, _, _, _, _, rfl, by omega, T12.out, ⟨HN5.out.2.2.2, HSC5.out.1, HN5.out.1, HSC5.out.2.1, by omega, HSC5.out.2.2.1, by omega, HSC5.out.2.2.2.1, HSC5.out.2.2.2.2⟩⟩
            case measure =>
              show n - ((i : Int) + 1).toNat < n - (i : Int).toNat
              omega
          · have t1 := ge_dec' i m him
            go_upto_region 18 with fail
            have T6 := T6a
            have HR5 := Lib.hid (show W6a.heap[k5]? = some (.cells #[.int .i64 o1.k, .int .i64 o1.n] 41) ∧ ¬ Oa' k5 ∧ ¬ Ob k5 from ⟨HR5a.out, HK6.out.1, HK6.out.2.1⟩)
            have HSC5 := Lib.hid (show CxOk ⟨p, evsc, 1⟩ ∧ MemOk Sc ∧ Sc.blocks.length ≤ (i + 1) * 3001 ∧ evsc.length ≤ i + 1 ∧ tc.length ≤ (i + 1) * 12008 from ⟨SZ.out.cxc, SZ.out.mc, by have := SZ.out.szc; omega, by have := SZ.out.evc; omega, by have := SZ.out.tc; omega⟩)
            clear t1
            generalize W6a = W6 at T6 HR5 ⊢

            -- b acts
            have hsB := T6.out.b.act (W0 := w) SZ.out.cx SZ.out.m (by simp) fuel HFU.out.1 (by have := SZ.out.sz; have := HFU.out.2; omega) (by have := SZ.out.ev; omega) T6.out.below T6.out.ob x HXX.out.1 HXX.out.2.1 HXX.out.2.2.1 lx HXX.out.2.2.2
            rw [HLX.out] at hsB
            have HSB := Lib.hid hsB
            clear hsB
            obtain ⟨k0, k1, k2, k3, kb⟩ := HK.out W6 T6.out.below
            rw [HLX.out] at k3
            go_upto_region 19 with (go_at_call 16; refine HSB.out.mono ?_; rintro e w8 ⟨o2, Sb, evb, tb, Ob', hR2, he, hA8, -⟩; rw [show outV o2 = .agg #[.int .i64 o2.k, .int .i64 o2.n] from rfl] at he; subst he; have hdet := OneRel.det HRA.out.1 hR2; obtain ⟨rfl, rfl, rfl, rfl⟩ := hdet; have HA8 := Lib.hid hA8; clear hR2 hA8)
            have hr8 := HA8.out.kept.block k5 (by have := HR5.out.1; exact (Array.getElem?_eq_some_iff.1 this).1) HR5.out.2.2
            rw [HR5.out.1] at hr8
            have hbn : Below w8.heap.size w8 (w8.alloc (.cells #[.int .i64 o1.k, .int .i64 o1.n] 41)) := C.alloc_below _ _
            have hyn : (w8.alloc (.cells #[.int .i64 o1.k, .int .i64 o1.n] 41)).heap[w8.heap.size]? = some (.cells #[.int .i64 o1.k, .int .i64 o1.n] 41) := heap_alloc_new _ _
            have hr9 := keepB7 hr8 hbn
            have T8 := T6.out.actB HA8.out
            have T9 := Lib.hid (T8.under hbn)
            have HK8 := Lib.hid (show (∀ b, Oa' b → b ≠ w8.heap.size) ∧ (∀ b, Ob' b → b ≠ w8.heap.size) from ⟨fun b hb => Nat.ne_of_lt (T8.a.lt b hb), fun b hb => Nat.ne_of_lt (T8.b.lt b hb)⟩)
            have HK5 := Lib.hid (show ¬ Ob' k5 from fun h => by
              rcases HA8.out.own k5 h with h1 | h1
              · exact HR5.out.2.2 h1
              · have h2 := (Array.getElem?_eq_some_iff.1 HR5.out.1).1
                omega)
            clear k0 k1 k2 k3 kb hbn T8 hr8 HSB
            generalize w8.alloc (.cells #[.int .i64 o1.k, .int .i64 o1.n] 41) = W9 at hyn hr9 T9 ⊢
            generalize w8.heap.size = k8 at hyn HK8 ⊢
            have HR9 := Lib.hid (And.intro hr9 hyn)
            clear hr9 hyn
            -- what both told
            have HTA := Lib.hid T9.out.a.tell
            go_upto_region 20 with
              (first
                | (go_at_call 13; refine HTA.out.mono ?_; rintro e w10 ⟨Oa2, v1, B1', rfl, hA10, hrow1, hown1⟩; have hT10 := T9.out.actA hA10; have HTB := Lib.hid hT10.b.tell; have HX10 := Lib.hid (And.intro hA10 (And.intro hrow1 (And.intro hown1 hT10))); clear HTA hA10 hrow1 hown1 hT10)
                | (go_at_call 13; refine HTB.out.mono ?_; rintro e w11 ⟨Ob2, v2, B2', rfl, hA11, hrow2, hown2⟩; have hT11 := HX10.out.2.2.2.actB hA11; have hrow1' := own_keep HX10.out.2.1 (w' := w11) (fun b hb => hA11.kept.block b (by obtain ⟨_, h⟩ := own_blk HX10.out.2.1 hb; exact (Array.getElem?_eq_some_iff.1 h).1) (T9.out.ab b (HX10.out.2.2.1 b hb))); have hte := told_eq hrow1' hrow2 (by have := HRA.out.2; omega); have HTE := Lib.hid hte; have HX11 := Lib.hid (And.intro hA11 hT11); clear HTB hA11 hrow2 hown2 hT11 hrow1' hte)
                | (go_at_call 12; refine HTE.out.mono ?_; rintro e w12 ⟨rfl, hb12⟩; have HB12 := Lib.hid hb12; clear HTE hb12))
            have T12 := Lib.hid (HX11.out.2.under HB12.out)
            have hq10 : w10.heap[k5]? = some (.cells #[.int .i64 o1.k, .int .i64 o1.n] 41) ∧ w10.heap[k8]? = some (.cells #[.int .i64 o1.k, .int .i64 o1.n] 41) :=
              ⟨(HX10.out.1.kept.block k5 (Array.getElem?_eq_some_iff.1 HR9.out.1).1 HR5.out.2.1).trans HR9.out.1, (HX10.out.1.kept.block k8 (Array.getElem?_eq_some_iff.1 HR9.out.2).1 fun h => HK8.out.1 k8 h rfl).trans HR9.out.2⟩
            have hq11 : w11.heap[k5]? = some (.cells #[.int .i64 o1.k, .int .i64 o1.n] 41) ∧ w11.heap[k8]? = some (.cells #[.int .i64 o1.k, .int .i64 o1.n] 41) :=
              ⟨(HX11.out.1.kept.block k5 (Array.getElem?_eq_some_iff.1 hq10.1).1 HK5.out).trans hq10.1, (HX11.out.1.kept.block k8 (Array.getElem?_eq_some_iff.1 hq10.2).1 fun h => HK8.out.2 k8 h rfl).trans hq10.2⟩
            obtain ⟨y0, y1, yf, yl⟩ := cells2 (keepB7 hq11.1 HB12.out)
            obtain ⟨z0, z1, zf, zl⟩ := cells2 (keepB7 hq11.2 HB12.out)
            clear hq10 hq11
            have HLA := Lib.hid T12.out.a.live
            have HLB := Lib.hid T12.out.b.live
            obtain ⟨hw1, hw2, hw3⟩ := HI.out
            go_wp2_with
              (first
                | (go_at_call 15; refine HLA.out.mono ?_; rintro e w13 ⟨rfl, rfl⟩)
                | (go_at_call 15; refine HLB.out.mono ?_; rintro e w14 ⟨rfl, rfl⟩)
                | fail)
            go_roundw
            case rel =>
              have h1 := HN5.out.2.1
              have h2 := HN5.out.2.2.1
              have h3 := SZ.out.sz
              have h4 := SZ.out.ev
              have h5 := HFU.out.2
              exact ⟨i + 1, _, _, _, _, _, _, _, _, rfl, by omega, T12.out, ⟨HN5.out.2.2.2, HSC5.out.1, HN5.out.1, HSC5.out.2.1, by omega, HSC5.out.2.2.1, by omega, HSC5.out.2.2.2.1, HSC5.out.2.2.2.2⟩⟩
            case measure =>
              show n - ((i : Int) + 1).toNat < n - (i : Int).toNat
              omega
        · have t1 := ge_dec' i n hi
          go_wp2
          go_ret
          exact ⟨rfl, T0.out.below⟩
    · have hnn := Lib.hid (show ∀ w1, Below w.heap.size w w1 → Calls Tryd.prog 7 #[.agg #[.slice oaf nf capf, .slice oac ncs capc], .int .i64 words] w1 (fun e w' => e = .returned (.tuple #[.pointer none, .int .i64 30]) ∧ Below w1.heap.size w1 w') from fun w1 hb => (hnew.out w1 hb).mono (by
        rintro e w' ⟨hb, ⟨_, he⟩ | ⟨h, _⟩⟩
        · exact ⟨he, hb⟩
        · exact absurd h hok))
      clear hnew hok
      have hn3 := Lib.hid (hnn.out w2 HBW2.out)
      go_upto_region 8 with (go_at_call 7; refine hn3.out.mono ?_; rintro e w3 ⟨rfl, hb3⟩; have HB3 := Lib.hid hb3; clear hb3 hn3)
      have HBW3 := Lib.hid (HBW2.out.trans (HB3.out.mono HBW2.out.size))
      have HX3 := Lib.hid (keepB7 HX2.out HB3.out)
      clear a0 a1 af al
      obtain ⟨a0, a1, af, al⟩ := cells2 HX3.out
      have hn4 := Lib.hid (hnn.out w3 HBW3.out)
      go_upto_region 9 with (go_at_call 7; refine hn4.out.mono ?_; rintro e w4 ⟨rfl, hb3⟩; have HB4 := Lib.hid hb3; clear hb3 hn4)
      have HBW4 := Lib.hid (HBW3.out.trans (HB4.out.mono HBW3.out.size))
      have HX4 := Lib.hid (keepB7 HX3.out HB4.out)
      clear a0 a1 af al
      obtain ⟨a0, a1, af, al⟩ := cells2 HX4.out
      have hn5 := Lib.hid (hnn.out w4 HBW4.out)
      go_upto_region 10 with (go_at_call 7; refine hn5.out.mono ?_; rintro e w5 ⟨rfl, hb3⟩; have HB5 := Lib.hid hb3; clear hb3 hn5)
      have HBW5 := Lib.hid (HBW4.out.trans (HB5.out.mono HBW4.out.size))
      have HX5 := Lib.hid (keepB7 HX4.out HB5.out)
      clear a0 a1 af al
      obtain ⟨a0, a1, af, al⟩ := cells2 HX5.out
      clear a0 a1 af al
      go_wp2
      go_ret
      exact ⟨rfl, HBW5.out⟩
end Go.Proofs.YtgpkhdccchpljaaDoor
