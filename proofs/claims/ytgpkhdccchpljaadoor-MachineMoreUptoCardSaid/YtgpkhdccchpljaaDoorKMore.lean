/-
  MachineMore of the law of package machine. Conditions: the arguments lie in the heap; no instruction has more labels than a bulk can hold.
-/
import Derived.Test.YtgpkhdccchpljaaDoorKMoreQ
import Derived.Test.YtgpkhdccchpljaaDoorKJOver
import Derived.Lib.MinMax
import Derived.Test.YtgpkhdccchpljaaDoorKAppB
namespace Go.Proofs.YtgpkhdccchpljaaDoor
open Go.RowKit
open M (Wd MS RepAt Owned Kept Turned)
open C (In Cr Pg PgOk)

/-- how much there can be after i acts -/
structure SzM (p : Pg) (i : Nat) (ea : List (Int × Int)) (S : MS) (ls : List Wd) : Prop where
  cx : CxOk ⟨p, ea, 1⟩
  m : MemOk S
  sz : S.blocks.length ≤ i * 3001
  ev : ea.length ≤ i
  ln : ls.length ≤ i
  lr : ∀ x ∈ ls, inR x.n
theorem info38 : (Tryd.prog.info? 38).map (fun i => (i.zero, i.size, i.bytes)) = some (some (.agg #[.bool false, .int .i64 0, .int .i64 0]), 3, 24) := by kernel_rfl
theorem memOk_up {r : Int} {S : MS} (h : MemOk S) : MemOk (upS r S) := h
theorem cancelO_ok {x : Wd} {z : Out × Se} (h1 : MemOk z.2.S) : MemOk (cancelO x z).2 ∧ (cancelO x z).2.blocks.length = z.2.S.blocks.length := by
  have h2 := free_ok h1 x.p x.a x.n
  unfold cancelO
  split
  · exact ⟨h1, rfl⟩
  · split
    · exact h2
    · exact h2
theorem startR_inR (p : Pg) {S : MS} (h : MemOk S) (co : Int) (hco : inR co) (args : List Int) (ha : ∀ n ∈ args, inR n) : inR (startR p S co args).1.1.n := by
  obtain ⟨h1, h2, h3⟩ := frame_ok p h co hco args ha
  unfold startR
  split
  · exact inR_0
  · split
    · exact inR_0
    · exact h3

set_option maxRecDepth 100000 in
set_option maxHeartbeats 20000000 in
theorem machineMore_walk (w : World) (fv cv : Value) (p : Pg) (words fuel room more : Int) (v5 : Value) (l : List Ac) (hP : C.PgV w fv cv p) (hL : C.LabOk p) (hl0 : ∀ f ∈ p.fs, ∀ x ∈ f, x.l.length * 8 ≤ 140737488355328) (hin : ∀ f ∈ p.fs, ∀ x ∈ f, inR x.b) (ht : C.TabAt w) (h5 : ActsV w v5 l) :
    Calls Tryd.prog 3 #[.agg #[fv, cv], .int .i64 words, .int .i64 fuel, .int .i64 room, .int .i64 more, v5] w fun e w' => e = .returned (.bool true) ∧ Below w.heap.size w w' := by
  have hP' := hP
  obtain ⟨⟨oaf, capf, bf, off, rfl, -, -, -, -⟩, oac, capc, bc, offc, rfl, -, -, -, -⟩ := hP'
  obtain ⟨oal, capl, bl, ofl, rfl, l3, l4⟩ := h5
  obtain ⟨nf, hnf⟩ : ∃ n, p.fs.length = n := ⟨_, rfl⟩
  obtain ⟨ncs, hncs⟩ : ∃ m, p.cs.length = m := ⟨_, rfl⟩
  rw [hnf, hncs] at hP ⊢
  clear hnf hncs
  obtain ⟨n, hn⟩ : ∃ n, l.length = n := ⟨_, rfl⟩
  rw [hn] at l3 ⊢
  have HLL := Lib.hid (And.intro l3 (And.intro l4 hn))
  clear l3 l4 hn
  obtain ⟨W, hW⟩ : ∃ W, W = w.alloc (.cells #[.slice oaf nf capf, .slice oac ncs capc] 25) := ⟨_, rfl⟩
  have hbW : Below w.heap.size w W := by rw [hW]; exact C.alloc_below _ _
  have hx0 : W.heap[w.heap.size]? = some (.cells #[.slice oaf nf capf, .slice oac ncs capc] 25) := by rw [hW, heap_alloc_new]
  have hts := ht.lt
  have hwk := Lib.hid (works_any W (ht.below hbW hts))
  have hov := Lib.hid (fun (w1 : World) (hb : Below w.heap.size w w1) => over_any (hP.below hb))
  have hnew := Lib.hid (fun (w1 : World) (ws : Int) (hb : Below w.heap.size w w1) => new_any (hP.below hb) hL (ht.below hb hts) hl0 ws 1)
  have HIN := Lib.hid hin
  clear hP hL ht hl0 hts hin
  obtain ⟨B, hB⟩ : ∃ B, B = w.heap.size := ⟨_, rfl⟩
  rw [← hB] at hx0
  have HW := Lib.hid hbW
  have HX0 := Lib.hid hx0
  go_enter Tryd.func3, Tryd.ntmps3
  go_upto_region 1 with fail
  rw [← hW]
  simp only [← hB]
  clear hW hx0 hbW
  replace hB := Lib.hid hB
  go_upto_region 4 with (go_at_call 5; refine hwk.out.mono ?_; rintro e w1 ⟨rfl, hb1⟩; have HB1 := Lib.hid hb1; clear hwk hb1)
  have hbw1 := HW.out.trans (HB1.out.mono HW.out.size)
  have HBW1 := Lib.hid hbw1
  have HX1 := Lib.hid (keepB7 HX0.out HB1.out)
  clear hbw1
  obtain ⟨a0, a1, af, al⟩ := cells2 HX1.out
  have HOV := Lib.hid (hov.out w1 HBW1.out)
  clear hov HX0
  go_upto_region 5 with (go_at_call 6; refine HOV.out.mono ?_; rintro e w2 ⟨rfl, hb2⟩; have HB2 := Lib.hid hb2; clear HOV hb2)
  have HBW2 := Lib.hid (HBW1.out.trans (HB2.out.mono HBW1.out.size))
  have HX2 := Lib.hid (keepB7 HX1.out HB2.out)
  clear a0 a1 af al HX1
  cases hob : overB p with
  | true =>
    go_wp2
    go_ret
    exact ⟨rfl, HBW2.out⟩
  | false =>
    by_cases h1 : 60 < n
    · have t1 : decide ((60 : Int) < n) = true := by simp; omega
      clear h1
      go_wp2
      go_ret
      exact ⟨rfl, HBW2.out⟩
    by_cases h2 : 3000 < fuel
    · have t1 : decide ((60 : Int) < n) = false := by simp; omega
      have t2 : decide (3000 < fuel) = true := by simp; omega
      clear h1 h2
      go_wp2
      go_ret
      exact ⟨rfl, HBW2.out⟩
    by_cases h3 : 2000 < words
    · have t1 : decide ((60 : Int) < n) = false := by simp; omega
      have t2 : decide (3000 < fuel) = false := by simp; omega
      have t3 : decide (2000 < words) = true := by simp; omega
      clear h1 h2 h3
      go_wp2
      go_ret
      exact ⟨rfl, HBW2.out⟩
    by_cases h4 : more < 0
    · have t1 : decide ((60 : Int) < n) = false := by simp; omega
      have t2 : decide (3000 < fuel) = false := by simp; omega
      have t3 : decide (2000 < words) = false := by simp; omega
      have t4 : decide (more < 0) = true := by simp; omega
      clear h1 h2 h3 h4
      go_wp2
      go_ret
      exact ⟨rfl, HBW2.out⟩
    by_cases h5 : 3000 < more
    · have t1 : decide ((60 : Int) < n) = false := by simp; omega
      have t2 : decide (3000 < fuel) = false := by simp; omega
      have t3 : decide (2000 < words) = false := by simp; omega
      have t4 : decide (more < 0) = false := by simp; omega
      have t5 : decide (3000 < more) = true := by simp; omega
      clear h1 h2 h3 h4 h5
      go_wp2
      go_ret
      exact ⟨rfl, HBW2.out⟩
    by_cases h6 : room < 0
    · have t1 : decide ((60 : Int) < n) = false := by simp; omega
      have t2 : decide (3000 < fuel) = false := by simp; omega
      have t3 : decide (2000 < words) = false := by simp; omega
      have t4 : decide (more < 0) = false := by simp; omega
      have t5 : decide (3000 < more) = false := by simp; omega
      have t6 : decide (room < 0) = true := by simp; omega
      clear h1 h2 h3 h4 h5 h6
      go_wp2
      go_ret
      exact ⟨rfl, HBW2.out⟩
    by_cases h7 : 2000 < room
    · have t1 : decide ((60 : Int) < n) = false := by simp; omega
      have t2 : decide (3000 < fuel) = false := by simp; omega
      have t3 : decide (2000 < words) = false := by simp; omega
      have t4 : decide (more < 0) = false := by simp; omega
      have t5 : decide (3000 < more) = false := by simp; omega
      have t6 : decide (room < 0) = false := by simp; omega
      have t7 : decide (2000 < room) = true := by simp; omega
      clear h1 h2 h3 h4 h5 h6 h7
      go_wp2
      go_ret
      exact ⟨rfl, HBW2.out⟩
    have t1 : decide ((60 : Int) < n) = false := by simp; omega
    have t2 : decide (3000 < fuel) = false := by simp; omega
    have t3 : decide (2000 < words) = false := by simp; omega
    have t4 : decide (more < 0) = false := by simp; omega
    have t5 : decide (3000 < more) = false := by simp; omega
    have t6 : decide (room < 0) = false := by simp; omega
    have t7 : decide (2000 < room) = false := by simp; omega
    have HFU := Lib.hid (show fuel ≤ 3000 ∧ words ≤ 2000 ∧ 0 ≤ more ∧ more ≤ 3000 ∧ 0 ≤ room ∧ room ≤ 2000 ∧ n ≤ 60 by omega)
    clear h1 h2 h3 h4 h5 h6 h7
    go_upto_region 7 with fail
    clear t1 t2 t3 t4 t5 t6 t7
    obtain ⟨a0, a1, af, al⟩ := cells2 HX2.out
    by_cases hok : PgOk p
    · have HOK := Lib.hid hok
      clear hok
      go_upto_region 8 with (go_at_call 7; refine (hnew.out w2 _ HBW2.out).mono ?_; rintro e w3 hpost; obtain ⟨ma, Oa, rfl, hb3, hMa, hOa⟩ := new_mch HOK.out hpost; have HM3 := Lib.hid (And.intro hb3 (And.intro hMa hOa)); clear hb3 hMa hOa hpost)
      have HBW3 := Lib.hid (HBW2.out.trans (HM3.out.1.mono HBW2.out.size))
      have HX3 := Lib.hid (keepB7 HX2.out HM3.out.1)
      clear a0 a1 af al
      obtain ⟨a0, a1, af, al⟩ := cells2 HX3.out
      have hws : wrap64 (max words 0 + room) = max words 0 + room := by have := HFU.out; unfold wrap64; omega
      go_upto_region 9 with (go_at_call 7; refine (hnew.out w3 (max words 0 + room) HBW3.out).mono ?_; rintro e w4 hpost; obtain ⟨mb, Ob, rfl, hb3, hMa, hOa⟩ := new_mch HOK.out hpost; have HM4 := Lib.hid (And.intro hb3 (And.intro hMa hOa)); clear hb3 hMa hOa hpost)
      clear a0 a1 af al hnew hws
      have HTR := Lib.hid (show Duo w w4 p ma mb [] ⟨min (max words 0) 1048576, []⟩ [] Oa [] (upS room ⟨min (max words 0) 1048576, []⟩) [] Ob (.slice none 0 0) [] (.slice none 0 0) [] by
        obtain ⟨ba, Ma, ha⟩ := HM3.out
        obtain ⟨bb, Mb, hb⟩ := HM4.out
        have s2 := HBW2.out.size
        have s3 := HBW3.out.size
        have hf := HFU.out
        have e1 : (⟨min (max (max words 0 + room) 0) 1048576, []⟩ : MS) = upS room ⟨min (max words 0) 1048576, []⟩ := by
          unfold upS
          congr 1
          simp only
          omega
        rw [e1] at Mb
        refine ⟨Ma.under bb, Mb, HBW3.out.trans (bb.mono s3), fun b h => Nat.le_trans s2 (ha b h), fun b h => Nat.le_trans s3 (hb b h), fun b h1 h2 => ?_, World.ownsRow_nil _ _ _ _, World.ownsRow_nil _ _ _ _, (fun b hb => by cases hb), (fun b hb => by cases hb), (fun b hb => by cases hb)⟩
        have := Ma.lt b h1; have := hb b h2; omega)
      have HCX := Lib.hid (show CxOk ⟨p, [], 1⟩ from ⟨HOK.out, HIN.out, fun e n h => by simp [brought] at h⟩)
      clear HM3 HM4 HX2 HX3 HBW1 HBW2 HBW3 HB1 HB2
      go_wp2_with fail
      go_loopw [19, 20, 21] (fun u19 u20 u21 wr => ∃ (i : Nat) (S : MS) (evs : List (Int × Int)) (Oa Ob : Nat → Prop) (ls : List Wd) (ox oy : Option Addr) (cx cy : Nat), u19 = .slice ox ls.length cx ∧ u20 = .slice oy ls.length cy ∧ u21 = .int .i64 i ∧ i ≤ n ∧ Duo w wr p ma mb evs S [] Oa evs (upS room S) [] Ob (.slice ox ls.length cx) ls (.slice oy ls.length cy) ls ∧ SzM p i evs S ls) (fun _ _ u21 _ => match u21 with | .int _ k => n - k.toNat | _ => 0)
      case atStart => exact ⟨0, _, _, _, _, [], none, none, 0, 0, rfl, rfl, rfl, Nat.zero_le _, HTR.out, ⟨HCX.out, fun l h => by simp at h, by simp, by simp, by simp, fun x h => by simp at h⟩⟩
      case round =>
        clear HTR Oa Ob
        obtain ⟨i, S, evs, Oa, Ob, ls, ox, oy, cx, cy, rfl, rfl, rfl, hin, hTR, hSZ⟩ := hrel
        obtain ⟨m, hm⟩ : ∃ m, ls.length = m := ⟨_, rfl⟩
        rw [hm] at hTR ⊢
        have HLM := Lib.hid hm
        clear hm
        have T0 := Lib.hid hTR
        have SZ := Lib.hid hSZ
        clear hTR hSZ
        by_cases hi : i < n
        · have HT := Lib.hid (lt_dec' i n hi)
          have HI := Lib.hid (wrapm i (by have := HFU.out; omega))
          have hi60 : i ≤ 60 := by have := HFU.out; omega
          obtain ⟨x, hx⟩ : ∃ x, l[i]? = some x := ⟨_, List.getElem?_eq_getElem (by have := HLL.out.2.2; omega)⟩
          obtain ⟨rfl, hbl⟩ := HLL.out.1 (by omega)
          obtain ⟨⟨lx, kx, hlx⟩, hxa, hxn, hxl⟩ := HLL.out.2.1 i x hx
          have HXX := Lib.hid (And.intro hxa (And.intro hxn (And.intro hxl hlx)))
          have kb : bl < wr.heap.size := Nat.lt_of_lt_of_le hbl T0.out.below.size
          have k0 := (T0.out.below.cell (p := ⟨bl, ofl + i * 4, none⟩) hbl).trans kx.1
          have k1 := (T0.out.below.cell (p := ⟨bl, ofl + i * 4 + 1, none⟩) hbl).trans kx.2.1
          have k2 := (T0.out.below.cell (p := ⟨bl, ofl + i * 4 + 2, none⟩) hbl).trans kx.2.2.1
          have k3 := (T0.out.below.cell (p := ⟨bl, ofl + i * 4 + 3, none⟩) hbl).trans kx.2.2.2
          have hii : (i : Int) < n := by omega
          obtain ⟨oq, nq, cq, hlv⟩ : ∃ ox nx cx, lx = .slice ox nx cx := by obtain ⟨_, _, _, _, h, _⟩ := hlx; exact ⟨_, _, _, h⟩
          rw [hlv] at k3
          have HLX := Lib.hid hlv
          clear hxa hxn hxl kx hx hbl hlx hlv
          have t1 := HT.out
          go_upto_region 17 with fail
          have hb1 : Below wr.heap.size wr (wr.alloc (.cells #[.int .i64 x.k, .int .i64 x.a, .int .i64 x.n, .slice oq nq cq] 36)) := C.alloc_below _ _
          have T2 := Lib.hid (T0.out.under hb1)
          have B6 := Lib.hid (Bx.new T0.out (.cells #[.int .i64 x.k, .int .i64 x.a, .int .i64 x.n, .slice oq nq cq] 36))
          have hg5 := Lib.hid T0.out.below.size
          have hz7 := Lib.hid (show (wr.alloc (.cells #[.int .i64 x.k, .int .i64 x.a, .int .i64 x.n, .slice oq nq cq] 36)).heap.size = wr.heap.size + 1 by simp)
          clear hb1 T0
          generalize wr.alloc (.cells #[.int .i64 x.k, .int .i64 x.a, .int .i64 x.n, .slice oq nq cq] 36) = W3 at T2 B6 hz7 ⊢
          generalize wr.heap.size = k4 at B6 hg5 hz7  ⊢
          clear t1 k0 k1 k2 k3 kb
          obtain ⟨x0, x1, x2, x3, xf, xl⟩ := cells4m B6.out.at_
          by_cases c0 : x.k.tmod 4 = 0
          · have t2 : (x.k.tmod 4 == 0) = true := by simpa using c0
            obtain ⟨⟨⟨y, o⟩, S'⟩, hst⟩ : ∃ q, startR p S x.a x.l = q := ⟨_, rfl⟩
            have hsA := T2.out.a.start (W0 := w) (by have := SZ.out.sz; omega) T2.out.below T2.out.oa x.a x.l lx HXX.out.2.2.2
            rw [hst, HLX.out] at hsA
            simp only [wdW, outV] at hsA
            have HSA := Lib.hid hsA
            have HST := Lib.hid hst
            clear hsA hst c0
            go_upto_region 20 with (go_at_call 8; refine HSA.out.mono ?_; rintro e w2 ⟨Oa2, rfl, hA2⟩; have HA2 := Lib.hid hA2; clear hA2 HSA)
            clear x0 x1 x2 x3 xf xl
            have T8 := Lib.hid (T2.out.actA HA2.out)
            have B9 := Lib.hid (B6.out.actA HA2.out)
            clear B6 T2 HA2
            have hb10 : Below w2.heap.size w2 (w2.alloc (.cells #[.bool y.p, .int .i64 y.a, .int .i64 y.n] 38)) := C.alloc_below _ _
            have T11 := Lib.hid (T8.out.under hb10)
            have B15 := Lib.hid (B9.out.under hb10)
            have B16 := Lib.hid (Bx.new T8.out (.cells #[.bool y.p, .int .i64 y.a, .int .i64 y.n] 38))
            have hg14 := Lib.hid T8.out.below.size
            have ne17 := Lib.hid (show k4 ≠ w2.heap.size from Nat.ne_of_lt B9.out.lt)
            have hz18 := Lib.hid (show (w2.alloc (.cells #[.bool y.p, .int .i64 y.a, .int .i64 y.n] 38)).heap.size = w2.heap.size + 1 by simp)
            clear hb10 B9 T8
            generalize w2.alloc (.cells #[.bool y.p, .int .i64 y.a, .int .i64 y.n] 38) = W12 at T11 B15 B16 hz18 ⊢
            generalize w2.heap.size = k13 at B16 hg14 hz18 ne17 ⊢
            have hb19 : Below W12.heap.size W12 (W12.alloc (.cells #[.int .i64 o.k, .int .i64 o.n] 41)) := C.alloc_below _ _
            have T20 := Lib.hid (T11.out.under hb19)
            have B24 := Lib.hid (B15.out.under hb19)
            have B25 := Lib.hid (B16.out.under hb19)
            have B26 := Lib.hid (Bx.new T11.out (.cells #[.int .i64 o.k, .int .i64 o.n] 41))
            have hg23 := Lib.hid T11.out.below.size
            have ne27 := Lib.hid (show k4 ≠ W12.heap.size from Nat.ne_of_lt B15.out.lt)
            have ne28 := Lib.hid (show k13 ≠ W12.heap.size from Nat.ne_of_lt B16.out.lt)
            have hz29 := Lib.hid (show (W12.alloc (.cells #[.int .i64 o.k, .int .i64 o.n] 41)).heap.size = W12.heap.size + 1 by simp)
            clear hb19 B15 B16 T11
            generalize W12.alloc (.cells #[.int .i64 o.k, .int .i64 o.n] 41) = W21 at T20 B24 B25 B26 hz29 ⊢
            obtain ⟨k22, hk30⟩ : ∃ k, k = k13 + 1 := ⟨_, rfl⟩
            rw [hz18.out, ← hk30] at B26 hg23 hz29 ne27 ne28
            simp only [← hk30]
            replace hk30 := Lib.hid hk30
            have HOK2 := Lib.hid (start_okk p SZ.out.m x.a HXX.out.1 x.l HXX.out.2.2.1)
            have HYR := Lib.hid (startR_inR p SZ.out.m x.a HXX.out.1 x.l HXX.out.2.2.1)
            rw [HST.out] at HOK2 HYR
            obtain ⟨x0, x1, x2, x3, xf, xl⟩ := cells4m B24.out.at_
            by_cases h5 : o.k = 5
            · obtain ⟨⟨⟨y', o'⟩, S2'⟩, hst'⟩ : ∃ q, startR p (upS room S) x.a x.l = q := ⟨_, rfl⟩
              have hsB := T20.out.b.start (W0 := w) (by have h1 := SZ.out.sz; have h2 : (upS room S).blocks.length = S.blocks.length := rfl; omega) T20.out.below T20.out.ob x.a x.l lx HXX.out.2.2.2
              rw [hst', HLX.out] at hsB
              simp only [wdW, outV] at hsB
              have HSB := Lib.hid hsB
              clear hsB
              go_upto_region 21 with (go_at_call 8; refine HSB.out.mono ?_; rintro e w5 ⟨Ob2, rfl, hA5⟩; have HA5 := Lib.hid hA5; clear hA5 HSB)
              clear x0 x1 x2 x3 xf xl
              have T31 := Lib.hid (T20.out.actB HA5.out)
              have B32 := Lib.hid (B24.out.actB HA5.out)
              have B33 := Lib.hid (B25.out.actB HA5.out)
              have B34 := Lib.hid (B26.out.actB HA5.out)
              clear B24 B25 B26 T20 HA5
              have hb35 : Below w5.heap.size w5 (w5.alloc (.cells #[.bool y'.p, .int .i64 y'.a, .int .i64 y'.n] 38)) := C.alloc_below _ _
              have T36 := Lib.hid (T31.out.under hb35)
              have B40 := Lib.hid (B32.out.under hb35)
              have B41 := Lib.hid (B33.out.under hb35)
              have B42 := Lib.hid (B34.out.under hb35)
              have B43 := Lib.hid (Bx.new T31.out (.cells #[.bool y'.p, .int .i64 y'.a, .int .i64 y'.n] 38))
              have hg39 := Lib.hid T31.out.below.size
              have ne44 := Lib.hid (show k4 ≠ w5.heap.size from Nat.ne_of_lt B32.out.lt)
              have ne45 := Lib.hid (show k13 ≠ w5.heap.size from Nat.ne_of_lt B33.out.lt)
              have ne46 := Lib.hid (show k22 ≠ w5.heap.size from Nat.ne_of_lt B34.out.lt)
              have hz47 := Lib.hid (show (w5.alloc (.cells #[.bool y'.p, .int .i64 y'.a, .int .i64 y'.n] 38)).heap.size = w5.heap.size + 1 by simp)
              clear hb35 B32 B33 B34 T31
              generalize w5.alloc (.cells #[.bool y'.p, .int .i64 y'.a, .int .i64 y'.n] 38) = W37 at T36 B40 B41 B42 B43 hz47 ⊢
              generalize w5.heap.size = k38 at B43 hg39 hz47 ne44 ne45 ne46 ⊢
              have hb48 : Below W37.heap.size W37 (W37.alloc (.cells #[.int .i64 o'.k, .int .i64 o'.n] 41)) := C.alloc_below _ _
              have T49 := Lib.hid (T36.out.under hb48)
              have B53 := Lib.hid (B40.out.under hb48)
              have B54 := Lib.hid (B41.out.under hb48)
              have B55 := Lib.hid (B42.out.under hb48)
              have B56 := Lib.hid (B43.out.under hb48)
              have B57 := Lib.hid (Bx.new T36.out (.cells #[.int .i64 o'.k, .int .i64 o'.n] 41))
              have hg52 := Lib.hid T36.out.below.size
              have ne58 := Lib.hid (show k4 ≠ W37.heap.size from Nat.ne_of_lt B40.out.lt)
              have ne59 := Lib.hid (show k13 ≠ W37.heap.size from Nat.ne_of_lt B41.out.lt)
              have ne60 := Lib.hid (show k22 ≠ W37.heap.size from Nat.ne_of_lt B42.out.lt)
              have ne61 := Lib.hid (show k38 ≠ W37.heap.size from Nat.ne_of_lt B43.out.lt)
              have hz62 := Lib.hid (show (W37.alloc (.cells #[.int .i64 o'.k, .int .i64 o'.n] 41)).heap.size = W37.heap.size + 1 by simp)
              clear hb48 B40 B41 B42 B43 T36
              generalize W37.alloc (.cells #[.int .i64 o'.k, .int .i64 o'.n] 41) = W50 at T49 B53 B54 B55 B56 B57 hz62 ⊢
              obtain ⟨k51, hk63⟩ : ∃ k, k = k38 + 1 := ⟨_, rfl⟩
              rw [hz47.out, ← hk63] at B57 hg52 hz62 ne58 ne59 ne60 ne61
              simp only [← hk63]
              replace hk63 := Lib.hid hk63
              obtain ⟨z0, z1, zf, zl⟩ := cells2 B55.out.at_
              have t5 : (o.k == 5) = true := by simpa using h5
              clear h5 hst'
              go_wp2
              go_ret
              exact ⟨rfl, T49.out.below⟩
            have hst' : startR p (upS room S) x.a x.l = ((y, o), upS room S') := by
              rw [start_up (by have := HFU.out; omega) p S x.a x.l (by rw [HST.out]; exact h5), HST.out]
            have hsB := T20.out.b.start (W0 := w) (by have h1 := SZ.out.sz; have h2 : (upS room S).blocks.length = S.blocks.length := rfl; omega) T20.out.below T20.out.ob x.a x.l lx HXX.out.2.2.2
            rw [hst', HLX.out] at hsB
            simp only [wdW, outV] at hsB
            have HSB := Lib.hid hsB
            clear hsB
            go_upto_region 21 with (go_at_call 8; refine HSB.out.mono ?_; rintro e w5 ⟨Ob2, rfl, hA5⟩; have HA5 := Lib.hid hA5; clear hA5 HSB)
            clear x0 x1 x2 x3 xf xl
            have T31 := Lib.hid (T20.out.actB HA5.out)
            have B32 := Lib.hid (B24.out.actB HA5.out)
            have B33 := Lib.hid (B25.out.actB HA5.out)
            have B34 := Lib.hid (B26.out.actB HA5.out)
            clear B24 B25 B26 T20 HA5
            have hb35 : Below w5.heap.size w5 (w5.alloc (.cells #[.bool y.p, .int .i64 y.a, .int .i64 y.n] 38)) := C.alloc_below _ _
            have T36 := Lib.hid (T31.out.under hb35)
            have B40 := Lib.hid (B32.out.under hb35)
            have B41 := Lib.hid (B33.out.under hb35)
            have B42 := Lib.hid (B34.out.under hb35)
            have B43 := Lib.hid (Bx.new T31.out (.cells #[.bool y.p, .int .i64 y.a, .int .i64 y.n] 38))
            have hg39 := Lib.hid T31.out.below.size
            have ne44 := Lib.hid (show k4 ≠ w5.heap.size from Nat.ne_of_lt B32.out.lt)
            have ne45 := Lib.hid (show k13 ≠ w5.heap.size from Nat.ne_of_lt B33.out.lt)
            have ne46 := Lib.hid (show k22 ≠ w5.heap.size from Nat.ne_of_lt B34.out.lt)
            have hz47 := Lib.hid (show (w5.alloc (.cells #[.bool y.p, .int .i64 y.a, .int .i64 y.n] 38)).heap.size = w5.heap.size + 1 by simp)
            clear hb35 B32 B33 B34 T31
            generalize w5.alloc (.cells #[.bool y.p, .int .i64 y.a, .int .i64 y.n] 38) = W37 at T36 B40 B41 B42 B43 hz47 ⊢
            generalize w5.heap.size = k38 at B43 hg39 hz47 ne44 ne45 ne46 ⊢
            have hb48 : Below W37.heap.size W37 (W37.alloc (.cells #[.int .i64 o.k, .int .i64 o.n] 41)) := C.alloc_below _ _
            have T49 := Lib.hid (T36.out.under hb48)
            have B53 := Lib.hid (B40.out.under hb48)
            have B54 := Lib.hid (B41.out.under hb48)
            have B55 := Lib.hid (B42.out.under hb48)
            have B56 := Lib.hid (B43.out.under hb48)
            have B57 := Lib.hid (Bx.new T36.out (.cells #[.int .i64 o.k, .int .i64 o.n] 41))
            have hg52 := Lib.hid T36.out.below.size
            have ne58 := Lib.hid (show k4 ≠ W37.heap.size from Nat.ne_of_lt B40.out.lt)
            have ne59 := Lib.hid (show k13 ≠ W37.heap.size from Nat.ne_of_lt B41.out.lt)
            have ne60 := Lib.hid (show k22 ≠ W37.heap.size from Nat.ne_of_lt B42.out.lt)
            have ne61 := Lib.hid (show k38 ≠ W37.heap.size from Nat.ne_of_lt B43.out.lt)
            have hz62 := Lib.hid (show (W37.alloc (.cells #[.int .i64 o.k, .int .i64 o.n] 41)).heap.size = W37.heap.size + 1 by simp)
            clear hb48 B40 B41 B42 B43 T36
            generalize W37.alloc (.cells #[.int .i64 o.k, .int .i64 o.n] 41) = W50 at T49 B53 B54 B55 B56 B57 hz62 ⊢
            obtain ⟨k51, hk63⟩ : ∃ k, k = k38 + 1 := ⟨_, rfl⟩
            rw [hz47.out, ← hk63] at B57 hg52 hz62 ne58 ne59 ne60 ne61
            simp only [← hk63]
            replace hk63 := Lib.hid hk63
            clear hst'
            have t5 : (o.k == 5) = false := by simpa using h5
            clear h5
            obtain ⟨y0, y1, y2, yf, yl⟩ := cells3 B54.out.at_
            obtain ⟨z0, z1, zf, zl⟩ := cells2 B55.out.at_
            obtain ⟨u0, u1, u2, uf, ul⟩ := cells3 B56.out.at_
            obtain ⟨v0, v1, vf, vl⟩ := cells2 B57.out.at_
            go_upto_region 25 with fail
            by_cases h2 : o.k = 2
            · have t6 : (o.k == 2) = true := by simpa using h2
              clear h2
              go_upto_region 26 with fail
              obtain ⟨i38, hi38, hz38, hs38, hb38⟩ := info_parts info38
              have HI38 := Lib.hid (And.intro hi38 (And.intro hz38 (And.intro hs38 hb38)))
              clear hi38 hz38 hs38 hb38 t5 t6 z0 z1 zf zl v0 v1 vf vl
              obtain ⟨hi38, hz38, hs38, hb38⟩ := HI38.out
              go_wp2_with (at_builtin; refine wpList_append_block rfl (.tmp 147) (.tmp 149) 33 rfl w.heap.size 38 i38 _ 3 24 Tryd.underlying33 hi38 hz38 hs38 hb38 rfl (by decide) (.slice ox m cx) m (ls.flatMap wdR) rfl ?c0 ⟨W50.heap.size, 0, none⟩ 1 1 (wdR y) rfl rfl ?c1 ?c2 ?c3 ?c4 ?c5 ?_)
              case c0 =>
                have h := (T49.out.under (C.alloc_below W50 (.cells #[.bool y.p, .int .i64 y.a, .int .i64 y.n] 38))).rx
                rw [HLM.out] at h
                exact h
              case c1 => exact C.new_cells W50 (wdR y) 38 _ rfl
              case c2 => intro u hu; simp [wdR] at hu; rcases hu with rfl | rfl | rfl <;> rfl
              case c3 => have := SZ.out.ln; have := HLM.out; unfold maxLen; omega
              case c4 => have := SZ.out.ln; have := HLM.out; omega
              case c5 => have := T49.out.below.size; simp; omega
              intro v5 w6 hown hg _ hnew
              replace hnew : ∀ b, v5.ownBlock = some b → ((.slice ox m cx) : Value).ownBlock = some b ∨ (W50.alloc (.cells #[.bool y.p, .int .i64 y.a, .int .i64 y.n] 38)).heap.size ≤ b := fun b hb => by simpa using hnew b hb
              have T64 := Lib.hid ((T49.out.under (C.alloc_below W50 _)).pushX y (by rw [HLM.out]; exact hown) hg hnew)
              have B65 := Lib.hid ((B53.out.under (C.alloc_below W50 _)).pushX hg hnew)
              have B66 := Lib.hid ((B54.out.under (C.alloc_below W50 _)).pushX hg hnew)
              have B67 := Lib.hid ((B55.out.under (C.alloc_below W50 _)).pushX hg hnew)
              have B68 := Lib.hid ((B56.out.under (C.alloc_below W50 _)).pushX hg hnew)
              have B69 := Lib.hid ((B57.out.under (C.alloc_below W50 _)).pushX hg hnew)
              obtain ⟨ov5, cv5, rfl⟩ : ∃ oo cc, v5 = .slice oo (m + 1) cc := by
                rcases hown.2 with ⟨h, h0⟩ | ⟨g, cap, cur, h, -⟩
                · omega
                · exact ⟨_, _, h⟩
              clear hown hg hnew hi38 hz38 hs38 hb38 B53 B54 B55 B56 B57 T49
              clear y0 y1 y2 yf yl u0 u1 u2 uf ul
              obtain ⟨u0, u1, u2, uf, ul⟩ := cells3 B68.out.at_
              obtain ⟨hi38, hz38, hs38, hb38⟩ := HI38.out
              go_wp2_with (at_builtin; refine wpList_append_block rfl (.tmp 151) (.tmp 153) 33 rfl w.heap.size 38 i38 _ 3 24 Tryd.underlying33 hi38 hz38 hs38 hb38 rfl (by decide) (.slice oy m cy) m (ls.flatMap wdR) rfl ?c0 ⟨w6.heap.size, 0, none⟩ 1 1 (wdR y) rfl rfl ?c1 ?c2 ?c3 ?c4 ?c5 ?_)
              case c0 =>
                have h := (T64.out.under (C.alloc_below w6 (.cells #[.bool y.p, .int .i64 y.a, .int .i64 y.n] 38))).ry
                rw [HLM.out] at h
                exact h
              case c1 => exact C.new_cells w6 (wdR y) 38 _ rfl
              case c2 => intro u hu; simp [wdR] at hu; rcases hu with rfl | rfl | rfl <;> rfl
              case c3 => have := SZ.out.ln; have := HLM.out; unfold maxLen; omega
              case c4 => have := SZ.out.ln; have := HLM.out; omega
              case c5 => have := T64.out.below.size; simp; omega
              intro v6 w7 hown hg _ hnew
              replace hnew : ∀ b, v6.ownBlock = some b → ((.slice oy m cy) : Value).ownBlock = some b ∨ (w6.alloc (.cells #[.bool y.p, .int .i64 y.a, .int .i64 y.n] 38)).heap.size ≤ b := fun b hb => by simpa using hnew b hb
              have T70 := Lib.hid ((T64.out.under (C.alloc_below w6 _)).pushY y (by rw [HLM.out]; exact hown) hg hnew)
              have B71 := Lib.hid ((B65.out.under (C.alloc_below w6 _)).pushY hg hnew)
              have B72 := Lib.hid ((B66.out.under (C.alloc_below w6 _)).pushY hg hnew)
              have B73 := Lib.hid ((B67.out.under (C.alloc_below w6 _)).pushY hg hnew)
              have B74 := Lib.hid ((B68.out.under (C.alloc_below w6 _)).pushY hg hnew)
              have B75 := Lib.hid ((B69.out.under (C.alloc_below w6 _)).pushY hg hnew)
              obtain ⟨ov6, cv6, rfl⟩ : ∃ oo cc, v6 = .slice oo (m + 1) cc := by
                rcases hown.2 with ⟨h, h0⟩ | ⟨g, cap, cur, h, -⟩
                · omega
                · exact ⟨_, _, h⟩
              clear hown hg hnew hi38 hz38 hs38 hb38 B65 B66 B67 B68 B69 T64
              obtain ⟨hw1, hw2, hw3⟩ := HI.out
              have e1 : (ls ++ [y]).length = m + 1 := by simp [HLM.out]
              go_wp2_with fail
              clear hw1 hw2 hw3
              go_roundw
              case rel => exact ⟨i + 1, S', evs, _, _, ls ++ [y], _, _, _, _, by rw [e1], by rw [e1], rfl, by omega, by rw [e1]; exact T70.out, ⟨SZ.out.cx, HOK2.out.1, by have h1 := SZ.out.sz; have h2 : S'.blocks.length ≤ S.blocks.length + 1 := HOK2.out.2; omega, by have := SZ.out.ev; omega, by have := SZ.out.ln; have := HLM.out; omega, fun x hx => by
                rcases List.mem_append.1 hx with h | h
                · exact SZ.out.lr x h
                · obtain rfl : x = y := by simpa using h
                  exact HYR.out⟩⟩
              case measure =>
                show n - ((i : Int) + 1).toNat < n - (i : Int).toNat
                omega
            have t6 : (o.k == 2) = false := by simpa using h2
            obtain ⟨hw1, hw2, hw3⟩ := HI.out
            have e1 := HLM.out
            go_wp2_with fail
            clear hw1 hw2 hw3
            go_roundw
            case rel => exact ⟨i + 1, S', evs, _, _, ls, _, _, _, _, by rw [e1], by rw [e1], rfl, by omega, by rw [e1]; exact T49.out, ⟨SZ.out.cx, HOK2.out.1, by have h1 := SZ.out.sz; have h2 : S'.blocks.length ≤ S.blocks.length + 1 := HOK2.out.2; omega, by have := SZ.out.ev; omega, by have := SZ.out.ln; omega, SZ.out.lr⟩⟩
            case measure =>
              show n - ((i : Int) + 1).toNat < n - (i : Int).toNat
              omega
          have n0 : (x.k.tmod 4 == 0) = false := by simpa using c0
          by_cases c1 : x.k.tmod 4 = 1
          · have t2 : (x.k.tmod 4 == 1) = true := by simpa using c1
            go_upto_region 31 with fail
            clear x0 x1 x2 x3 xf xl
            have hb8 : Below W3.heap.size W3 (W3.alloc (.cells #[.int .i64 0, .int .i64 0] 41)) := C.alloc_below _ _
            have T9 := Lib.hid (T2.out.under hb8)
            have B13 := Lib.hid (B6.out.under hb8)
            have B14 := Lib.hid (Bx.new T2.out (.cells #[.int .i64 0, .int .i64 0] 41))
            have hg12 := Lib.hid T2.out.below.size
            have ne15 := Lib.hid (show k4 ≠ W3.heap.size from Nat.ne_of_lt B6.out.lt)
            have hz16 := Lib.hid (show (W3.alloc (.cells #[.int .i64 0, .int .i64 0] 41)).heap.size = W3.heap.size + 1 by simp)
            clear hb8 B6 T2
            generalize W3.alloc (.cells #[.int .i64 0, .int .i64 0] 41) = W10 at T9 B13 B14 hz16 ⊢
            generalize W3.heap.size = k11 at B14 hg12 hz16 ne15 ⊢
            go_upto_region 32 with fail
            have hb17 : Below W10.heap.size W10 (W10.alloc (.cells #[.int .i64 0, .int .i64 0] 41)) := C.alloc_below _ _
            have T18 := Lib.hid (T9.out.under hb17)
            have B22 := Lib.hid (B13.out.under hb17)
            have B23 := Lib.hid (B14.out.under hb17)
            have B24 := Lib.hid (Bx.new T9.out (.cells #[.int .i64 0, .int .i64 0] 41))
            have hg21 := Lib.hid T9.out.below.size
            have ne25 := Lib.hid (show k4 ≠ W10.heap.size from Nat.ne_of_lt B13.out.lt)
            have ne26 := Lib.hid (show k11 ≠ W10.heap.size from Nat.ne_of_lt B14.out.lt)
            have hz27 := Lib.hid (show (W10.alloc (.cells #[.int .i64 0, .int .i64 0] 41)).heap.size = W10.heap.size + 1 by simp)
            clear hb17 B13 B14 T9
            generalize W10.alloc (.cells #[.int .i64 0, .int .i64 0] 41) = W19 at T18 B22 B23 B24 hz27 ⊢
            generalize W10.heap.size = k20 at B24 hg21 hz27 ne25 ne26 ⊢
            obtain ⟨x0, x1, x2, x3, xf, xl⟩ := cells4m B22.out.at_
            go_upto_region 33 with fail
            obtain ⟨yw, hyw⟩ : ∃ yw, wordL ls x.a = yw := ⟨_, rfl⟩
            have HYR := Lib.hid (show inR yw.n from hyw ▸ wordL_inR SZ.out.lr HXX.out.1)
            have HYW := Lib.hid hyw
            clear hyw c1
            have hwd := wordL_any T18.out.rx (by have := SZ.out.ln; omega) x.a
            rw [HYW.out] at hwd
            simp only [wdW] at hwd
            have HWD := Lib.hid hwd
            clear hwd
            go_upto_region 34 with
              (first
                | (go_at_call 10; refine HWD.out.mono ?_; rintro e waa ⟨rfl, hba⟩; have T28 := Lib.hid (T18.out.under hba); have B29 := Lib.hid (B22.out.under hba); have B30 := Lib.hid (B23.out.under hba); have B31 := Lib.hid (B24.out.under hba); have hpo := T28.out.a.poll SZ.out.cx SZ.out.m (by simp) (fuel) (by have := HFU.out; omega) (by have h1 := SZ.out.sz; have h2 := HFU.out; have h3 : (upS room S).blocks.length = S.blocks.length := rfl; omega) yw HYR.out; simp only [wdW] at hpo; have HPO := Lib.hid hpo; clear hpo HWD hba B22 B23 B24 T18 x0 x1 x2 x3 xf xl)
                | (go_at_call 9; refine HPO.out.mono ?_; rintro e wb ⟨z, Oa2, hz, hI, he, hA⟩; obtain ⟨oa, hoa⟩ : ∃ oa, pollO yw z = oa := ⟨_, rfl⟩; obtain ⟨fa, hfa⟩ : ∃ fa, z.2.fuel = fa := ⟨_, rfl⟩; rw [hoa, hfa] at he; simp only [outV] at he; subst he; have HZa := Lib.hid (And.intro hz hI); have HOa := Lib.hid (And.intro hoa hfa); have T32 := Lib.hid (T28.out.actA hA); have B33 := Lib.hid (B29.out.actA hA); have B34 := Lib.hid (B30.out.actA hA); have B35 := Lib.hid (B31.out.actA hA); clear hz hI hoa hfa hA HPO B29 B30 B31 T28; obtain ⟨y0, y1, yf, yl⟩ := cells2 B34.out.at_))
            clear y0 y1 yf yl
            have T36 := Lib.hid (T32.out.set2 B34.out (by have := hg12.out; have := T32.out.below.size; omega) (.int .i64 oa.k) (.int .i64 oa.n))
            have B38 := Lib.hid (B33.out.other2 ne15.out (.int .i64 oa.k) (.int .i64 oa.n))
            have B39 := Lib.hid (B34.out.set2 (.int .i64 oa.k) (.int .i64 oa.n))
            have B40 := Lib.hid (B35.out.other2 (Ne.symm ne26.out) (.int .i64 oa.k) (.int .i64 oa.n))
            clear B33 B34 B35 T32
            generalize (World.setCell (World.setCell wb _ _) _ _) = W37 at T36 B38 B39 B40 ⊢
            obtain ⟨x0, x1, x2, x3, xf, xl⟩ := cells4m B38.out.at_
            have hwf : wrap64 (max fuel 0 + more) = max fuel 0 + more := by have := HFU.out; unfold wrap64; omega
            by_cases he : oa.k = 4 ∨ oa.k = 5
            · have hwd := wordL_any T36.out.ry (by have := SZ.out.ln; omega) x.a
              rw [HYW.out] at hwd
              simp only [wdW] at hwd
              have HWD := Lib.hid hwd
              clear hwd
              go_upto_region 37 with
                (first
                  | (go_at_call 10; refine HWD.out.mono ?_; rintro e wab ⟨rfl, hba⟩; have T41 := Lib.hid (T36.out.under hba); have B42 := Lib.hid (B38.out.under hba); have B43 := Lib.hid (B39.out.under hba); have B44 := Lib.hid (B40.out.under hba); have hpo := T41.out.b.poll SZ.out.cx SZ.out.m (by simp) (max fuel 0 + more) (by have := HFU.out; omega) (by have h1 := SZ.out.sz; have h2 := HFU.out; have h3 : (upS room S).blocks.length = S.blocks.length := rfl; omega) yw HYR.out; simp only [wdW] at hpo; have HPO := Lib.hid hpo; clear hpo HWD hba B38 B39 B40 T36 x0 x1 x2 x3 xf xl)
                  | (go_at_call 9; refine HPO.out.mono ?_; rintro e wc ⟨z', Ob2, hz, hI, he, hA⟩; obtain ⟨ob, hoa⟩ : ∃ oa, pollO yw z' = oa := ⟨_, rfl⟩; obtain ⟨fb, hfa⟩ : ∃ fa, z'.2.fuel = fa := ⟨_, rfl⟩; rw [hoa, hfa] at he; simp only [outV] at he; subst he; have HZb := Lib.hid (And.intro hz hI); have HOb := Lib.hid (And.intro hoa hfa); have T45 := Lib.hid (T41.out.actB hA); have B46 := Lib.hid (B42.out.actB hA); have B47 := Lib.hid (B43.out.actB hA); have B48 := Lib.hid (B44.out.actB hA); clear hz hI hoa hfa hA HPO B42 B43 B44 T41; obtain ⟨y0, y1, yf, yl⟩ := cells2 B48.out.at_))
              clear y0 y1 yf yl
              have T49 := Lib.hid (T45.out.set2 B48.out (by have := hg21.out; have := T45.out.below.size; omega) (.int .i64 ob.k) (.int .i64 ob.n))
              have B51 := Lib.hid (B46.out.other2 ne25.out (.int .i64 ob.k) (.int .i64 ob.n))
              have B52 := Lib.hid (B47.out.other2 ne26.out (.int .i64 ob.k) (.int .i64 ob.n))
              have B53 := Lib.hid (B48.out.set2 (.int .i64 ob.k) (.int .i64 ob.n))
              clear B46 B47 B48 T45
              generalize (World.setCell (World.setCell wc _ _) _ _) = W50 at T49 B51 B52 B53 ⊢
              obtain ⟨y0, y1, yf, yl⟩ := cells2 B52.out.at_
              rcases he with he | he
              · have t5 : (oa.k == 5) = false := by rw [he]; rfl
                have t6 : (oa.k == 4) = true := by rw [he]; rfl
                clear he hwf
                go_wp2
                go_ret
                exact ⟨rfl, T49.out.below⟩
              · have t5 : (oa.k == 5) = true := by rw [he]; rfl
                clear he hwf
                go_wp2
                go_ret
                exact ⟨rfl, T49.out.below⟩
            have t5 : (oa.k == 5) = false := by simp; omega
            have t6 : (oa.k == 4) = false := by simp; omega
            have HE := Lib.hid he
            clear he
            have hwd := wordL_any T36.out.ry (by have := SZ.out.ln; omega) x.a
            rw [HYW.out] at hwd
            simp only [wdW] at hwd
            have HWD := Lib.hid hwd
            clear hwd
            go_upto_region 37 with
              (first
                | (go_at_call 10; refine HWD.out.mono ?_; rintro e wab ⟨rfl, hba⟩; have T41 := Lib.hid (T36.out.under hba); have B42 := Lib.hid (B38.out.under hba); have B43 := Lib.hid (B39.out.under hba); have B44 := Lib.hid (B40.out.under hba); have hpo := T41.out.b.poll SZ.out.cx SZ.out.m (by simp) (max fuel 0 + more) (by have := HFU.out; omega) (by have h1 := SZ.out.sz; have h2 := HFU.out; have h3 : (upS room S).blocks.length = S.blocks.length := rfl; omega) yw HYR.out; simp only [wdW] at hpo; have HPO := Lib.hid hpo; clear hpo HWD hba B38 B39 B40 T36 x0 x1 x2 x3 xf xl)
                | (go_at_call 9; refine HPO.out.mono ?_; rintro e wc ⟨z', Ob2, hz, hI, he, hA⟩; obtain ⟨ob, hoa⟩ : ∃ oa, pollO yw z' = oa := ⟨_, rfl⟩; obtain ⟨fb, hfa⟩ : ∃ fa, z'.2.fuel = fa := ⟨_, rfl⟩; rw [hoa, hfa] at he; simp only [outV] at he; subst he; have HZb := Lib.hid (And.intro hz hI); have HOb := Lib.hid (And.intro hoa hfa); have T45 := Lib.hid (T41.out.actB hA); have B46 := Lib.hid (B42.out.actB hA); have B47 := Lib.hid (B43.out.actB hA); have B48 := Lib.hid (B44.out.actB hA); clear hz hI hoa hfa hA HPO B42 B43 B44 T41; obtain ⟨y0, y1, yf, yl⟩ := cells2 B48.out.at_))
            clear y0 y1 yf yl
            have T49 := Lib.hid (T45.out.set2 B48.out (by have := hg21.out; have := T45.out.below.size; omega) (.int .i64 ob.k) (.int .i64 ob.n))
            have B51 := Lib.hid (B46.out.other2 ne25.out (.int .i64 ob.k) (.int .i64 ob.n))
            have B52 := Lib.hid (B47.out.other2 ne26.out (.int .i64 ob.k) (.int .i64 ob.n))
            have B53 := Lib.hid (B48.out.set2 (.int .i64 ob.k) (.int .i64 ob.n))
            clear B46 B47 B48 T45
            generalize (World.setCell (World.setCell wc _ _) _ _) = W50 at T49 B51 B52 B53 ⊢
            clear hwf
            have hd : z' = upQ room (max fuel 0 + more - fuel) z := by
              rcases poll_more (m := room) (d := max fuel 0 + more - fuel) (by have := HFU.out; omega) (by have := HFU.out; omega) HZa.out.1 (by rw [show fuel + (max fuel 0 + more - fuel) = max fuel 0 + more by omega]; exact HZb.out.1) with h | h
              · exact absurd (HOa.out.1 ▸ pollO_end (x := yw) h) HE.out
              · exact h
            subst hd
            have h1 := HOb.out.1
            have h2 := HOb.out.2
            rw [pollO_up] at h1
            obtain rfl : ob = oa := h1.symm.trans HOa.out.1
            have h3 : fb = fa + (max fuel 0 + more - fuel) := by rw [← h2, ← HOa.out.2]; rfl
            have HFB := Lib.hid h3
            clear h1 h2 h3 HOb HZb
            obtain ⟨y0, y1, yf, yl⟩ := cells2 B52.out.at_
            go_upto_region 39 with fail
            clear y0 y1 yf yl t5 t6
            have HTA := Lib.hid T49.out.a.tell
            go_upto_region 40 with
              (first
                | (go_at_call 13; refine HTA.out.mono ?_; rintro e w10 ⟨Oa3, v1, B1', rfl, hA10, hrow1, hown1⟩; have T54 := Lib.hid (T49.out.actA hA10); have B57 := Lib.hid (B51.out.actA hA10); have B58 := Lib.hid (B52.out.actA hA10); have B59 := Lib.hid (B53.out.actA hA10); have HTB := Lib.hid T54.out.b.tell; have HX10 := Lib.hid (And.intro hA10 (And.intro hrow1 hown1)); clear HTA hA10 hrow1 hown1 B51 B52 B53)
                | (go_at_call 13; refine HTB.out.mono ?_; rintro e w11 ⟨Ob3, v2, B2', rfl, hA11, hrow2, hown2⟩; have T55 := Lib.hid (T54.out.actB hA11); have hrow1' := own_keep HX10.out.2.1 (w' := w11) (fun b hb => hA11.kept.block b (by obtain ⟨_, h⟩ := own_blk HX10.out.2.1 hb; exact (Array.getElem?_eq_some_iff.1 h).1) (T49.out.ab b (HX10.out.2.2 b hb))); have hte := told_eq hrow1' hrow2 (by have := HZa.out.2.told; omega); have HTE := Lib.hid hte; have B60 := Lib.hid (B57.out.actB hA11); have B61 := Lib.hid (B58.out.actB hA11); have B62 := Lib.hid (B59.out.actB hA11); clear HTB hA11 hrow2 hown2 hrow1' hte B57 B58 B59)
                | (go_at_call 12; refine HTE.out.mono ?_; rintro e w12 ⟨rfl, hb12⟩; have T56 := Lib.hid (T55.out.under hb12); have B63 := Lib.hid (B60.out.under hb12); have B64 := Lib.hid (B61.out.under hb12); have B65 := Lib.hid (B62.out.under hb12); clear HTE hb12 B60 B61 B62))
            obtain ⟨y0, y1, yf, yl⟩ := cells2 B64.out.at_
            obtain ⟨z0, z1, zf, zl⟩ := cells2 B65.out.at_
            obtain ⟨D, hD⟩ : ∃ D, wrap64 (fb - fa) = D := ⟨_, rfl⟩
            have hD2 : wrap64 (wrap64 (more + max fuel 0) - fuel) = D := by
              rw [← hD, HFB.out]
              have := HFU.out
              unfold wrap64
              omega
            go_upto_region 42 with fail
            clear hD hD2
            by_cases h6 : ob.k = 6
            · have t5 : (ob.k == 6) = true := by simpa using h6
              clear h6
              go_wp2
              go_ret
              exact ⟨rfl, T56.out.below⟩
            have t5 : (ob.k == 6) = false := by simpa using h6
            clear h6
            obtain ⟨hw1, hw2, hw3⟩ := HI.out
            have e1 := HLM.out
            go_wp2_with fail
            clear hw1 hw2 hw3
            go_roundw
            case rel => exact ⟨i + 1, z.2.S, evs, _, _, ls, _, _, _, _, by rw [e1], by rw [e1], rfl, by omega, by rw [e1]; exact T56.out, ⟨SZ.out.cx, HZa.out.2.mem, by have h1 := SZ.out.sz; have h2 := HZa.out.2.made; have h3 := HFU.out; omega, by have := SZ.out.ev; omega, by have := SZ.out.ln; omega, SZ.out.lr⟩⟩
            case measure =>
              show n - ((i : Int) + 1).toNat < n - (i : Int).toNat
              omega
          have n1 : (x.k.tmod 4 == 1) = false := by simpa using c1
          by_cases c2 : x.k.tmod 4 = 2
          · have t2 : (x.k.tmod 4 == 2) = true := by simpa using c2
            go_upto_region 31 with fail
            clear x0 x1 x2 x3 xf xl
            have hb8 : Below W3.heap.size W3 (W3.alloc (.cells #[.int .i64 0, .int .i64 0] 41)) := C.alloc_below _ _
            have T9 := Lib.hid (T2.out.under hb8)
            have B13 := Lib.hid (B6.out.under hb8)
            have B14 := Lib.hid (Bx.new T2.out (.cells #[.int .i64 0, .int .i64 0] 41))
            have hg12 := Lib.hid T2.out.below.size
            have ne15 := Lib.hid (show k4 ≠ W3.heap.size from Nat.ne_of_lt B6.out.lt)
            have hz16 := Lib.hid (show (W3.alloc (.cells #[.int .i64 0, .int .i64 0] 41)).heap.size = W3.heap.size + 1 by simp)
            clear hb8 B6 T2
            generalize W3.alloc (.cells #[.int .i64 0, .int .i64 0] 41) = W10 at T9 B13 B14 hz16 ⊢
            generalize W3.heap.size = k11 at B14 hg12 hz16 ne15 ⊢
            go_upto_region 32 with fail
            have hb17 : Below W10.heap.size W10 (W10.alloc (.cells #[.int .i64 0, .int .i64 0] 41)) := C.alloc_below _ _
            have T18 := Lib.hid (T9.out.under hb17)
            have B22 := Lib.hid (B13.out.under hb17)
            have B23 := Lib.hid (B14.out.under hb17)
            have B24 := Lib.hid (Bx.new T9.out (.cells #[.int .i64 0, .int .i64 0] 41))
            have hg21 := Lib.hid T9.out.below.size
            have ne25 := Lib.hid (show k4 ≠ W10.heap.size from Nat.ne_of_lt B13.out.lt)
            have ne26 := Lib.hid (show k11 ≠ W10.heap.size from Nat.ne_of_lt B14.out.lt)
            have hz27 := Lib.hid (show (W10.alloc (.cells #[.int .i64 0, .int .i64 0] 41)).heap.size = W10.heap.size + 1 by simp)
            clear hb17 B13 B14 T9
            generalize W10.alloc (.cells #[.int .i64 0, .int .i64 0] 41) = W19 at T18 B22 B23 B24 hz27 ⊢
            generalize W10.heap.size = k20 at B24 hg21 hz27 ne25 ne26 ⊢
            obtain ⟨x0, x1, x2, x3, xf, xl⟩ := cells4m B22.out.at_
            go_upto_region 35 with fail
            obtain ⟨yw, hyw⟩ : ∃ yw, wordL ls x.a = yw := ⟨_, rfl⟩
            have HYR := Lib.hid (show inR yw.n from hyw ▸ wordL_inR SZ.out.lr HXX.out.1)
            have HYW := Lib.hid hyw
            clear hyw c2
            have hwd := wordL_any T18.out.rx (by have := SZ.out.ln; omega) x.a
            rw [HYW.out] at hwd
            simp only [wdW] at hwd
            have HWD := Lib.hid hwd
            clear hwd
            go_upto_region 36 with
              (first
                | (go_at_call 10; refine HWD.out.mono ?_; rintro e waa ⟨rfl, hba⟩; have T28 := Lib.hid (T18.out.under hba); have B29 := Lib.hid (B22.out.under hba); have B30 := Lib.hid (B23.out.under hba); have B31 := Lib.hid (B24.out.under hba); have hpo := T28.out.a.cancel SZ.out.cx SZ.out.m (by simp) (fuel) (by have := HFU.out; omega) (by have h1 := SZ.out.sz; have h2 := HFU.out; have h3 : (upS room S).blocks.length = S.blocks.length := rfl; omega) yw HYR.out; simp only [wdW] at hpo; have HPO := Lib.hid hpo; clear hpo HWD hba B22 B23 B24 T18 x0 x1 x2 x3 xf xl)
                | (go_at_call 11; refine HPO.out.mono ?_; rintro e wb ⟨z, Oa2, hz, hI, he, hA⟩; obtain ⟨oa, hoa⟩ : ∃ oa, (cancelO yw z).1 = oa := ⟨_, rfl⟩; obtain ⟨fa, hfa⟩ : ∃ fa, z.2.fuel = fa := ⟨_, rfl⟩; rw [hoa, hfa] at he; simp only [outV] at he; subst he; have HZa := Lib.hid (And.intro hz hI); have HOa := Lib.hid (And.intro hoa hfa); have T32 := Lib.hid (T28.out.actA hA); have B33 := Lib.hid (B29.out.actA hA); have B34 := Lib.hid (B30.out.actA hA); have B35 := Lib.hid (B31.out.actA hA); clear hz hI hoa hfa hA HPO B29 B30 B31 T28; obtain ⟨y0, y1, yf, yl⟩ := cells2 B34.out.at_))
            clear y0 y1 yf yl
            have T36 := Lib.hid (T32.out.set2 B34.out (by have := hg12.out; have := T32.out.below.size; omega) (.int .i64 oa.k) (.int .i64 oa.n))
            have B38 := Lib.hid (B33.out.other2 ne15.out (.int .i64 oa.k) (.int .i64 oa.n))
            have B39 := Lib.hid (B34.out.set2 (.int .i64 oa.k) (.int .i64 oa.n))
            have B40 := Lib.hid (B35.out.other2 (Ne.symm ne26.out) (.int .i64 oa.k) (.int .i64 oa.n))
            clear B33 B34 B35 T32
            generalize (World.setCell (World.setCell wb _ _) _ _) = W37 at T36 B38 B39 B40 ⊢
            obtain ⟨x0, x1, x2, x3, xf, xl⟩ := cells4m B38.out.at_
            have hwf : wrap64 (max fuel 0 + more) = max fuel 0 + more := by have := HFU.out; unfold wrap64; omega
            by_cases he : oa.k = 4 ∨ oa.k = 5
            · have hwd := wordL_any T36.out.ry (by have := SZ.out.ln; omega) x.a
              rw [HYW.out] at hwd
              simp only [wdW] at hwd
              have HWD := Lib.hid hwd
              clear hwd
              go_upto_region 37 with
                (first
                  | (go_at_call 10; refine HWD.out.mono ?_; rintro e wab ⟨rfl, hba⟩; have T41 := Lib.hid (T36.out.under hba); have B42 := Lib.hid (B38.out.under hba); have B43 := Lib.hid (B39.out.under hba); have B44 := Lib.hid (B40.out.under hba); have hpo := T41.out.b.cancel SZ.out.cx SZ.out.m (by simp) (max fuel 0 + more) (by have := HFU.out; omega) (by have h1 := SZ.out.sz; have h2 := HFU.out; have h3 : (upS room S).blocks.length = S.blocks.length := rfl; omega) yw HYR.out; simp only [wdW] at hpo; have HPO := Lib.hid hpo; clear hpo HWD hba B38 B39 B40 T36 x0 x1 x2 x3 xf xl)
                  | (go_at_call 11; refine HPO.out.mono ?_; rintro e wc ⟨z', Ob2, hz, hI, he, hA⟩; obtain ⟨ob, hoa⟩ : ∃ oa, (cancelO yw z').1 = oa := ⟨_, rfl⟩; obtain ⟨fb, hfa⟩ : ∃ fa, z'.2.fuel = fa := ⟨_, rfl⟩; rw [hoa, hfa] at he; simp only [outV] at he; subst he; have HZb := Lib.hid (And.intro hz hI); have HOb := Lib.hid (And.intro hoa hfa); have T45 := Lib.hid (T41.out.actB hA); have B46 := Lib.hid (B42.out.actB hA); have B47 := Lib.hid (B43.out.actB hA); have B48 := Lib.hid (B44.out.actB hA); clear hz hI hoa hfa hA HPO B42 B43 B44 T41; obtain ⟨y0, y1, yf, yl⟩ := cells2 B48.out.at_))
              clear y0 y1 yf yl
              have T49 := Lib.hid (T45.out.set2 B48.out (by have := hg21.out; have := T45.out.below.size; omega) (.int .i64 ob.k) (.int .i64 ob.n))
              have B51 := Lib.hid (B46.out.other2 ne25.out (.int .i64 ob.k) (.int .i64 ob.n))
              have B52 := Lib.hid (B47.out.other2 ne26.out (.int .i64 ob.k) (.int .i64 ob.n))
              have B53 := Lib.hid (B48.out.set2 (.int .i64 ob.k) (.int .i64 ob.n))
              clear B46 B47 B48 T45
              generalize (World.setCell (World.setCell wc _ _) _ _) = W50 at T49 B51 B52 B53 ⊢
              obtain ⟨y0, y1, yf, yl⟩ := cells2 B52.out.at_
              rcases he with he | he
              · have t5 : (oa.k == 5) = false := by rw [he]; rfl
                have t6 : (oa.k == 4) = true := by rw [he]; rfl
                clear he hwf
                go_wp2
                go_ret
                exact ⟨rfl, T49.out.below⟩
              · have t5 : (oa.k == 5) = true := by rw [he]; rfl
                clear he hwf
                go_wp2
                go_ret
                exact ⟨rfl, T49.out.below⟩
            have t5 : (oa.k == 5) = false := by simp; omega
            have t6 : (oa.k == 4) = false := by simp; omega
            have HE := Lib.hid he
            clear he
            have hwd := wordL_any T36.out.ry (by have := SZ.out.ln; omega) x.a
            rw [HYW.out] at hwd
            simp only [wdW] at hwd
            have HWD := Lib.hid hwd
            clear hwd
            go_upto_region 37 with
              (first
                | (go_at_call 10; refine HWD.out.mono ?_; rintro e wab ⟨rfl, hba⟩; have T41 := Lib.hid (T36.out.under hba); have B42 := Lib.hid (B38.out.under hba); have B43 := Lib.hid (B39.out.under hba); have B44 := Lib.hid (B40.out.under hba); have hpo := T41.out.b.cancel SZ.out.cx SZ.out.m (by simp) (max fuel 0 + more) (by have := HFU.out; omega) (by have h1 := SZ.out.sz; have h2 := HFU.out; have h3 : (upS room S).blocks.length = S.blocks.length := rfl; omega) yw HYR.out; simp only [wdW] at hpo; have HPO := Lib.hid hpo; clear hpo HWD hba B38 B39 B40 T36 x0 x1 x2 x3 xf xl)
                | (go_at_call 11; refine HPO.out.mono ?_; rintro e wc ⟨z', Ob2, hz, hI, he, hA⟩; obtain ⟨ob, hoa⟩ : ∃ oa, (cancelO yw z').1 = oa := ⟨_, rfl⟩; obtain ⟨fb, hfa⟩ : ∃ fa, z'.2.fuel = fa := ⟨_, rfl⟩; rw [hoa, hfa] at he; simp only [outV] at he; subst he; have HZb := Lib.hid (And.intro hz hI); have HOb := Lib.hid (And.intro hoa hfa); have T45 := Lib.hid (T41.out.actB hA); have B46 := Lib.hid (B42.out.actB hA); have B47 := Lib.hid (B43.out.actB hA); have B48 := Lib.hid (B44.out.actB hA); clear hz hI hoa hfa hA HPO B42 B43 B44 T41; obtain ⟨y0, y1, yf, yl⟩ := cells2 B48.out.at_))
            clear y0 y1 yf yl
            have T49 := Lib.hid (T45.out.set2 B48.out (by have := hg21.out; have := T45.out.below.size; omega) (.int .i64 ob.k) (.int .i64 ob.n))
            have B51 := Lib.hid (B46.out.other2 ne25.out (.int .i64 ob.k) (.int .i64 ob.n))
            have B52 := Lib.hid (B47.out.other2 ne26.out (.int .i64 ob.k) (.int .i64 ob.n))
            have B53 := Lib.hid (B48.out.set2 (.int .i64 ob.k) (.int .i64 ob.n))
            clear B46 B47 B48 T45
            generalize (World.setCell (World.setCell wc _ _) _ _) = W50 at T49 B51 B52 B53 ⊢
            clear hwf
            have hd : z' = upQ room (max fuel 0 + more - fuel) z := by
              rcases cancel_more (m := room) (d := max fuel 0 + more - fuel) (by have := HFU.out; omega) (by have := HFU.out; omega) HZa.out.1 (by rw [show fuel + (max fuel 0 + more - fuel) = max fuel 0 + more by omega]; exact HZb.out.1) with h | h
              · exact absurd (HOa.out.1 ▸ cancelO_end (x := yw) h) HE.out
              · exact h
            subst hd
            have h1 := HOb.out.1
            have h2 := HOb.out.2
            rw [cancelO_up] at h1
            obtain rfl : ob = oa := h1.symm.trans HOa.out.1
            have h3 : fb = fa + (max fuel 0 + more - fuel) := by rw [← h2, ← HOa.out.2]; rfl
            have hT := T49.out
            rw [cancelO_up] at hT
            have T99 := Lib.hid hT
            clear hT T49
            have HFB := Lib.hid h3
            clear h1 h2 h3 HOb HZb
            obtain ⟨y0, y1, yf, yl⟩ := cells2 B52.out.at_
            go_upto_region 39 with fail
            clear y0 y1 yf yl t5 t6
            have HTA := Lib.hid T99.out.a.tell
            go_upto_region 40 with
              (first
                | (go_at_call 13; refine HTA.out.mono ?_; rintro e w10 ⟨Oa3, v1, B1', rfl, hA10, hrow1, hown1⟩; have T54 := Lib.hid (T99.out.actA hA10); have B57 := Lib.hid (B51.out.actA hA10); have B58 := Lib.hid (B52.out.actA hA10); have B59 := Lib.hid (B53.out.actA hA10); have HTB := Lib.hid T54.out.b.tell; have HX10 := Lib.hid (And.intro hA10 (And.intro hrow1 hown1)); clear HTA hA10 hrow1 hown1 B51 B52 B53)
                | (go_at_call 13; refine HTB.out.mono ?_; rintro e w11 ⟨Ob3, v2, B2', rfl, hA11, hrow2, hown2⟩; have T55 := Lib.hid (T54.out.actB hA11); have hrow1' := own_keep HX10.out.2.1 (w' := w11) (fun b hb => hA11.kept.block b (by obtain ⟨_, h⟩ := own_blk HX10.out.2.1 hb; exact (Array.getElem?_eq_some_iff.1 h).1) (T99.out.ab b (HX10.out.2.2 b hb))); have hte := told_eq hrow1' hrow2 (by have := HZa.out.2.told; omega); have HTE := Lib.hid hte; have B60 := Lib.hid (B57.out.actB hA11); have B61 := Lib.hid (B58.out.actB hA11); have B62 := Lib.hid (B59.out.actB hA11); clear HTB hA11 hrow2 hown2 hrow1' hte B57 B58 B59)
                | (go_at_call 12; refine HTE.out.mono ?_; rintro e w12 ⟨rfl, hb12⟩; have T56 := Lib.hid (T55.out.under hb12); have B63 := Lib.hid (B60.out.under hb12); have B64 := Lib.hid (B61.out.under hb12); have B65 := Lib.hid (B62.out.under hb12); clear HTE hb12 B60 B61 B62))
            obtain ⟨y0, y1, yf, yl⟩ := cells2 B64.out.at_
            obtain ⟨z0, z1, zf, zl⟩ := cells2 B65.out.at_
            obtain ⟨D, hD⟩ : ∃ D, wrap64 (fb - fa) = D := ⟨_, rfl⟩
            have hD2 : wrap64 (wrap64 (more + max fuel 0) - fuel) = D := by
              rw [← hD, HFB.out]
              have := HFU.out
              unfold wrap64
              omega
            go_upto_region 42 with fail
            clear hD hD2
            by_cases h6 : ob.k = 6
            · have t5 : (ob.k == 6) = true := by simpa using h6
              clear h6
              go_wp2
              go_ret
              exact ⟨rfl, T56.out.below⟩
            have t5 : (ob.k == 6) = false := by simpa using h6
            clear h6
            obtain ⟨hw1, hw2, hw3⟩ := HI.out
            have e1 := HLM.out
            go_wp2_with fail
            clear hw1 hw2 hw3
            go_roundw
            case rel => exact ⟨i + 1, (cancelO yw z).2, evs, _, _, ls, _, _, _, _, by rw [e1], by rw [e1], rfl, by omega, by rw [e1]; exact T56.out, ⟨SZ.out.cx, (cancelO_ok HZa.out.2.mem).1, by have h1 := SZ.out.sz; have h2 := HZa.out.2.made; have h3 := HFU.out; rw [(cancelO_ok HZa.out.2.mem).2]; omega, by have := SZ.out.ev; omega, by have := SZ.out.ln; omega, SZ.out.lr⟩⟩
            case measure =>
              show n - ((i : Int) + 1).toNat < n - (i : Int).toNat
              omega
          have n2 : (x.k.tmod 4 == 2) = false := by simpa using c2
          by_cases c3 : x.k.tmod 4 = 3
          · have t2 : (x.k.tmod 4 == 3) = true := by simpa using c3
            have hcA := T2.out.a.complete (by have := SZ.out.ev; omega) x.a x.n HXX.out.1
            have HCA := Lib.hid hcA
            have HBR := Lib.hid (bring_ok SZ.out.cx.ev x.a x.n HXX.out.2.1)
            clear hcA c3
            go_upto_region 46 with (go_at_call 14; refine HCA.out.mono ?_; rintro e w2 ⟨Oa2, rfl, hA2⟩; have HA2 := Lib.hid hA2; clear hA2 HCA)
            clear x0 x1 x2 x3 xf xl
            have T8 := Lib.hid (T2.out.actA HA2.out)
            have B9 := Lib.hid (B6.out.actA HA2.out)
            clear B6 T2 HA2
            obtain ⟨x0, x1, x2, x3, xf, xl⟩ := cells4m B9.out.at_
            have hcB := T8.out.b.complete (by have := SZ.out.ev; omega) x.a x.n HXX.out.1
            have HCB := Lib.hid hcB
            clear hcB
            obtain ⟨hw1, hw2, hw3⟩ := HI.out
            go_wp2_with (first | (go_at_call 14; refine HCB.out.mono ?_; rintro e w3 ⟨Ob2, rfl, hA3⟩; have T9 := Lib.hid (T8.out.actB hA3); clear hA3 HCB) | fail)
            clear hw1 hw2 hw3
            go_roundw
            case rel =>
              have e1 := HLM.out
              exact ⟨i + 1, S, bring evs x.a x.n, _, _, ls, _, _, _, _, by rw [e1], by rw [e1], rfl, by omega, by rw [e1]; exact T9.out, ⟨⟨SZ.out.cx.pg, SZ.out.cx.b, HBR.out.2⟩, SZ.out.m, by have := SZ.out.sz; omega, by have h1 := SZ.out.ev; have h2 := HBR.out.1; exact Nat.le_trans h2 (Nat.succ_le_succ h1), by have := SZ.out.ln; omega, SZ.out.lr⟩⟩
            case measure =>
              show n - ((i : Int) + 1).toNat < n - (i : Int).toNat
              omega
          have n3 : (x.k.tmod 4 == 3) = false := by simpa using c3
          obtain ⟨hw1, hw2, hw3⟩ := HI.out
          have e1 := HLM.out
          go_wp2_with fail
          clear hw1 hw2 hw3
          go_roundw
          case rel => exact ⟨i + 1, S, evs, _, _, ls, _, _, _, _, by rw [e1], by rw [e1], rfl, by omega, by rw [e1]; exact T2.out, ⟨SZ.out.cx, SZ.out.m, by have := SZ.out.sz; omega, by have := SZ.out.ev; omega, by have := SZ.out.ln; omega, SZ.out.lr⟩⟩
          case measure =>
            show n - ((i : Int) + 1).toNat < n - (i : Int).toNat
            omega
        · have t1 := ge_dec' i n hi
          have HLA := Lib.hid T0.out.a.live
          have hlb := T0.out.b.live
          rw [show (upS room S).live = S.live from rfl] at hlb
          have HLB := Lib.hid hlb
          clear hlb
          go_wp2_with
            (first
              | (go_at_call 15; refine HLA.out.mono ?_; rintro e w13 ⟨rfl, rfl⟩)
              | (go_at_call 15; refine HLB.out.mono ?_; rintro e w14 ⟨rfl, rfl⟩)
              | fail)
          go_ret
          exact ⟨rfl, T0.out.below⟩
    · have hnn := Lib.hid (show ∀ w1 ws, Below w.heap.size w w1 → Calls Tryd.prog 7 #[.agg #[.slice oaf nf capf, .slice oac ncs capc], .int .i64 ws] w1 (fun e w' => e = .returned (.tuple #[.pointer none, .int .i64 30]) ∧ Below w1.heap.size w1 w') from fun w1 ws hb => (hnew.out w1 ws hb).mono (by
        rintro e w' ⟨hb, ⟨_, he⟩ | ⟨h, _⟩⟩
        · exact ⟨he, hb⟩
        · exact absurd h hok))
      clear hnew hok
      go_upto_region 8 with (go_at_call 7; refine (hnn.out w2 _ HBW2.out).mono ?_; rintro e w3 ⟨rfl, hb3⟩; have HB3 := Lib.hid hb3; clear hb3)
      have HBW3 := Lib.hid (HBW2.out.trans (HB3.out.mono HBW2.out.size))
      have HX3 := Lib.hid (keepB7 HX2.out HB3.out)
      clear a0 a1 af al
      obtain ⟨a0, a1, af, al⟩ := cells2 HX3.out
      go_upto_region 9 with (go_at_call 7; refine (hnn.out w3 _ HBW3.out).mono ?_; rintro e w4 ⟨rfl, hb3⟩; have HB4 := Lib.hid hb3; clear hb3)
      have HBW4 := Lib.hid (HBW3.out.trans (HB4.out.mono HBW3.out.size))
      clear a0 a1 af al
      go_wp2
      go_ret
      exact ⟨rfl, HBW4.out⟩
end Go.Proofs.YtgpkhdccchpljaaDoor
