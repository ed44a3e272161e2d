/-
  MemDoes: the walk of its loop over the acts. No conditions but those of the statement's own guard.
-/
import Derived.Test.YtbcockaleegicaaDoes
import Derived.Deep.DeepCutAuto
import Derived.Deep.CutBlock
namespace Go.Proofs.Ytbcockaleegicaa
open Go.RowKit Go.ChangeShapes Go.WideShapes Go.ChangeAt

/-- the loop's state -/
def Run (B : Nat) (w0 : World) (mb rb : Nat) (wr : World) (j : Nat) : Prop := ∃ S r, Both B w0 wr mb rb S r ∧ r.bs.length ≤ j ∧ r.cs.length ≤ 100 * j
/-- ahead of the comparison -/
structure Even (B : Nat) (w0 wr : World) (mb rb ba bx by_ : Nat) (y : Ac) (j : Nat) (S : MS) (r : RS) (x : Wd) : Prop where
  both : Both B w0 wr mb rb S r
  bs : r.bs.length ≤ j + 1
  cs : r.cs.length ≤ 100 * (j + 1)
  va : Vis B wr ba 32 #[.int .i64 y.k, .int .i64 y.n, .bool y.p.p, .int .i64 y.p.a, .int .i64 y.p.n, .bool y.q.p, .int .i64 y.q.a, .int .i64 y.q.n]
  vx : Vis B wr bx 30 (wcs x)
  vy : Vis B wr by_ 30 (wcs x)
def EvenE (B : Nat) (w0 wr : World) (mb rb ba bx by_ : Nat) (y : Ac) (j : Nat) (e f : Value) : Prop := ∃ S r x er, Even B w0 wr mb rb ba bx by_ y j S r x ∧ e = .int .i64 er ∧ f = .int .i64 er

theorem even_start {B : Nat} {w0 wr : World} {mb rb j : Nat} {S : MS} {r : RS} (h : Both B w0 wr mb rb S r) (hle : B ≤ wr.heap.size) (hbs : r.bs.length ≤ j) (hcs : r.cs.length ≤ 100 * j) (y : Ac) :
    Even B w0 (((wr.alloc (.cells #[.int .i64 y.k, .int .i64 y.n, .bool y.p.p, .int .i64 y.p.a, .int .i64 y.p.n, .bool y.q.p, .int .i64 y.q.a, .int .i64 y.q.n] 32)).alloc (.cells #[.bool false, .int .i64 0, .int .i64 0] 30)).alloc (.cells #[.bool false, .int .i64 0, .int .i64 0] 30))
      mb rb wr.heap.size (wr.heap.size + 1) (wr.heap.size + 1 + 1) y j S r ⟨false, 0, 0⟩ := by
  refine ⟨((h.next (below_alloc _ _)).next (below_alloc _ _)).next (below_alloc _ _), by omega, by omega, ((Vis.new hle _ 32).next (below_alloc _ _)).next (below_alloc _ _), ?_, ?_⟩
  · have v := (Vis.new (w := wr.alloc (.cells #[.int .i64 y.k, .int .i64 y.n, .bool y.p.p, .int .i64 y.p.a, .int .i64 y.p.n, .bool y.q.p, .int .i64 y.q.a, .int .i64 y.q.n] 32)) (by rw [World.size_alloc]; omega : B ≤ _) (wcs ⟨false, 0, 0⟩) 30).next (below_alloc _ (.cells #[.bool false, .int .i64 0, .int .i64 0] 30))
    rw [World.size_alloc] at v
    exact v
  · have v := Vis.new (w := (wr.alloc (.cells #[.int .i64 y.k, .int .i64 y.n, .bool y.p.p, .int .i64 y.p.a, .int .i64 y.p.n, .bool y.q.p, .int .i64 y.q.a, .int .i64 y.q.n] 32)).alloc (.cells #[.bool false, .int .i64 0, .int .i64 0] 30)) (by rw [World.size_alloc, World.size_alloc]; omega : B ≤ _) (wcs ⟨false, 0, 0⟩) 30
    rw [World.size_alloc, World.size_alloc] at v
    exact v

theorem set_load (S : MS) (b : Bool) (a n : Int) : decide (storedE S b a n 1 = 0) = ((loadR S b a n).2 == 0) := by
  unfold loadR
  by_cases h : storedE S b a n 1 = 0
  · rw [if_neg (by simpa using h)]
    have h1 : decide (storedE S b a n 1 = 0) = true := by simpa using h
    rw [h1]
    split
    · rfl
    · split <;> rfl
  · rw [if_pos h]
    have h1 : decide (storedE S b a n 1 = 0) = false := by simpa using h
    have h2 : (storedE S b a n 1 == 0) = false := by simpa using h
    rw [h1]
    exact h2.symm

set_option maxRecDepth 100000 in
set_option maxHeartbeats 3000000 in
theorem memDoes_walk (room : Int) (oa : Option Addr) (ab off cap : Nat) (as_ : List Ac) (w : World) (hlen : as_.length ≤ maxLen) (hoa : 0 < as_.length → oa = some ⟨ab, off, none⟩ ∧ ab < w.heap.size) (hA : ActsAt w ab off as_) :
    Calls Try.prog 3 #[.int .i64 room, .slice oa as_.length cap] w fun e w' => e = .returned (.bool true) ∧ Below w.heap.size w w' := by
  replace hoa := Lib.hid hoa
  replace hA := Lib.hid hA
  go_enter Try.func3, Try.ntmps3
  go_wp2_with fail
  refine (works_any _).mono ?_
  rintro e w1 ⟨rfl, hB⟩
  go_wp2_with fail
  refine (small_any oa ab off cap as_ w1 hlen (fun h => ⟨(hoa.out h).1, by have := (hoa.out h).2; have := hB.size; omega⟩) (acts_below hB (fun h => (hoa.out h).2) hA.out)).mono ?_
  rintro e w2 ⟨⟨v, rfl, hsm⟩, rfl⟩
  cases v with
  | false =>
    clear hsm
    go_wp2
    go_ret
    exact ⟨rfl, hB⟩
  | true =>
    have HSM := Lib.hid (hsm rfl)
    clear hsm
    obtain ⟨m, hm⟩ : ∃ m, m = min (max room 0) 1048576 := ⟨_, rfl⟩
    have HM := Lib.hid hm
    clear hm
    go_wp2_with fail
    refine (new_any room m _ HM.out).mono ?_
    rintro e w2 ⟨rfl, R2, hb2, hz2⟩
    obtain ⟨T2, F2⟩ := St.new hB hB.size R2 hb2
    generalize hmb : w1.heap.size = mb at R2 T2 F2 ⊢
    clear hmb F2 R2 hb2
    go_wp2_with fail
    refine (rnew_any room m w2 w.heap.size T2.le HM.out).mono ?_
    rintro e w3 ⟨rfl, R3, hb3, hz3⟩
    have hK : Run w.heap.size w mb w2.heap.size w3 0 := ⟨⟨m, []⟩, ⟨m, [], []⟩, ⟨⟨_, _, T2.next hb3⟩, ⟨_, _, R3⟩, Sim.mk' m, fun b hb => by cases hb⟩, Nat.le_refl _, Nat.le_refl _⟩
    generalize w2.heap.size = rb at hK ⊢
    clear T2 R3 hb3 hz3 hz2 hB HM
    go_wp2_with fail
    go_loopw [9] (fun u wr => ∃ j : Nat, j ≤ as_.length ∧ u = .int .i64 j ∧ Run w.heap.size w mb rb wr j) (fun u _ => as_.length - (intOf u).toNat)
    case atStart => exact ⟨0, by omega, rfl, hK⟩
    case round =>
      obtain ⟨j, hj, rfl, S, r, hboth, hbs, hcs⟩ := hrel
      obtain ⟨lm, loc, T⟩ := hboth.mem
      by_cases hjl : j < as_.length
      · have t6 : decide ((j : Int) < as_.length) = true := by simpa using hjl
        obtain ⟨rfl, hab⟩ := hoa.out (by omega)
        obtain ⟨y, hy⟩ : ∃ y, as_[j]? = some y := ⟨_, List.getElem?_eq_getElem hjl⟩
        have habr : ab < wr.heap.size := by have := T.le; omega
        obtain ⟨⟨g0, g1, g2, g3, g4, g5, g6, g7⟩, hyw⟩ := hA.out j y hy
        replace g0 := (T.below.cell (p := ⟨ab, off + j * 8, none⟩) hab).trans g0
        replace g1 := (T.below.cell (p := ⟨ab, off + j * 8 + 1, none⟩) hab).trans g1
        replace g2 := (T.below.cell (p := ⟨ab, off + j * 8 + 2, none⟩) hab).trans g2
        replace g3 := (T.below.cell (p := ⟨ab, off + j * 8 + 3, none⟩) hab).trans g3
        replace g4 := (T.below.cell (p := ⟨ab, off + j * 8 + 4, none⟩) hab).trans g4
        replace g5 := (T.below.cell (p := ⟨ab, off + j * 8 + 5, none⟩) hab).trans g5
        replace g6 := (T.below.cell (p := ⟨ab, off + j * 8 + 6, none⟩) hab).trans g6
        replace g7 := (T.below.cell (p := ⟨ab, off + j * 8 + 7, none⟩) hab).trans g7
        have hy100 := HSM.out.2 j y hy
        have hl40 := HSM.out.1
        have HYW := Lib.hid hyw
        have hTle := T.le
        clear hy hyw T
        go_upto_block 2 with fail
        have hE := even_start hboth hTle hbs hcs y
        have hne1 : wr.heap.size ≠ wr.heap.size + 1 := by omega
        have hne2 : wr.heap.size ≠ wr.heap.size + 1 + 1 := by omega
        have hne3 : wr.heap.size + 1 ≠ wr.heap.size + 1 + 1 := by omega
        generalize ((wr.alloc (.cells #[.int .i64 y.k, .int .i64 y.n, .bool y.p.p, .int .i64 y.p.a, .int .i64 y.p.n, .bool y.q.p, .int .i64 y.q.a, .int .i64 y.q.n] 32)).alloc (.cells #[.bool false, .int .i64 0, .int .i64 0] 30)).alloc (.cells #[.bool false, .int .i64 0, .int .i64 0] 30) = W at hE ⊢
        generalize wr.heap.size + 1 + 1 = bz at hE hne2 hne3 ⊢
        generalize wr.heap.size + 1 = bx at hE hne1 hne3 ⊢
        clear hboth g0 g1 g2 g3 g4 g5 g6 g7 habr hTle
        generalize wr.heap.size = ba at hE hne1 hne2 ⊢
        have hSl : S.blocks.length + 1 < 1000 := by rw [hE.both.sim.len]; omega
        have hcl : r.cs.length + 1000 < 99999 := by omega
        go_cut [13, 14] (fun e f wx => EvenE w.heap.size w wx mb rb ba bx bz y j e f)
        case first =>
          obtain ⟨lm, loc, T⟩ := hE.both.mem
          obtain ⟨vb, vc, R⟩ := hE.both.ref
          have hroom := R.room1
          have hva := hE.va
          have hvx := hE.vx
          have hvz := hE.vy
          have hRI := hE.both.ref
          have hsim := Lib.hid hE.both.sim
          have hok := Lib.hid hE.both.ok
          have HEV := Lib.hid hE
          clear hE
          have a0 := hva.cell 0 _ rfl
          have a1 := hva.cell 1 _ rfl
          have a2 := hva.cell 2 _ rfl
          have a3 := hva.cell 3 _ rfl
          have a4 := hva.cell 4 _ rfl
          have a5 := hva.cell 5 _ rfl
          have a6 := hva.cell 6 _ rfl
          have a7 := hva.cell 7 _ rfl
          by_cases m0 : y.k.tmod 6 = 0
          · have s0 : (y.k.tmod 6 == 0) = true := by simpa using m0
            clear m0
            obtain ⟨⟨⟨z, er⟩, S'⟩, hr⟩ : ∃ r, allocR S y.n = r := ⟨_, rfl⟩
            have HRR := Lib.hid hr
            obtain ⟨r', hr', hN⟩ := nice_alloc hsim.out hok.out hroom hr
            have HR2 := Lib.hid hr'
            have HN := Lib.hid hN
            clear hr hr' hN
            go_wp2_with fail
            refine (alloc_gen T.rep hSl y.n z er S' HRR.out).mono ?_
            rintro e w7 ⟨rfl, ht⟩
            clear a0 a1 a2 a3 a4 a5 a6 a7
            have M7 := MemIs.mem T ht
            have R7 := hRI.mem T.rep ht
            have hva7 := hva.mem T.rep ht (by decide) (by decide)
            have hvx7 := hvx.mem T.rep ht (by decide) (by decide)
            have hvz7 := hvz.mem T.rep ht (by decide) (by decide)
            clear ht
            have c0 := hvx7.cell 0 _ rfl
            have c1 := hvx7.cell 1 _ rfl
            have c2 := hvx7.cell 2 _ rfl
            have f0 := hvx7.frozen 0
            have f1 := hvx7.frozen 1
            have f2 := hvx7.frozen 2
            go_upto_region 18 with fail
            have M8 := M7.set _ hvx7 z
            have R8 := R7.set _ hvx7 z
            have hva8 := hva7.off hne1 z
            have hvz8 := hvz7.off hne3.symm z
            have hvx8 := hvx7.set _ z
            unfold set3 at M8 R8 hva8 hvz8 hvx8
            generalize ((w7.setCell ⟨bx, 0, none⟩ (.bool z.p)).setCell ⟨bx, 1, none⟩ (.int .i64 z.a)).setCell ⟨bx, 2, none⟩ (.int .i64 z.n) = W8 at M8 R8 hva8 hvz8 hvx8 ⊢
            clear M7 R7 hva7 hvx7 hvz7 c0 c1 c2 f0 f1 f2
            obtain ⟨vb8, vc8, R8⟩ := R8
            have a1 := hva8.cell 1 _ rfl
            go_wp2_with fail
            refine (ralloc_any R8 (by omega) y.n z er r' HR2.out).mono ?_
            rintro e w9 ⟨rfl, ht⟩
            have M9 := M8.ref ht.2
            have R9 : RefIs w.heap.size w9 rb r' := ht.1
            have hva9 := hva8.ref ht.2 (by decide) (by decide) (by decide)
            have hvx9 := hvx8.ref ht.2 (by decide) (by decide) (by decide)
            have hvz9 := hvz8.ref ht.2 (by decide) (by decide) (by decide)
            clear ht M8 R8 hva8 hvx8 hvz8
            have c0 := hvz9.cell 0 _ rfl
            have c1 := hvz9.cell 1 _ rfl
            have c2 := hvz9.cell 2 _ rfl
            have f0 := hvz9.frozen 0
            have f1 := hvz9.frozen 1
            have f2 := hvz9.frozen 2
            go_wp2_with fail
            go_meet
            exact ⟨S', r', z, er, ⟨⟨M9.set _ hvz9 z, R9.set _ hvz9 z, HN.out.sim, HN.out.ok⟩, by have := HN.out.bs; omega, by have := HN.out.cs; omega, hva9.off hne2 z, hvx9.off hne3 z, hvz9.set _ z⟩, rfl, rfl⟩
          have s0 : (y.k.tmod 6 == 0) = false := by simpa using m0
          clear m0
          by_cases m1 : y.k.tmod 6 = 1
          · have s1 : (y.k.tmod 6 == 1) = true := by simpa using m1
            clear m1
            obtain ⟨⟨er, S'⟩, hr⟩ : ∃ r, freeR S y.p.p y.p.a y.p.n = r := ⟨_, rfl⟩
            have HRR := Lib.hid hr
            obtain ⟨r', hr', hN⟩ := nice_free hsim.out hok.out hr
            have HR2 := Lib.hid hr'
            have HN := Lib.hid hN
            clear hr hr' hN
            go_wp2_with fail
            refine (free_gen T.rep y.p.p y.p.a y.p.n er S' HRR.out).mono ?_
            rintro e w7 ⟨rfl, ht⟩
            clear a0 a1 a2 a3 a4 a5 a6 a7
            have M7 := MemIs.mem T ht
            have R7 := hRI.mem T.rep ht
            have hva7 := hva.mem T.rep ht (by decide) (by decide)
            have hvx7 := hvx.mem T.rep ht (by decide) (by decide)
            have hvz7 := hvz.mem T.rep ht (by decide) (by decide)
            clear ht
            have M8 := M7
            obtain ⟨vb8, vc8, R8⟩ := R7
            have hva8 := hva7
            have hvz8 := hvz7
            have hvx8 := hvx7
            clear M7 hva7 hvz7 hvx7
            have a2 := hva8.cell 2 _ rfl
            have a3 := hva8.cell 3 _ rfl
            have a4 := hva8.cell 4 _ rfl
            go_wp2_with fail
            refine (rfree_any R8 y.p.p y.p.a y.p.n er r' HR2.out).mono ?_
            rintro e w9 ⟨rfl, ht⟩
            have M9 := M8.ref ht.2
            have R9 : RefIs w.heap.size w9 rb r' := ht.1
            have hva9 := hva8.ref ht.2 (by decide) (by decide) (by decide)
            have hvx9 := hvx8.ref ht.2 (by decide) (by decide) (by decide)
            have hvz9 := hvz8.ref ht.2 (by decide) (by decide) (by decide)
            clear ht M8 R8 hva8 hvx8 hvz8
            go_wp2_with fail
            go_meet
            exact ⟨S', r', ⟨false, 0, 0⟩, er, ⟨⟨M9, R9, HN.out.sim, HN.out.ok⟩, by have := HN.out.bs; omega, by have := HN.out.cs; omega, hva9, hvx9, hvz9⟩, rfl, rfl⟩
          have s1 : (y.k.tmod 6 == 1) = false := by simpa using m1
          clear m1
          by_cases m2 : y.k.tmod 6 = 2
          · have s2 : (y.k.tmod 6 == 2) = true := by simpa using m2
            clear m2
            obtain ⟨⟨z, er⟩, hl⟩ : ∃ q, loadR S y.p.p y.p.a y.p.n = q := ⟨_, rfl⟩
            have HRR := Lib.hid hl
            have HR2 := Lib.hid (show r.loadR y.p.p y.p.a y.p.n = (z, er) by rw [← hsim.out.load]; exact hl)
            clear hl
            go_wp2_with fail
            refine (load_any T.rep y.p.p y.p.a y.p.n z er HRR.out).mono ?_
            rintro e w7 ⟨rfl, ht⟩
            clear a0 a1 a2 a3 a4 a5 a6 a7
            have M7 : MemIs w.heap.size w w7 mb S := ⟨lm, loc, T.next ht⟩
            have R7 := hRI.next ht
            have hva7 := hva.next ht
            have hvx7 := hvx.next ht
            have hvz7 := hvz.next ht
            clear ht
            have c0 := hvx7.cell 0 _ rfl
            have c1 := hvx7.cell 1 _ rfl
            have c2 := hvx7.cell 2 _ rfl
            have f0 := hvx7.frozen 0
            have f1 := hvx7.frozen 1
            have f2 := hvx7.frozen 2
            go_upto_region 24 with fail
            have M8 := M7.set _ hvx7 z
            have R8 := R7.set _ hvx7 z
            have hva8 := hva7.off hne1 z
            have hvz8 := hvz7.off hne3.symm z
            have hvx8 := hvx7.set _ z
            unfold set3 at M8 R8 hva8 hvz8 hvx8
            generalize ((w7.setCell ⟨bx, 0, none⟩ (.bool z.p)).setCell ⟨bx, 1, none⟩ (.int .i64 z.a)).setCell ⟨bx, 2, none⟩ (.int .i64 z.n) = W8 at M8 R8 hva8 hvz8 hvx8 ⊢
            clear M7 R7 hva7 hvx7 hvz7 c0 c1 c2 f0 f1 f2
            obtain ⟨vb8, vc8, R8⟩ := R8
            have a2 := hva8.cell 2 _ rfl
            have a3 := hva8.cell 3 _ rfl
            have a4 := hva8.cell 4 _ rfl
            go_wp2_with fail
            refine (rload_any R8 y.p.p y.p.a y.p.n z er HR2.out).mono ?_
            rintro e w9 ⟨rfl, ht⟩
            have M9 := M8.next ht
            have R9 : RefIs w.heap.size w9 rb r := ⟨vb8, vc8, R8.below ht⟩
            have hva9 := hva8.next ht
            have hvx9 := hvx8.next ht
            have hvz9 := hvz8.next ht
            clear ht M8 R8 hva8 hvx8 hvz8
            have c0 := hvz9.cell 0 _ rfl
            have c1 := hvz9.cell 1 _ rfl
            have c2 := hvz9.cell 2 _ rfl
            have f0 := hvz9.frozen 0
            have f1 := hvz9.frozen 1
            have f2 := hvz9.frozen 2
            go_wp2_with fail
            go_meet
            exact ⟨S, r, z, er, ⟨⟨M9.set _ hvz9 z, R9.set _ hvz9 z, hsim.out, hok.out⟩, by omega, by omega, hva9.off hne2 z, hvx9.off hne3 z, hvz9.set _ z⟩, rfl, rfl⟩
          have s2 : (y.k.tmod 6 == 2) = false := by simpa using m2
          clear m2
          by_cases m3 : y.k.tmod 6 = 3
          · have s3 : (y.k.tmod 6 == 3) = true := by simpa using m3
            clear m3
            obtain ⟨⟨er, S'⟩, hr⟩ : ∃ r, storeR S y.p.p y.p.a y.p.n y.q = r := ⟨_, rfl⟩
            have HRR := Lib.hid hr
            obtain ⟨r', hr', hN⟩ := nice_store hsim.out hok.out hr
            have HR2 := Lib.hid hr'
            have HN := Lib.hid hN
            clear hr hr' hN
            go_wp2_with fail
            refine (store_gen T.rep y.p.p y.p.a y.p.n y.q er S' HRR.out HYW.out.2.2.1.2).mono ?_
            rintro e w7 ⟨rfl, ht⟩
            clear a0 a1 a2 a3 a4 a5 a6 a7
            have M7 := MemIs.mem T ht
            have R7 := hRI.mem T.rep ht
            have hva7 := hva.mem T.rep ht (by decide) (by decide)
            have hvx7 := hvx.mem T.rep ht (by decide) (by decide)
            have hvz7 := hvz.mem T.rep ht (by decide) (by decide)
            clear ht
            have M8 := M7
            obtain ⟨vb8, vc8, R8⟩ := R7
            have hva8 := hva7
            have hvz8 := hvz7
            have hvx8 := hvx7
            clear M7 hva7 hvz7 hvx7
            have a2 := hva8.cell 2 _ rfl
            have a3 := hva8.cell 3 _ rfl
            have a4 := hva8.cell 4 _ rfl
            have a5 := hva8.cell 5 _ rfl
            have a6 := hva8.cell 6 _ rfl
            have a7 := hva8.cell 7 _ rfl
            go_wp2_with fail
            refine (rstore_any R8 (by omega) y.p.p y.p.a y.p.n y.q er r' HR2.out).mono ?_
            rintro e w9 ⟨rfl, ht⟩
            have M9 := M8.ref ht.2
            have R9 : RefIs w.heap.size w9 rb r' := ht.1
            have hva9 := hva8.ref ht.2 (by decide) (by decide) (by decide)
            have hvx9 := hvx8.ref ht.2 (by decide) (by decide) (by decide)
            have hvz9 := hvz8.ref ht.2 (by decide) (by decide) (by decide)
            clear ht M8 R8 hva8 hvx8 hvz8
            go_wp2_with fail
            go_meet
            exact ⟨S', r', ⟨false, 0, 0⟩, er, ⟨⟨M9, R9, HN.out.sim, HN.out.ok⟩, by have := HN.out.bs; omega, by have := HN.out.cs; omega, hva9, hvx9, hvz9⟩, rfl, rfl⟩
          have s3 : (y.k.tmod 6 == 3) = false := by simpa using m3
          clear m3
          by_cases m4 : y.k.tmod 6 = 4
          · have s4 : (y.k.tmod 6 == 4) = true := by simpa using m4
            clear m4
            obtain ⟨⟨er, S'⟩, hr⟩ : ∃ r, copyR S y.p.p y.p.a y.p.n y.q.p y.q.a y.q.n y.n = r := ⟨_, rfl⟩
            have HRR := Lib.hid hr
            obtain ⟨r', hr', hN⟩ := nice_copy hsim.out hok.out hy100 hr
            have HR2 := Lib.hid hr'
            have HN := Lib.hid hN
            clear hr hr' hN
            go_wp2_with fail
            refine (copy_gen T.rep y.p.p y.p.a y.p.n y.q.p y.q.a y.q.n y.n er S' HRR.out HYW.out.2.2.1.2 (by omega)).mono ?_
            rintro e w7 ⟨rfl, ht⟩
            clear a0 a1 a2 a3 a4 a5 a6 a7
            have M7 := MemIs.mem T ht
            have R7 := hRI.mem T.rep ht
            have hva7 := hva.mem T.rep ht (by decide) (by decide)
            have hvx7 := hvx.mem T.rep ht (by decide) (by decide)
            have hvz7 := hvz.mem T.rep ht (by decide) (by decide)
            clear ht
            have M8 := M7
            obtain ⟨vb8, vc8, R8⟩ := R7
            have hva8 := hva7
            have hvz8 := hvz7
            have hvx8 := hvx7
            clear M7 hva7 hvz7 hvx7
            have a1 := hva8.cell 1 _ rfl
            have a2 := hva8.cell 2 _ rfl
            have a3 := hva8.cell 3 _ rfl
            have a4 := hva8.cell 4 _ rfl
            have a5 := hva8.cell 5 _ rfl
            have a6 := hva8.cell 6 _ rfl
            have a7 := hva8.cell 7 _ rfl
            go_wp2_with fail
            refine (rcopy_any R8 y.p.p y.q.p y.p.a y.p.n y.q.a y.q.n y.n (by omega) HYW.out.2.2.2 hcl er r' HR2.out).mono ?_
            rintro e w9 ⟨rfl, ht⟩
            have M9 := M8.ref ht.2
            have R9 : RefIs w.heap.size w9 rb r' := ht.1
            have hva9 := hva8.ref ht.2 (by decide) (by decide) (by decide)
            have hvx9 := hvx8.ref ht.2 (by decide) (by decide) (by decide)
            have hvz9 := hvz8.ref ht.2 (by decide) (by decide) (by decide)
            clear ht M8 R8 hva8 hvx8 hvz8
            go_wp2_with fail
            go_meet
            exact ⟨S', r', ⟨false, 0, 0⟩, er, ⟨⟨M9, R9, HN.out.sim, HN.out.ok⟩, by have := HN.out.bs; omega, by have := HN.out.cs; omega, hva9, hvx9, hvz9⟩, rfl, rfl⟩
          have s4 : (y.k.tmod 6 == 4) = false := by simpa using m4
          clear m4
          by_cases m5 : y.k.tmod 6 = 5
          · have s5 : (y.k.tmod 6 == 5) = true := by simpa using m5
            clear m5
            obtain ⟨⟨er, S'⟩, hr⟩ : ∃ r, clearR S y.p.p y.p.a y.p.n y.n = r := ⟨_, rfl⟩
            have HRR := Lib.hid hr
            obtain ⟨r', hr', hN⟩ := nice_clear hsim.out hok.out hr
            have HR2 := Lib.hid hr'
            have HN := Lib.hid hN
            clear hr hr' hN
            go_wp2_with fail
            refine (clear_gen T.rep y.p.p y.p.a y.p.n y.n er S' HRR.out HYW.out.2.2.1.2).mono ?_
            rintro e w7 ⟨rfl, ht⟩
            clear a0 a1 a2 a3 a4 a5 a6 a7
            have M7 := MemIs.mem T ht
            have R7 := hRI.mem T.rep ht
            have hva7 := hva.mem T.rep ht (by decide) (by decide)
            have hvx7 := hvx.mem T.rep ht (by decide) (by decide)
            have hvz7 := hvz.mem T.rep ht (by decide) (by decide)
            clear ht
            have M8 := M7
            obtain ⟨vb8, vc8, R8⟩ := R7
            have hva8 := hva7
            have hvz8 := hvz7
            have hvx8 := hvx7
            clear M7 hva7 hvz7 hvx7
            have a1 := hva8.cell 1 _ rfl
            have a2 := hva8.cell 2 _ rfl
            have a3 := hva8.cell 3 _ rfl
            have a4 := hva8.cell 4 _ rfl
            go_wp2_with fail
            refine (rclear_any R8 y.p.p y.p.a y.p.n y.n er r' HR2.out (by omega)).mono ?_
            rintro e w9 ⟨rfl, ht⟩
            have M9 := M8.ref ht.2
            have R9 : RefIs w.heap.size w9 rb r' := ht.1
            have hva9 := hva8.ref ht.2 (by decide) (by decide) (by decide)
            have hvx9 := hvx8.ref ht.2 (by decide) (by decide) (by decide)
            have hvz9 := hvz8.ref ht.2 (by decide) (by decide) (by decide)
            clear ht M8 R8 hva8 hvx8 hvz8
            go_wp2_with fail
            go_meet
            exact ⟨S', r', ⟨false, 0, 0⟩, er, ⟨⟨M9, R9, HN.out.sim, HN.out.ok⟩, by have := HN.out.bs; omega, by have := HN.out.cs; omega, hva9, hvx9, hvz9⟩, rfl, rfl⟩
          have s5 : (y.k.tmod 6 == 5) = false := by simpa using m5
          clear m5
          go_wp2_with fail
          go_meet
          exact ⟨S, r, ⟨false, 0, 0⟩, 0, HEV.out, rfl, rfl⟩
        case rest =>
          obtain ⟨S7, r7, x, er, hE7, rfl, rfl⟩ := hcut
          clear hE hSl hcl
          obtain ⟨lm, loc, T⟩ := hE7.both.mem
          obtain ⟨vb, vc, R⟩ := hE7.both.ref
          have hbs7 := hE7.bs
          have hcs7 := hE7.cs
          have hok7 := Lib.hid hE7.both.ok
          have hva := hE7.va
          have hvx := hE7.vx
          have hvz := hE7.vy
          have hsim := Lib.hid hE7.both.sim
          have HLV := Lib.hid hE7.both.sim.live
          have HWD := Lib.hid hE7.both.sim.words
          clear hE7
          have x0 := hvx.cell 0 (.bool x.p) rfl
          have x1 := hvx.cell 1 (.int .i64 x.a) rfl
          have x2 := hvx.cell 2 (.int .i64 x.n) rfl
          have z0 := hvz.cell 0 (.bool x.p) rfl
          have z1 := hvz.cell 1 (.int .i64 x.a) rfl
          have z2 := hvz.cell 2 (.int .i64 x.n) rfl
          have a2 := hva.cell 2 _ rfl
          have a3 := hva.cell 3 _ rfl
          have a4 := hva.cell 4 _ rfl
          go_wp2_with fail
          refine (live_any T.rep).mono ?_
          rintro e w7 ⟨rfl, rfl⟩
          go_wp2_with fail
          refine (rlive_any R).mono ?_
          rintro e w7 ⟨he, rfl⟩
          rw [← HLV.out] at he
          subst he
          go_wp2_with fail
          refine (words_any T.rep).mono ?_
          rintro e w7 ⟨rfl, rfl⟩
          go_wp2_with fail
          refine (rwords_any R).mono ?_
          rintro e w7 ⟨he, rfl⟩
          rw [← HWD.out] at he
          subst he
          obtain ⟨⟨z, er2⟩, hl⟩ : ∃ q, r7.loadR y.p.p y.p.a y.p.n = q := ⟨_, rfl⟩
          have HL := Lib.hid hl
          clear hl
          go_wp2_with fail
          refine (rload_any R y.p.p y.p.a y.p.n z er2 HL.out).mono ?_
          rintro e w8 ⟨rfl, hb8⟩
          have hset : decide (storedE S7 y.p.p y.p.a y.p.n 1 = 0) = (er2 == 0) := by rw [set_load, hsim.out.load, HL.out]
          have HS := Lib.hid hset
          clear hset x0 x1 x2 z0 z1 z2 a2 a3 a4
          have T8 := T.next hb8
          have R8 := R.below hb8
          have hva8 := hva.next hb8
          have a2 := hva8.cell 2 _ rfl
          have a3 := hva8.cell 3 _ rfl
          have a4 := hva8.cell 4 _ rfl
          have hba8 := hva8.lt
          go_wp2_with fail
          refine (set_any (T8.alloc _).rep y.p.p y.p.a y.p.n).mono ?_
          rintro e w9 ⟨he, hb9⟩
          rw [HS.out] at he
          subst he
          have hK9 : Run w.heap.size w mb rb w9 (j + 1) := ⟨S7, r7, ⟨⟨lm, loc, (T8.alloc _).next hb9⟩, ⟨vb, vc, (R8.alloc _).below hb9⟩, hsim.out, hok7.out⟩, hbs7, hcs7⟩
          clear T8 R8 hva8 hb8 hb9 hva hvx hvz T R a2 a3 a4
          by_cases h0 : er2 = 0
          · have d0 : (er2 == 0) = true := by simpa using h0
            clear h0
            rw [d0]
            go_wp2
            go_roundw
            case rel => first | exact ⟨j + 1, by omega, by go_num, hK9⟩ | ((repeat apply Exists.intro); exact ⟨⟨j + 1, by omega, by go_num, hK9⟩, rfl⟩)
            case measure => simp [intOf]; omega
          · have d0 : (er2 == 0) = false := by simpa using h0
            clear h0
            rw [d0]
            go_wp2
            go_roundw
            case rel => first | exact ⟨j + 1, by omega, by go_num, hK9⟩ | ((repeat apply Exists.intro); exact ⟨⟨j + 1, by omega, by go_num, hK9⟩, rfl⟩)
            case measure => simp [intOf]; omega
      · have t6 : decide ((j : Int) < as_.length) = false := by simpa using hjl
        obtain ⟨vb, vc, R⟩ := hboth.ref
        have T := hboth.mem
        have hsim := Lib.hid hboth.sim
        have hok := Lib.hid hboth.ok
        have hbs2 : r.bs.length ≤ 1000 := by have := R.lenb; omega
        clear hboth hcs hbs
        obtain ⟨og, g, cp, rfl, hog⟩ := row_shape R.blocks
        replace hog := Lib.hid hog
        go_wp2_with fail
        go_loopw [17] (fun u wx => ∃ k : Nat, k ≤ r.bs.length ∧ u = .int .i64 k ∧ MemIs w.heap.size w wx mb S ∧ RefAt w.heap.size wx rb r (.slice og r.bs.length cp) vc) (fun u _ => r.bs.length - (intOf u).toNat)
        case atStart => exact ⟨0, by omega, rfl, T, R⟩
        case round =>
          clear T R
          obtain ⟨k, hk, rfl, T, R⟩ := hrel
          obtain ⟨o0, o1, o2⟩ := R.objs
          by_cases hkl : k < r.bs.length
          · have t7 : decide ((k : Int) < r.bs.length) = true := by simpa using hkl
            have hkl' : (k : Int) < r.bs.length := by omega
            obtain rfl := hog.out (by omega)
            obtain ⟨⟨n, f⟩, hb⟩ : ∃ b, r.bs[k]? = some b := ⟨_, List.getElem?_eq_getElem hkl⟩
            have hn : n ≤ 1048576 := hok.out _ (List.mem_of_getElem? hb)
            have HB := Lib.hid hb
            clear hb
            go_wp2_with fail
            go_loopw [18] (fun u wy => ∃ i : Nat, i ≤ n ∧ u = .int .i64 i ∧ MemIs w.heap.size w wy mb S ∧ RefAt w.heap.size wy rb r (.slice (some ⟨g, 0, none⟩) r.bs.length cp) vc) (fun u _ => n - (intOf u).toNat)
            case atStart => exact ⟨0, by omega, rfl, T, R⟩
            case round =>
              clear T R o0 o1 o2
              obtain ⟨i, hi, rfl, ⟨lm, loc, T⟩, R⟩ := hrel
              obtain ⟨o0, o1, o2⟩ := R.objs
              obtain ⟨g0, g1⟩ := block_cells R.blocks rfl rfl k _ HB.out
              by_cases hil : i < n
              · have t8 : decide ((i : Int) < n) = true := by simpa using hil
                obtain ⟨⟨z, er⟩, hl⟩ : ∃ q, loadR S true ((k : Int) + 1) i = q := ⟨_, rfl⟩
                have HL := Lib.hid hl
                have HL2 := Lib.hid (show r.loadR true ((k : Int) + 1) i = (z, er) by rw [← hsim.out.load]; exact hl)
                clear hl
                go_wp2_with fail
                refine (load_any (T.alloc _).rep true ((k : Int) + 1) i z er HL.out).mono ?_
                rintro e w8 ⟨rfl, hb8⟩
                have v19 := (Vis.new T.le #[.bool true, .int .i64 ((k : Int) + 1), .int .i64 (i : Int)] 30).next hb8
                have T8 := (T.alloc _).next hb8
                have R8 := (R.alloc _).below hb8
                clear T R o0 o1 o2 g0 g1
                have p0 := v19.cell 0 (.bool true) rfl
                have p1 := v19.cell 1 (.int .i64 ((k : Int) + 1)) rfl
                have p2 := v19.cell 2 (.int .i64 i) rfl
                have p3 := v19.lt
                go_wp2_with fail
                refine (rload_any (R8.alloc _) true ((k : Int) + 1) i z er HL2.out).mono ?_
                rintro e w9 ⟨rfl, hb9⟩
                have v20 := (Vis.new T8.le #[.bool z.p, .int .i64 z.a, .int .i64 z.n] 30).next hb9
                have T9 : MemIs w.heap.size w w9 mb S := ⟨lm, loc, (T8.alloc _).next hb9⟩
                have R9 := (R8.alloc _).below hb9
                clear T8 R8 p0 p1 p2 p3 v19
                have p0 := v20.cell 0 (.bool z.p) rfl
                have p1 := v20.cell 1 (.int .i64 z.a) rfl
                have p2 := v20.cell 2 (.int .i64 z.n) rfl
                have p3 := v20.lt
                have T10 := T9.next (below_alloc w9 (.cells #[.bool z.p, .int .i64 z.a, .int .i64 z.n] 30))
                have R10 := R9.alloc (.cells #[.bool z.p, .int .i64 z.a, .int .i64 z.n] 30)
                clear hb8 hb9 T9 R9 v20
                go_wp2
                go_roundw
                case rel => first | exact ⟨i + 1, by omega, by go_num, T10, R10⟩ | ((repeat apply Exists.intro); exact ⟨⟨i + 1, by omega, by go_num, T10, R10⟩, rfl⟩)
                case measure => simp [intOf]; omega
              · have t8 : decide ((i : Int) < n) = false := by simpa using hil
                go_wp2
                go_roundw
                case rel => first | exact ⟨k + 1, by omega, by go_num, ⟨lm, loc, T⟩, R⟩ | ((repeat apply Exists.intro); exact ⟨⟨k + 1, by omega, by go_num, ⟨lm, loc, T⟩, R⟩, rfl⟩)
                case measure => simp [intOf]; omega
          · have t7 : decide ((k : Int) < r.bs.length) = false := by simpa using hkl
            obtain ⟨lm, loc, T⟩ := T
            go_wp2
            go_ret
            exact ⟨rfl, T.below⟩
end Go.Proofs.Ytbcockaleegicaa
