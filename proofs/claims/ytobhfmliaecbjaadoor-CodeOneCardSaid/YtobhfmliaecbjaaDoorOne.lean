/-
  CodeOne answers true for every input. No conditions.
-/
import Derived.Test.YtobhfmliaecbjaaDoorOneH
namespace Go.Proofs.YtobhfmliaecbjaaDoor
open Go.RowKit Go.ChangeShapes Go.WideShapes Go.ChangeAt

theorem put_in {w : World} {base g cap n A : Nat} {fl : List (In × Value)} (h : w.ownsRow base 25 5 (.slice (some ⟨g, 0, none⟩) n cap) n (cellsF fl)) (hA : A < fl.length) (x : In) (lv : Value) :
    (((((w.setCell ⟨g, A * 5, none⟩ (.int .i64 x.op)).setCell ⟨g, A * 5 + 1, none⟩ (.int .i64 x.a)).setCell ⟨g, A * 5 + 2, none⟩ (.int .i64 x.b)).setCell ⟨g, A * 5 + 3, none⟩ (.int .i64 x.c)).setCell ⟨g, A * 5 + 4, none⟩ lv).ownsRow base 25 5 (.slice (some ⟨g, 0, none⟩) n cap) n (cellsF (fl.set A (x, lv))) ∧
      Below base w (((((w.setCell ⟨g, A * 5, none⟩ (.int .i64 x.op)).setCell ⟨g, A * 5 + 1, none⟩ (.int .i64 x.a)).setCell ⟨g, A * 5 + 2, none⟩ (.int .i64 x.b)).setCell ⟨g, A * 5 + 3, none⟩ (.int .i64 x.c)).setCell ⟨g, A * 5 + 4, none⟩ lv) := by
  obtain ⟨_, hgb, _, _⟩ := own_cells h
  have hP := row_put (row_put (row_put (row_put (row_put h (A * 5) (.int .i64 x.op)) (A * 5 + 1) (.int .i64 x.a)) (A * 5 + 2) (.int .i64 x.b)) (A * 5 + 3) (.int .i64 x.c)) (A * 5 + 4) lv
  have e := cellsF_set fl A hA (x, lv)
  simp only at e
  rw [e] at hP
  exact ⟨hP, ((((((Below.refl base w)).setCell (p := ⟨g, A * 5, none⟩) hgb _).setCell (p := ⟨g, A * 5 + 1, none⟩) hgb _).setCell (p := ⟨g, A * 5 + 2, none⟩) hgb _).setCell (p := ⟨g, A * 5 + 3, none⟩) hgb _).setCell (p := ⟨g, A * 5 + 4, none⟩) hgb _⟩
theorem hN_set {B A : Nat} {w : World} {fl : List (In × Value)} {x : In} {lv : Value} (h : ∀ p ∈ fl, NumsV B w p.2 p.1.l) (hx : NumsV B w lv x.l) : ∀ p ∈ fl.set A (x, lv), NumsV B w p.2 p.1.l := fun p hp => by
  rcases List.mem_or_eq_of_mem_set hp with h0 | h0
  · exact h p h0
  · subst h0; exact hx
theorem hl_set {A : Nat} {fl : List (In × Value)} {x : In} {lv : Value} {f : List In} (e : fl.map Prod.fst = f) (h : ∀ y ∈ f, y.l.length ≤ 60) (hx : x.l.length ≤ 60) : ∀ y ∈ (fl.set A (x, lv)).map Prod.fst, y.l.length ≤ 60 := fun y hy => by
  obtain ⟨p, hp, rfl⟩ := List.mem_map.1 hy
  rcases List.mem_or_eq_of_mem_set hp with h0 | h0
  · exact h _ (by rw [← e]; exact List.mem_map.2 ⟨p, h0, rfl⟩)
  · subst h0; exact hx
theorem hbad_set {A : Nat} {fl : List (In × Value)} {x : In} {lv : Value} {n : Nat} (hA : A < fl.length) (hn : fl.length = n) (hx : Bad n x) : ∃ y, ((fl.set A (x, lv)).map Prod.fst)[A]? = some y ∧ Bad ((fl.set A (x, lv)).map Prod.fst).length y := by
  refine ⟨x, ?_, ?_⟩
  · rw [List.getElem?_map, List.getElem?_set, if_pos rfl, if_pos hA]; rfl
  · rw [List.length_map, List.length_set, hn]; exact hx

set_option maxRecDepth 100000 in
set_option maxHeartbeats 8000000 in
theorem codeOne_walk (w : World) (fv cv : Value) (p : Pg) (F0 A0 H : Int) (hP : PgV w fv cv p) (hT : TabAt w) (hW : PowAt w) (h4 : 4 ≤ w.heap.size) :
    Calls Tryd.prog 8 #[.agg #[fv, cv], .int .i64 F0, .int .i64 A0, .int .i64 H] w fun e w' => e = .returned (.bool true) ∧ Below w.heap.size w w' := by
  have HP := Lib.hid hP
  obtain ⟨⟨oaf, capf, bf, off, rfl, f1, f2, f3, f4⟩, hCos⟩ := hP
  have HCos := Lib.hid hCos
  obtain ⟨oac, capc, bc, offc, rfl, -⟩ := hCos
  unfold maxLen at f2
  replace f3 := Lib.hid f3
  replace f4 := Lib.hid f4
  obtain ⟨W, hWe⟩ : ∃ W, W = w.alloc (.cells #[.slice oaf p.fs.length capf, .slice oac p.cs.length capc] 35) := ⟨_, rfl⟩
  have hb : Below w.heap.size w W := by rw [hWe]; exact alloc_below _ _
  have hx0 : W.heap[w.heap.size]? = some (.cells #[.slice oaf p.fs.length capf, .slice oac p.cs.length capc] 35) := by rw [hWe, heap_alloc_new]
  have HT := Lib.hid hT
  have HW := Lib.hid hW
  clear hT hW
  go_enter Tryd.func8, Tryd.ntmps8
  go_wp2_with fail
  rw [← hWe]
  clear hWe
  refine (works_any W (HT.out.below hb (by omega)) (HW.out.below hb h4) (Nat.le_trans h4 hb.size)).mono ?_
  rintro e w1 ⟨rfl, hb1⟩
  replace hx0 := keepB hx0 hb1
  have B1 : Below w.heap.size w w1 := hb.trans (hb1.mono hb.size)
  clear hb hb1
  have z0 : w1.cell? ⟨w.heap.size, 0, none⟩ = some (.slice oaf p.fs.length capf) := by simp [World.cell?, hx0]
  have z1 : w1.cell? ⟨w.heap.size, 1, none⟩ = some (.slice oac p.cs.length capc) := by simp [World.cell?, hx0]
  replace hx0 := Lib.hid hx0
  go_wp2_with fail
  refine (over_any w1 _ _ p (HP.out.below B1)).mono ?_
  rintro e w2 ⟨⟨b1, rfl, hs1⟩, hb2⟩
  have B2 : Below w.heap.size w w2 := B1.trans (hb2.mono B1.size)
  replace hx0 := Lib.hid (keepB hx0.out hb2)
  replace hs1 := Lib.hid hs1
  clear z0 z1 hb2 B1
  have z0 : w2.cell? ⟨w.heap.size, 0, none⟩ = some (.slice oaf p.fs.length capf) := by simp [World.cell?, hx0.out]
  have z1 : w2.cell? ⟨w.heap.size, 1, none⟩ = some (.slice oac p.cs.length capc) := by simp [World.cell?, hx0.out]
  cases b1 with
  | true =>
    go_wp2
    go_returns
    exact ⟨rfl, B2⟩
  | false =>
  have S1 := Lib.hid (hs1.out rfl)
  clear hs1
  have hc := valid_any w2 _ _ p (HP.out.below B2) (fun f hf x hx => Nat.le_trans (S1.out.l f hf x hx) (by decide)) (HT.out.below B2 (by omega))
  go_wp2_with fail
  refine hc.mono ?_
  clear hc
  rintro e w3 ⟨b2, rfl, hv, hb3⟩
  have B3 : Below w.heap.size w w3 := B2.trans (hb3.mono B2.size)
  replace hx0 := Lib.hid (keepB hx0.out hb3)
  replace hv := Lib.hid hv
  clear z0 z1 hb3 B2
  have z0 : w3.cell? ⟨w.heap.size, 0, none⟩ = some (.slice oaf p.fs.length capf) := by simp [World.cell?, hx0.out]
  have z1 : w3.cell? ⟨w.heap.size, 1, none⟩ = some (.slice oac p.cs.length capc) := by simp [World.cell?, hx0.out]
  cases b2 with
  | false =>
    go_wp2
    go_returns
    exact ⟨rfl, B3⟩
  | true =>
  have OK := Lib.hid (hv.out.1 rfl)
  clear hv
  by_cases g1 : F0 < 0
  · have t1 : decide (F0 < 0) = true := by simpa using g1
    go_wp2
    go_returns
    exact ⟨rfl, B3⟩
  have t1 : decide (F0 < 0) = false := by simpa using g1
  by_cases g2 : (p.fs.length : Int) ≤ F0
  · have t2 : decide (F0 ≥ p.fs.length) = true := by simpa using g2
    go_wp2
    go_returns
    exact ⟨rfl, B3⟩
  have t2 : decide (F0 ≥ p.fs.length) = false := by simpa using g2
  by_cases g3 : A0 < 0
  · have t3 : decide (A0 < 0) = true := by simpa using g3
    go_wp2
    go_returns
    exact ⟨rfl, B3⟩
  have t3 : decide (A0 < 0) = false := by simpa using g3
  obtain ⟨F, rfl⟩ : ∃ F : Nat, F0 = F := ⟨F0.toNat, by omega⟩
  obtain ⟨A, rfl⟩ : ∃ A : Nat, A0 = A := ⟨A0.toNat, by omega⟩
  have hF : F < p.fs.length := by omega
  have hFi : (F : Int) < p.fs.length := by omega
  obtain ⟨ff, hff⟩ : ∃ f, p.fs[F]? = some f := ⟨_, List.getElem?_eq_getElem hF⟩
  obtain ⟨rfl, hbf⟩ := f3.out (by omega)
  obtain ⟨fvF, k0, oaF, capF, bF, offF, rfl, -⟩ := f4.out F ff hff
  have HFF := Lib.hid hff
  replace k0 := (B3.cell (p := ⟨bf, off + F, none⟩) hbf).trans k0
  clear hff g1 g2 g3
  have t2n : decide (p.fs.length ≤ F) = false := by simp; omega
  by_cases g4 : (ff.length : Int) ≤ A
  · have t4 : decide ((A : Int) ≥ ff.length) = true := by simpa using g4
    go_wp2
    go_returns
    exact ⟨rfl, B3⟩
  have t4 : decide ((A : Int) ≥ ff.length) = false := by simpa using g4
  have hA : A < ff.length := by omega
  have t4n : decide (ff.length ≤ A) = false := by simp; omega
  have hlF := S1.out.fs
  have hl60 := S1.out.f ff (List.mem_of_getElem? HFF.out)
  obtain ⟨B, hBe⟩ : ∃ B, B = w3.heap.size := ⟨_, rfl⟩
  have hwB : w.heap.size < B := by rw [hBe]; exact World.block_lt_of_cell? w3 _ z0
  have hq0 : OneQ B (.slice oac p.cs.length capc) F A 0 w3 (w3.alloc (.cells #[.slice none 0 0, .slice oac p.cs.length capc] 35)) := by
    subst hBe
    exact ⟨⟨[], ⟨.slice none 0 0, [], heap_alloc_new _ _, World.ownsRow_nil _ _ _ _, rfl, fun i fv f h => by simp at h⟩, rfl, fun g hg => by simp at hg, fun h => by omega⟩, alloc_below _ _⟩
  have HQ0 := Lib.hid hq0
  have BB := Lib.hid B3
  have HBE := Lib.hid hBe
  clear hq0 g4
  go_wp2_with fail
  simp only [← hBe]
  clear hBe k0
  go_loopw [12] (fun u wr => ∃ j : Nat, j ≤ p.fs.length ∧ u = .int .i64 j ∧ OneQ B (.slice oac p.cs.length capc) F A j w3 wr) (fun u _ => p.fs.length - (intOf u).toNat)
  case atStart => exact ⟨0, by omega, rfl, HQ0.out⟩
  case round =>
    clear HQ0 z0 z1 B3
    obtain ⟨j, hj, rfl, ⟨⟨gs, ⟨vq, fvs, qbox, qown, qlen, qF⟩, gl, gsm, gbad⟩, hbw⟩⟩ := hrel
    have hbw' : Below w3.heap.size w3 wr := by rw [← HBE.out]; exact hbw
    have hBr : B ≤ wr.heap.size := by rw [HBE.out]; exact hbw.size
    have Bwr : Below w.heap.size w wr := BB.out.trans (hbw'.mono BB.out.size)
    have hxr := keepB hx0.out hbw'
    have z0 : wr.cell? ⟨w.heap.size, 0, none⟩ = some (.slice (some ⟨bf, off, none⟩) p.fs.length capf) := by simp [World.cell?, hxr]
    have z1 : wr.cell? ⟨w.heap.size, 1, none⟩ = some (.slice oac p.cs.length capc) := by simp [World.cell?, hxr]
    have hwr : w.heap.size < wr.heap.size := by omega
    have QF := Lib.hid qF
    have GSM := Lib.hid gsm
    have GBAD := Lib.hid gbad
    have GL := Lib.hid gl
    have QLEN := Lib.hid qlen
    have HBW := Lib.hid hbw
    clear qF gsm gbad gl qlen hbw hbw' hxr
    by_cases hjl : j < p.fs.length
    · have t5 : decide ((j : Int) < p.fs.length) = true := by simp; omega
      have hji : (j : Int) < p.fs.length := by omega
      obtain ⟨f, hf⟩ : ∃ f, p.fs[j]? = some f := ⟨_, List.getElem?_eq_getElem hjl⟩
      obtain ⟨fvj, k0, oaj, capj, bj, offj, rfl, m1, m2, m3, m4⟩ := f4.out j f hf
      have hfl := S1.out.f f (List.mem_of_getElem? hf)
      have hfp := (OK.out.fn j f hf).pos
      have HFX := Lib.hid (S1.out.l f (List.mem_of_getElem? hf))
      have HFJ := Lib.hid (show j = F → f = ff from fun e => by subst e; rw [HFF.out] at hf; exact (Option.some.inj hf).symm)
      obtain ⟨rfl, hbj⟩ := m3 hfp
      obtain ⟨fl, e1, e2, e3⟩ := FunV.pairs (B := B) m4 (by omega)
      have hfll : fl.length = f.length := by rw [← e1, List.length_map]
      have hnews := pairs_news (w := wr) (b := bj) (off := offj) (fl := fl) (fun i q hq k u hu => (Bwr.cell (p := ⟨bj, offj + i * 5 + k, none⟩) hbj).trans (e2 i q hq k u hu))
      have hone := cells_one e3
      have hcl : (cellsF fl).length = f.length * 5 := by rw [cellsF_len, hfll]
      replace k0 := (Bwr.cell (p := ⟨bf, off + j, none⟩) hbf).trans k0
      have hbfr : bf < wr.heap.size := Nat.lt_of_lt_of_le hbf Bwr.size
      have HN := Lib.hid hnews
      have HO := Lib.hid hone
      have HCL := Lib.hid hcl
      have E1 := Lib.hid e1
      have E3 := Lib.hid e3
      have HFLL := Lib.hid hfll
      obtain ⟨i25, hi25, hz25, hs25, hb25⟩ := info_parts info25
      obtain ⟨i39, hi39, hz39, hs39, hb39⟩ := info_parts info39
      have HI39 := Lib.hid (And.intro hi39 (And.intro hz39 (And.intro hs39 hb39)))
      clear hf hnews hone hcl e1 e2 e3 hfll m3 m4 hi39 hz39 hs39 hb39
      go_wp2_with (at_builtin; refine wpList_append_own _ rfl (.tmp 62) (.tmp 67) 39 rfl wr.heap.size 25 i25 _ 5 56 Tryd.underlying39 hi25 hz25 hs25 hb25 rfl (by decide) (.slice none 0 0) 0 [] rfl (World.ownsRow_nil _ _ _ _) ⟨bj, offj, none⟩ f.length capj (cellsF fl) rfl HCL.out HN.out HO.out ?c3 ?c4 ?c5 ?_)
      case c3 => unfold maxLen; omega
      case c4 => omega
      case c5 => omega
      intro v5 w5 hown5 hg5 _
      have hb5 : Below wr.heap.size wr w5 := ⟨hg5.os, hg5.tape, hg5.output, hg5.size, fun k hk => hg5.block k hk (by simp [Value.ownBlock])⟩
      clear hg5 hi25 hz25 hs25 hb25
      obtain ⟨og, g, capg, rfl, hog⟩ := row_shape hown5
      obtain rfl := hog hfp
      have BB5 : Below B w3 w5 := HBW.out.trans (hb5.mono hBr)
      have hB5 : B ≤ w5.heap.size := Nat.le_trans hBr hb5.size
      have Bw5 : Below w.heap.size w w5 := Bwr.trans (hb5.mono Bwr.size)
      have qbox5 := keepB qbox hb5
      have qown5 := row_below hb5 qown
      have QF5 := Lib.hid (show ∀ (i : Nat) (fv : Value) (f : List In), fvs[i]? = some fv → gs[i]? = some f → FunO B w5 fv f from fun i fv f h1 h2 => (QF.out i fv f h1 h2).kq (KQ.of_below hb5))
      have z15 := (hb5.cell (p := ⟨w.heap.size, 1, none⟩) hwr).trans z1
      have hlenF : fl.length = f.length := HFLL.out
      have hO5 := hown5
      have QBOX := Lib.hid qbox
      have QOWN := Lib.hid qown
      clear k0 z0 z1 qbox qown hog HN HO
      by_cases hjF : j = F
      · have t6 : ((j : Int) == F) = true := by simp [hjF]
        have hff := HFJ.out hjF
        have hAl : A < fl.length := by rw [hlenF, hff]; exact hA
        obtain ⟨pr, hpr⟩ : ∃ q, fl[A]? = some q := ⟨_, List.getElem?_eq_getElem hAl⟩
        obtain ⟨x, lvx⟩ := pr
        have hxm := List.mem_of_getElem? hpr
        obtain ⟨hgl, hgb, hgc, hgf⟩ := own_cells hO5
        have r0 : w5.cell? ⟨g, A * 5, none⟩ = some (.int .i64 x.op) := hgc (A * 5) _ (cellsF_get fl A 0 _ hpr (by decide))
        have r1 : w5.cell? ⟨g, A * 5 + 1, none⟩ = some (.int .i64 x.a) := hgc (A * 5 + 1) _ (cellsF_get fl A 1 _ hpr (by decide))
        have r2 : w5.cell? ⟨g, A * 5 + 2, none⟩ = some (.int .i64 x.b) := hgc (A * 5 + 2) _ (cellsF_get fl A 2 _ hpr (by decide))
        have r3 : w5.cell? ⟨g, A * 5 + 3, none⟩ = some (.int .i64 x.c) := hgc (A * 5 + 3) _ (cellsF_get fl A 3 _ hpr (by decide))
        have r4 : w5.cell? ⟨g, A * 5 + 4, none⟩ = some lvx := hgc (A * 5 + 4) _ (cellsF_get fl A 4 _ hpr (by decide))
        have s0 := hgf (A * 5)
        have s1 := hgf (A * 5 + 1)
        have s2 := hgf (A * 5 + 2)
        have s3 := hgf (A * 5 + 3)
        have s4 := hgf (A * 5 + 4)
        have hAi : (A : Int) < f.length := by omega
        have hnx := E3.out (x, lvx) hxm
        obtain ⟨oal, capl, rfl⟩ : ∃ oal capl, lvx = .slice oal x.l.length capl := by obtain ⟨oal, capl, _, _, h, _⟩ := hnx; exact ⟨oal, capl, h⟩
        have HNX := Lib.hid hnx
        have hxl := HFX.out x (by rw [← E1.out]; exact List.mem_map.2 ⟨_, hxm, rfl⟩)
        clear hnx hxm hgc hgf hff hjF
        have hm3 : -3 < H.tmod 3 ∧ H.tmod 3 < 3 := by
          have := Int.tmod_lt_of_pos H (show (0 : Int) < 3 by decide)
          have h2 := Int.tmod_lt_of_pos (-H) (show (0 : Int) < 3 by decide); rw [Int.neg_tmod] at h2
          omega
        obtain ⟨R, hR⟩ : ∃ R, R = H.tmod 3 := ⟨_, rfl⟩
        rw [← hR] at hm3
        have hcase : R < 0 ∨ R = 0 ∨ R = 1 ∨ R = 2 := by omega
        rcases hcase with hr | hr | hr | hr
        · have u0 : (H.tmod 3 == 0) = false := by rw [← hR]; simp; omega
          have u1 : (H.tmod 3 == 1) = false := by rw [← hR]; simp; omega
          have u2 : (H.tmod 3 == 2) = false := by rw [← hR]; simp; omega
          have u3 : decide (H.tmod 3 < 0) = true := by rw [← hR]; simpa using hr
          clear hR hr hm3
          go_wp2
          go_returns
          exact ⟨rfl, Bw5.alloc Bw5.size _⟩
        · clear hm3
          have u0 : (H.tmod 3 == 0) = true := by rw [← hR, hr]; rfl
          have u1 : (H.tmod 3 == 1) = false := by rw [← hR, hr]; rfl
          have u2 : (H.tmod 3 == 2) = false := by rw [← hR, hr]; rfl
          have u3 : decide (H.tmod 3 < 0) = false := by rw [← hR, hr]; rfl
          clear hR hr
          go_upto_region 24 with fail
          obtain ⟨hP5, hbP⟩ := put_in hO5 hAl ⟨99, x.a, x.b, x.c, x.l⟩ (.slice oal x.l.length capl)
          obtain ⟨W8, hW8⟩ : ∃ W, W = ((((((w5.setCell ⟨g, A * 5, none⟩ (.int .i64 99)).setCell ⟨g, A * 5 + 1, none⟩ (.int .i64 x.a)).setCell ⟨g, A * 5 + 2, none⟩ (.int .i64 x.b)).setCell ⟨g, A * 5 + 3, none⟩ (.int .i64 x.c)).setCell ⟨g, A * 5 + 4, none⟩ (.slice oal x.l.length capl)).alloc (.cells #[.int .i64 99, .int .i64 x.a, .int .i64 x.b, .int .i64 x.c, .slice oal x.l.length capl] 25)) := ⟨_, rfl⟩
          have hsS : wr.heap.size ≤ (((((w5.setCell ⟨g, A * 5, none⟩ (.int .i64 99)).setCell ⟨g, A * 5 + 1, none⟩ (.int .i64 x.a)).setCell ⟨g, A * 5 + 2, none⟩ (.int .i64 x.b)).setCell ⟨g, A * 5 + 3, none⟩ (.int .i64 x.c)).setCell ⟨g, A * 5 + 4, none⟩ (.slice oal x.l.length capl)).heap.size := Nat.le_trans hb5.size hbP.size
          have hb8 : Below wr.heap.size w5 W8 := by
            rw [hW8]
            exact hbP.trans ((alloc_below _ _).mono hsS)
          have hO8 : W8.ownsRow wr.heap.size 25 5 (.slice (some ⟨g, 0, none⟩) f.length capg) f.length (cellsF (fl.set A (⟨99, x.a, x.b, x.c, x.l⟩, (.slice oal x.l.length capl)))) := by
            rw [hW8]
            exact row_below (alloc_below _ _) hP5
          have hbr8 : Below wr.heap.size wr W8 := hb5.trans hb8
          have hK8 : KQ B w W8 := KQ.of_below (Bwr.trans (hbr8.mono Bwr.size))
          have hnx8 : NumsV B W8 (.slice oal x.l.length capl) x.l := HNX.out.kq hK8
          have HFO := Lib.hid (FunO.own (B := B) (w := W8) (base := wr.heap.size) (v := .slice (some ⟨g, 0, none⟩) f.length capg) (fl := fl.set A (⟨99, x.a, x.b, x.c, x.l⟩, (.slice oal x.l.length capl))) (by rw [List.length_set, hlenF]; exact hO8) (hN_set (fun p hp => (E3.out p hp).kq hK8) hnx8))
          have HL8 := Lib.hid (hl_set (A := A) (x := ⟨99, x.a, x.b, x.c, x.l⟩) (lv := (.slice oal x.l.length capl)) E1.out HFX.out hxl)
          have HB8 := Lib.hid (fun _ : F = j => hbad_set (A := A) (fl := fl) (x := ⟨99, x.a, x.b, x.c, x.l⟩) (lv := (.slice oal x.l.length capl)) hAl hlenF (bad_op _ _ _ _ _))
          change Code.wp _ _ _ _ ((((((w5.setCell ⟨g, A * 5, none⟩ (.int .i64 99)).setCell ⟨g, A * 5 + 1, none⟩ (.int .i64 x.a)).setCell ⟨g, A * 5 + 2, none⟩ (.int .i64 x.b)).setCell ⟨g, A * 5 + 3, none⟩ (.int .i64 x.c)).setCell ⟨g, A * 5 + 4, none⟩ (.slice oal x.l.length capl)).alloc (.cells #[.int .i64 99, .int .i64 x.a, .int .i64 x.b, .int .i64 x.c, .slice oal x.l.length capl] 25))
          rw [← hW8]
          clear hW8 hP5 hbP hsS hO8 hb8 hK8 hnx8 r0 r1 r2 r3 r4 s0 s1 s2 s3 s4
          have BB8 : Below B w3 W8 := HBW.out.trans (hbr8.mono hBr)
          have hB8 : B ≤ W8.heap.size := Nat.le_trans hBr hbr8.size
          have Bw8 : Below w.heap.size w W8 := Bwr.trans (hbr8.mono Bwr.size)
          have qbox8 := keepB QBOX.out hbr8
          have qown8 := row_below (alloc_below W8 (.cells #[.slice (some ⟨g, 0, none⟩) f.length capg] 39)) (row_below hbr8 QOWN.out)
          have QF8 := Lib.hid (show ∀ (i : Nat) (fv : Value) (f : List In), fvs[i]? = some fv → gs[i]? = some f → FunO B W8 fv f from fun i fv f h1 h2 => (QF.out i fv f h1 h2).kq (KQ.of_below hbr8))
          have z8 : W8.cell? ⟨B, 0, none⟩ = some vq := by simp [World.cell?, qbox8]
          obtain ⟨hi39, hz39, hs39, hb39⟩ := HI39.out
          have hfn : fvs.length + 1 ≤ 100000000 := by have h1 := QLEN.out; have h2 := GL.out; omega
          have hB8' : B ≤ (W8.alloc (.cells #[.slice (some ⟨g, 0, none⟩) f.length capg] 39)).heap.size := Nat.le_trans hB8 (alloc_below W8 _).size
          clear hown5 hO5 qbox5 qown5 QF5 z15 hb5 BB5 Bw5 hbr8
          go_wp2_with (at_builtin; refine wpList_append_own _ rfl (.tmp 100) (.tmp 102) 32 rfl B 39 i39 _ 1 24 Tryd.underlying32 hi39 hz39 hs39 hb39 rfl (by decide) vq fvs.length _ rfl qown8 ⟨W8.heap.size, 0, none⟩ 1 1 [.slice (some ⟨g, 0, none⟩) f.length capg] rfl rfl ?t11 ?t12 ?t13 ?t14 ?t15 ?_)
          try case t11 => exact new_cells W8 [.slice (some ⟨g, 0, none⟩) f.length capg] 39 _ rfl
          case t12 => first | rfl | (intro u hu; simp at hu; rcases hu with rfl; rfl)
          case t13 => unfold maxLen; omega
          case t14 => omega
          case t15 => first | exact hB8' | omega
          intro v6 w6 hown6 hg6 _
          obtain ⟨og6, g6, cap6, rfl, hog6⟩ := row_shape hown6
          obtain rfl := hog6 (by omega)
          have hnext := OneQ.next (F := F) (A := A) BB8 hB8 qbox8 QLEN.out QF8.out HFO.out qown8 hown6 hg6 GL.out GSM.out HL8.out GBAD.out HB8.out rfl
          have hq6 := grown_other qown8 hg6 ((heap_alloc_old _ _ (Array.getElem?_eq_some_iff.1 qbox8).1).trans qbox8) (by decide)
          have z6 : w6.cell? ⟨B, 0, none⟩ = some vq := by simp [World.cell?, hq6]
          have y6 : w6.frozen? ⟨B, 0, none⟩ = false := by simp [World.frozen?, hq6]
          replace hnext := Lib.hid hnext
          clear hown6 hg6 qown8 z8 hq6 qbox8 QF8 hi39 hz39 hs39 hb39
          go_wp2
          go_roundw
          case rel => exact ⟨j + 1, by omega, by go_num, hnext.out⟩
          case measure => simp [intOf]; omega
        · clear hm3
          have u0 : (H.tmod 3 == 0) = false := by rw [← hR, hr]; rfl
          have u1 : (H.tmod 3 == 1) = true := by rw [← hR, hr]; rfl
          have u2 : (H.tmod 3 == 2) = false := by rw [← hR, hr]; rfl
          have u3 : decide (H.tmod 3 < 0) = false := by rw [← hR, hr]; rfl
          clear hR hr
          go_upto_region 24 with fail
          obtain ⟨hP5, hbP⟩ := put_in hO5 hAl ⟨x.op, x.a, x.b, x.c, [(f.length : Int)]⟩ (.slice (some ⟨w5.heap.size + 1, 0, none⟩) 1 1)
          obtain ⟨W8, hW8⟩ : ∃ W, W = (((((((w5.setCell ⟨g, A * 5, none⟩ (.int .i64 x.op)).setCell ⟨g, A * 5 + 1, none⟩ (.int .i64 x.a)).setCell ⟨g, A * 5 + 2, none⟩ (.int .i64 x.b)).setCell ⟨g, A * 5 + 3, none⟩ (.int .i64 x.c)).setCell ⟨g, A * 5 + 4, none⟩ (.slice (some ⟨w5.heap.size + 1, 0, none⟩) 1 1)).alloc (.cells #[.int .i64 x.op, .int .i64 x.a, .int .i64 x.b, .int .i64 x.c, .slice (some ⟨w5.heap.size + 1, 0, none⟩) 1 1] 25)).alloc (.cells #[.int .i64 f.length] 3)) := ⟨_, rfl⟩
          have hsS : wr.heap.size ≤ (((((w5.setCell ⟨g, A * 5, none⟩ (.int .i64 x.op)).setCell ⟨g, A * 5 + 1, none⟩ (.int .i64 x.a)).setCell ⟨g, A * 5 + 2, none⟩ (.int .i64 x.b)).setCell ⟨g, A * 5 + 3, none⟩ (.int .i64 x.c)).setCell ⟨g, A * 5 + 4, none⟩ (.slice (some ⟨w5.heap.size + 1, 0, none⟩) 1 1)).heap.size := Nat.le_trans hb5.size hbP.size
          have hb8 : Below wr.heap.size w5 W8 := by
            rw [hW8]
            exact hbP.trans (((alloc_below _ _).mono hsS).trans ((alloc_below _ _).mono (Nat.le_trans hsS (alloc_below _ _).size)))
          have hO8 : W8.ownsRow wr.heap.size 25 5 (.slice (some ⟨g, 0, none⟩) f.length capg) f.length (cellsF (fl.set A (⟨x.op, x.a, x.b, x.c, [(f.length : Int)]⟩, (.slice (some ⟨w5.heap.size + 1, 0, none⟩) 1 1)))) := by
            rw [hW8]
            exact row_below (alloc_below _ _) (row_below (alloc_below _ _) hP5)
          have hbr8 : Below wr.heap.size wr W8 := hb5.trans hb8
          have hK8 : KQ B w W8 := KQ.of_below (Bwr.trans (hbr8.mono Bwr.size))
          have hnw : W8.heap[w5.heap.size + 1]? = some (.cells #[.int .i64 f.length] 3) := by
            have h0 := heap_alloc_new ((((((w5.setCell ⟨g, A * 5, none⟩ (.int .i64 x.op)).setCell ⟨g, A * 5 + 1, none⟩ (.int .i64 x.a)).setCell ⟨g, A * 5 + 2, none⟩ (.int .i64 x.b)).setCell ⟨g, A * 5 + 3, none⟩ (.int .i64 x.c)).setCell ⟨g, A * 5 + 4, none⟩ (.slice (some ⟨w5.heap.size + 1, 0, none⟩) 1 1)).alloc (.cells #[.int .i64 x.op, .int .i64 x.a, .int .i64 x.b, .int .i64 x.c, .slice (some ⟨w5.heap.size + 1, 0, none⟩) 1 1] 25)) (.cells #[.int .i64 f.length] 3)
            have h1 : ((((((w5.setCell ⟨g, A * 5, none⟩ (.int .i64 x.op)).setCell ⟨g, A * 5 + 1, none⟩ (.int .i64 x.a)).setCell ⟨g, A * 5 + 2, none⟩ (.int .i64 x.b)).setCell ⟨g, A * 5 + 3, none⟩ (.int .i64 x.c)).setCell ⟨g, A * 5 + 4, none⟩ (.slice (some ⟨w5.heap.size + 1, 0, none⟩) 1 1)).alloc (.cells #[.int .i64 x.op, .int .i64 x.a, .int .i64 x.b, .int .i64 x.c, .slice (some ⟨w5.heap.size + 1, 0, none⟩) 1 1] 25)).heap.size = w5.heap.size + 1 := by simp [World.setCell, World.alloc]
            rw [h1] at h0
            rw [hW8]
            exact h0
          have hnx8 : NumsV B W8 (.slice (some ⟨w5.heap.size + 1, 0, none⟩) 1 1) [(f.length : Int)] := by
            refine ⟨_, 1, w5.heap.size + 1, 0, rfl, Nat.le_refl _, by decide, fun _ => ⟨rfl, (Array.getElem?_eq_some_iff.1 hnw).1, .inr ⟨_, _, hnw⟩⟩, fun i z hz => ?_⟩
            cases i with
            | zero => simp at hz; subst hz; simp [World.cell?, hnw]
            | succ i => simp at hz
          have HFO := Lib.hid (FunO.own (B := B) (w := W8) (base := wr.heap.size) (v := .slice (some ⟨g, 0, none⟩) f.length capg) (fl := fl.set A (⟨x.op, x.a, x.b, x.c, [(f.length : Int)]⟩, (.slice (some ⟨w5.heap.size + 1, 0, none⟩) 1 1))) (by rw [List.length_set, hlenF]; exact hO8) (hN_set (fun p hp => (E3.out p hp).kq hK8) hnx8))
          have HL8 := Lib.hid (hl_set (A := A) (x := ⟨x.op, x.a, x.b, x.c, [(f.length : Int)]⟩) (lv := (.slice (some ⟨w5.heap.size + 1, 0, none⟩) 1 1)) E1.out HFX.out (by show 1 ≤ 60; omega))
          have HB8 := Lib.hid (fun _ : F = j => hbad_set (A := A) (fl := fl) (x := ⟨x.op, x.a, x.b, x.c, [(f.length : Int)]⟩) (lv := (.slice (some ⟨w5.heap.size + 1, 0, none⟩) 1 1)) hAl hlenF (bad_lab _ _ _ _ _))
          change Code.wp _ _ _ _ (((((((w5.setCell ⟨g, A * 5, none⟩ (.int .i64 x.op)).setCell ⟨g, A * 5 + 1, none⟩ (.int .i64 x.a)).setCell ⟨g, A * 5 + 2, none⟩ (.int .i64 x.b)).setCell ⟨g, A * 5 + 3, none⟩ (.int .i64 x.c)).setCell ⟨g, A * 5 + 4, none⟩ (.slice (some ⟨w5.heap.size + 1, 0, none⟩) 1 1)).alloc (.cells #[.int .i64 x.op, .int .i64 x.a, .int .i64 x.b, .int .i64 x.c, .slice (some ⟨w5.heap.size + 1, 0, none⟩) 1 1] 25)).alloc (.cells #[.int .i64 f.length] 3))
          rw [← hW8]
          clear hW8 hP5 hbP hsS hO8 hb8 hK8 hnx8 r0 r1 r2 r3 r4 s0 s1 s2 s3 s4 hnw
          have BB8 : Below B w3 W8 := HBW.out.trans (hbr8.mono hBr)
          have hB8 : B ≤ W8.heap.size := Nat.le_trans hBr hbr8.size
          have Bw8 : Below w.heap.size w W8 := Bwr.trans (hbr8.mono Bwr.size)
          have qbox8 := keepB QBOX.out hbr8
          have qown8 := row_below (alloc_below W8 (.cells #[.slice (some ⟨g, 0, none⟩) f.length capg] 39)) (row_below hbr8 QOWN.out)
          have QF8 := Lib.hid (show ∀ (i : Nat) (fv : Value) (f : List In), fvs[i]? = some fv → gs[i]? = some f → FunO B W8 fv f from fun i fv f h1 h2 => (QF.out i fv f h1 h2).kq (KQ.of_below hbr8))
          have z8 : W8.cell? ⟨B, 0, none⟩ = some vq := by simp [World.cell?, qbox8]
          obtain ⟨hi39, hz39, hs39, hb39⟩ := HI39.out
          have hfn : fvs.length + 1 ≤ 100000000 := by have h1 := QLEN.out; have h2 := GL.out; omega
          have hB8' : B ≤ (W8.alloc (.cells #[.slice (some ⟨g, 0, none⟩) f.length capg] 39)).heap.size := Nat.le_trans hB8 (alloc_below W8 _).size
          clear hown5 hO5 qbox5 qown5 QF5 z15 hb5 BB5 Bw5 hbr8
          go_wp2_with (at_builtin; refine wpList_append_own _ rfl (.tmp 100) (.tmp 102) 32 rfl B 39 i39 _ 1 24 Tryd.underlying32 hi39 hz39 hs39 hb39 rfl (by decide) vq fvs.length _ rfl qown8 ⟨W8.heap.size, 0, none⟩ 1 1 [.slice (some ⟨g, 0, none⟩) f.length capg] rfl rfl ?t21 ?t22 ?t23 ?t24 ?t25 ?_)
          try case t21 => exact new_cells W8 [.slice (some ⟨g, 0, none⟩) f.length capg] 39 _ rfl
          case t22 => first | rfl | (intro u hu; simp at hu; rcases hu with rfl; rfl)
          case t23 => unfold maxLen; omega
          case t24 => omega
          case t25 => first | exact hB8' | omega
          intro v6 w6 hown6 hg6 _
          obtain ⟨og6, g6, cap6, rfl, hog6⟩ := row_shape hown6
          obtain rfl := hog6 (by omega)
          have hnext := OneQ.next (F := F) (A := A) BB8 hB8 qbox8 QLEN.out QF8.out HFO.out qown8 hown6 hg6 GL.out GSM.out HL8.out GBAD.out HB8.out rfl
          have hq6 := grown_other qown8 hg6 ((heap_alloc_old _ _ (Array.getElem?_eq_some_iff.1 qbox8).1).trans qbox8) (by decide)
          have z6 : w6.cell? ⟨B, 0, none⟩ = some vq := by simp [World.cell?, hq6]
          have y6 : w6.frozen? ⟨B, 0, none⟩ = false := by simp [World.frozen?, hq6]
          replace hnext := Lib.hid hnext
          clear hown6 hg6 qown8 z8 hq6 qbox8 QF8 hi39 hz39 hs39 hb39
          go_wp2
          go_roundw
          case rel => exact ⟨j + 1, by omega, by go_num, hnext.out⟩
          case measure => simp [intOf]; omega
        · clear hm3
          have u0 : (H.tmod 3 == 0) = false := by rw [← hR, hr]; rfl
          have u1 : (H.tmod 3 == 1) = false := by rw [← hR, hr]; rfl
          have u2 : (H.tmod 3 == 2) = true := by rw [← hR, hr]; rfl
          have u3 : decide (H.tmod 3 < 0) = false := by rw [← hR, hr]; rfl
          clear hR hr
          go_upto_region 24 with fail
          obtain ⟨hP5, hbP⟩ := put_in hO5 hAl ⟨x.op, 16, x.b, x.c, x.l⟩ (.slice oal x.l.length capl)
          obtain ⟨W8, hW8⟩ : ∃ W, W = ((((((w5.setCell ⟨g, A * 5, none⟩ (.int .i64 x.op)).setCell ⟨g, A * 5 + 1, none⟩ (.int .i64 16)).setCell ⟨g, A * 5 + 2, none⟩ (.int .i64 x.b)).setCell ⟨g, A * 5 + 3, none⟩ (.int .i64 x.c)).setCell ⟨g, A * 5 + 4, none⟩ (.slice oal x.l.length capl)).alloc (.cells #[.int .i64 x.op, .int .i64 16, .int .i64 x.b, .int .i64 x.c, .slice oal x.l.length capl] 25)) := ⟨_, rfl⟩
          have hsS : wr.heap.size ≤ (((((w5.setCell ⟨g, A * 5, none⟩ (.int .i64 x.op)).setCell ⟨g, A * 5 + 1, none⟩ (.int .i64 16)).setCell ⟨g, A * 5 + 2, none⟩ (.int .i64 x.b)).setCell ⟨g, A * 5 + 3, none⟩ (.int .i64 x.c)).setCell ⟨g, A * 5 + 4, none⟩ (.slice oal x.l.length capl)).heap.size := Nat.le_trans hb5.size hbP.size
          have hb8 : Below wr.heap.size w5 W8 := by
            rw [hW8]
            exact hbP.trans ((alloc_below _ _).mono hsS)
          have hO8 : W8.ownsRow wr.heap.size 25 5 (.slice (some ⟨g, 0, none⟩) f.length capg) f.length (cellsF (fl.set A (⟨x.op, 16, x.b, x.c, x.l⟩, (.slice oal x.l.length capl)))) := by
            rw [hW8]
            exact row_below (alloc_below _ _) hP5
          have hbr8 : Below wr.heap.size wr W8 := hb5.trans hb8
          have hK8 : KQ B w W8 := KQ.of_below (Bwr.trans (hbr8.mono Bwr.size))
          have hnx8 : NumsV B W8 (.slice oal x.l.length capl) x.l := HNX.out.kq hK8
          have HFO := Lib.hid (FunO.own (B := B) (w := W8) (base := wr.heap.size) (v := .slice (some ⟨g, 0, none⟩) f.length capg) (fl := fl.set A (⟨x.op, 16, x.b, x.c, x.l⟩, (.slice oal x.l.length capl))) (by rw [List.length_set, hlenF]; exact hO8) (hN_set (fun p hp => (E3.out p hp).kq hK8) hnx8))
          have HL8 := Lib.hid (hl_set (A := A) (x := ⟨x.op, 16, x.b, x.c, x.l⟩) (lv := (.slice oal x.l.length capl)) E1.out HFX.out hxl)
          have HB8 := Lib.hid (fun _ : F = j => hbad_set (A := A) (fl := fl) (x := ⟨x.op, 16, x.b, x.c, x.l⟩) (lv := (.slice oal x.l.length capl)) hAl hlenF (bad_reg _ _ _ _ _))
          change Code.wp _ _ _ _ ((((((w5.setCell ⟨g, A * 5, none⟩ (.int .i64 x.op)).setCell ⟨g, A * 5 + 1, none⟩ (.int .i64 16)).setCell ⟨g, A * 5 + 2, none⟩ (.int .i64 x.b)).setCell ⟨g, A * 5 + 3, none⟩ (.int .i64 x.c)).setCell ⟨g, A * 5 + 4, none⟩ (.slice oal x.l.length capl)).alloc (.cells #[.int .i64 x.op, .int .i64 16, .int .i64 x.b, .int .i64 x.c, .slice oal x.l.length capl] 25))
          rw [← hW8]
          clear hW8 hP5 hbP hsS hO8 hb8 hK8 hnx8 r0 r1 r2 r3 r4 s0 s1 s2 s3 s4
          have BB8 : Below B w3 W8 := HBW.out.trans (hbr8.mono hBr)
          have hB8 : B ≤ W8.heap.size := Nat.le_trans hBr hbr8.size
          have Bw8 : Below w.heap.size w W8 := Bwr.trans (hbr8.mono Bwr.size)
          have qbox8 := keepB QBOX.out hbr8
          have qown8 := row_below (alloc_below W8 (.cells #[.slice (some ⟨g, 0, none⟩) f.length capg] 39)) (row_below hbr8 QOWN.out)
          have QF8 := Lib.hid (show ∀ (i : Nat) (fv : Value) (f : List In), fvs[i]? = some fv → gs[i]? = some f → FunO B W8 fv f from fun i fv f h1 h2 => (QF.out i fv f h1 h2).kq (KQ.of_below hbr8))
          have z8 : W8.cell? ⟨B, 0, none⟩ = some vq := by simp [World.cell?, qbox8]
          obtain ⟨hi39, hz39, hs39, hb39⟩ := HI39.out
          have hfn : fvs.length + 1 ≤ 100000000 := by have h1 := QLEN.out; have h2 := GL.out; omega
          have hB8' : B ≤ (W8.alloc (.cells #[.slice (some ⟨g, 0, none⟩) f.length capg] 39)).heap.size := Nat.le_trans hB8 (alloc_below W8 _).size
          clear hown5 hO5 qbox5 qown5 QF5 z15 hb5 BB5 Bw5 hbr8
          go_wp2_with (at_builtin; refine wpList_append_own _ rfl (.tmp 100) (.tmp 102) 32 rfl B 39 i39 _ 1 24 Tryd.underlying32 hi39 hz39 hs39 hb39 rfl (by decide) vq fvs.length _ rfl qown8 ⟨W8.heap.size, 0, none⟩ 1 1 [.slice (some ⟨g, 0, none⟩) f.length capg] rfl rfl ?t31 ?t32 ?t33 ?t34 ?t35 ?_)
          try case t31 => exact new_cells W8 [.slice (some ⟨g, 0, none⟩) f.length capg] 39 _ rfl
          case t32 => first | rfl | (intro u hu; simp at hu; rcases hu with rfl; rfl)
          case t33 => unfold maxLen; omega
          case t34 => omega
          case t35 => first | exact hB8' | omega
          intro v6 w6 hown6 hg6 _
          obtain ⟨og6, g6, cap6, rfl, hog6⟩ := row_shape hown6
          obtain rfl := hog6 (by omega)
          have hnext := OneQ.next (F := F) (A := A) BB8 hB8 qbox8 QLEN.out QF8.out HFO.out qown8 hown6 hg6 GL.out GSM.out HL8.out GBAD.out HB8.out rfl
          have hq6 := grown_other qown8 hg6 ((heap_alloc_old _ _ (Array.getElem?_eq_some_iff.1 qbox8).1).trans qbox8) (by decide)
          have z6 : w6.cell? ⟨B, 0, none⟩ = some vq := by simp [World.cell?, hq6]
          have y6 : w6.frozen? ⟨B, 0, none⟩ = false := by simp [World.frozen?, hq6]
          replace hnext := Lib.hid hnext
          clear hown6 hg6 qown8 z8 hq6 qbox8 QF8 hi39 hz39 hs39 hb39
          go_wp2
          go_roundw
          case rel => exact ⟨j + 1, by omega, by go_num, hnext.out⟩
          case measure => simp [intOf]; omega
      · have t6 : ((j : Int) == F) = false := by simp; omega
        go_upto_region 24 with fail
        obtain ⟨W8, hW8⟩ : ∃ W, W = w5 := ⟨_, rfl⟩
        have hbr8 : Below wr.heap.size wr W8 := by rw [hW8]; exact hb5
        have hK8 : KQ B w W8 := KQ.of_below (Bwr.trans (hbr8.mono Bwr.size))
        have HFO := Lib.hid (FunO.own (B := B) (w := W8) (base := wr.heap.size) (v := .slice (some ⟨g, 0, none⟩) f.length capg) (fl := fl) (by rw [hlenF, hW8]; exact hO5) (fun p hp => (E3.out p hp).kq hK8))
        have HL8 := Lib.hid (show ∀ y ∈ fl.map Prod.fst, y.l.length ≤ 60 by rw [E1.out]; exact HFX.out)
        have HB8 := Lib.hid (show F = j → ∃ y, (fl.map Prod.fst)[A]? = some y ∧ Bad (fl.map Prod.fst).length y from fun e => absurd e.symm hjF)
        rw [← hW8]
        clear hW8 hK8
        have BB8 : Below B w3 W8 := HBW.out.trans (hbr8.mono hBr)
        have hB8 : B ≤ W8.heap.size := Nat.le_trans hBr hbr8.size
        have Bw8 : Below w.heap.size w W8 := Bwr.trans (hbr8.mono Bwr.size)
        have qbox8 := keepB QBOX.out hbr8
        have qown8 := row_below (alloc_below W8 (.cells #[.slice (some ⟨g, 0, none⟩) f.length capg] 39)) (row_below hbr8 QOWN.out)
        have QF8 := Lib.hid (show ∀ (i : Nat) (fv : Value) (f : List In), fvs[i]? = some fv → gs[i]? = some f → FunO B W8 fv f from fun i fv f h1 h2 => (QF.out i fv f h1 h2).kq (KQ.of_below hbr8))
        have z8 : W8.cell? ⟨B, 0, none⟩ = some vq := by simp [World.cell?, qbox8]
        obtain ⟨hi39, hz39, hs39, hb39⟩ := HI39.out
        have hfn : fvs.length + 1 ≤ 100000000 := by have h1 := QLEN.out; have h2 := GL.out; omega
        have hB8' : B ≤ (W8.alloc (.cells #[.slice (some ⟨g, 0, none⟩) f.length capg] 39)).heap.size := Nat.le_trans hB8 (alloc_below W8 _).size
        clear hown5 hO5 qbox5 qown5 QF5 z15 hb5 BB5 Bw5 hbr8
        go_wp2_with (at_builtin; refine wpList_append_own _ rfl (.tmp 100) (.tmp 102) 32 rfl B 39 i39 _ 1 24 Tryd.underlying32 hi39 hz39 hs39 hb39 rfl (by decide) vq fvs.length _ rfl qown8 ⟨W8.heap.size, 0, none⟩ 1 1 [.slice (some ⟨g, 0, none⟩) f.length capg] rfl rfl ?t41 ?t42 ?t43 ?t44 ?t45 ?_)
        try case t41 => exact new_cells W8 [.slice (some ⟨g, 0, none⟩) f.length capg] 39 _ rfl
        case t42 => first | rfl | (intro u hu; simp at hu; rcases hu with rfl; rfl)
        case t43 => unfold maxLen; omega
        case t44 => omega
        case t45 => first | exact hB8' | omega
        intro v6 w6 hown6 hg6 _
        obtain ⟨og6, g6, cap6, rfl, hog6⟩ := row_shape hown6
        obtain rfl := hog6 (by omega)
        have hnext := OneQ.next (F := F) (A := A) BB8 hB8 qbox8 QLEN.out QF8.out HFO.out qown8 hown6 hg6 GL.out GSM.out HL8.out GBAD.out HB8.out rfl
        have hq6 := grown_other qown8 hg6 ((heap_alloc_old _ _ (Array.getElem?_eq_some_iff.1 qbox8).1).trans qbox8) (by decide)
        have z6 : w6.cell? ⟨B, 0, none⟩ = some vq := by simp [World.cell?, hq6]
        have y6 : w6.frozen? ⟨B, 0, none⟩ = false := by simp [World.frozen?, hq6]
        replace hnext := Lib.hid hnext
        clear hown6 hg6 qown8 z8 hq6 qbox8 QF8 hi39 hz39 hs39 hb39
        go_wp2
        go_roundw
        case rel => exact ⟨j + 1, by omega, by go_num, hnext.out⟩
        case measure => simp [intOf]; omega
    · have t5 : decide ((j : Int) < p.fs.length) = false := by simp; omega
      obtain rfl : j = p.fs.length := by omega
      have hg0 := GBAD.out hF
      have hQ : QAt B B wr (.slice oac p.cs.length capc) gs := ⟨vq, fvs, qbox, qown, QLEN.out, QF.out⟩
      obtain ⟨vq', hq', hPq⟩ := hQ.pg (HCos.out.below Bwr)
      have zq : wr.cell? ⟨B, 0, none⟩ = some vq' := by simp [World.cell?, hq']
      have zq1 : wr.cell? ⟨B, 1, none⟩ = some (.slice oac p.cs.length capc) := by simp [World.cell?, hq']
      obtain ⟨g0, x0, hgx, hxx, hbx⟩ := hg0
      have hno := Lib.hid (not_ok (cs := p.cs) hgx hxx hbx)
      have hcv := valid_any wr _ _ ⟨gs, p.cs⟩ hPq (fun g hg x hx => Nat.le_trans (GSM.out g hg x hx) (by decide)) (HT.out.below Bwr (by omega))
      clear hQ qbox qown hgx hxx hbx hq' hPq
      go_wp2_with fail
      refine hcv.mono ?_
      clear hcv
      rintro e w7 ⟨b7, rfl, hv7, hb7⟩
      have hb7f : b7 = false := by
        cases b7 with
        | false => rfl
        | true => exact absurd (hv7.1 rfl) hno.out
      subst hb7f
      clear zq zq1 z0 z1
      go_wp2
      go_returns
      exact ⟨rfl, Bwr.trans (hb7.mono Bwr.size)⟩

set_option maxRecDepth 100000 in
theorem codeOne_lifted (os : Os) (started : os.Started) (H : Type) (enc : TypeId × Value → H) :
    ReturnsInHanded {} Tryd.checked os 8 .any (fun w args => (Rows.codeOneSpec.pre enc Tryd.prog Tryd.f8 [] false w args ∧ laidMetH Tryd.prog laid4 w) ∧ sizedMet enc Tryd.prog Tryd.f8 (OpenSpec.ofChange Rows.codeOneSpec) false w args)
      (Rows.codeOneSpec.post enc Tryd.prog Tryd.f8 false true false false) := by
  refine returnsInHanded_of_change_and (C := Tryd.checked) (X := fun w _ => laidMetH Tryd.prog laid4 w) (fun _ _ _ hh h => h.of_heap hh) own started (by kernel_rfl) Tryd.func8
    (ChangeSpec.witness_shaped (enc := enc) (C := Tryd.checked) (os := os) (X := fun w _ => laidMetH Tryd.prog laid4 w) false (World.doorLaid Tryd.prog 400 os) #[.agg #[.slice none 0 0, .slice none 0 0], .int .i64 0, .int .i64 0, .int .i64 0] 8 rfl (World.shaped_of_RefB (by kernel_rfl) (by kernel_rfl)) (by kernel_rfl) (by kernel_rfl) (by kernel_rfl) (door_met os _)) ?_
  intro W base args ds gs before hval0 hW _ _ hL _
  have hval : ∀ (j : Nat) t v, Tryd.f8.params[j]? = some t → args[j]? = some v → Value.okWide Tryd.prog W .any base t v := hval0
  have hW' := hW
  obtain ⟨p, q, hA0, hV, rfl, hfz, hnd⟩ := hW
  have hA : DataW.TrodAll enc Tryd.prog W 0 (fun _ => true) true Tryd.f8.params.toList args.toList ds p := hA0
  rw [Tryd.params8] at hA hval
  obtain ⟨v0, vs0, d0, ds0, p0, q0, hargs, rfl, rfl, h0, r0⟩ := trodAll_cons hA
  obtain ⟨v1, vs1, d1, ds1, p1, q1, rfl, rfl, rfl, h1, r1⟩ := trodAll_cons r0
  obtain ⟨v2, vs2, d2, ds2, p2, q2, rfl, rfl, rfl, h2, r2⟩ := trodAll_cons r1
  obtain ⟨v3, vs3, d3, ds3, p3, q3, rfl, rfl, rfl, h3, r3⟩ := trodAll_cons r2
  obtain ⟨rfl, rfl, rfl⟩ := trodAll_nil r3
  obtain rfl : args = #[v0, v1, v2, v3] := by cases args; simp_all
  obtain ⟨rfl, rfl⟩ := trodVars_none hV
  obtain ⟨fv, cv, pp, rfl, hP, hNp⟩ := open_pg (hval 0 35 v0 rfl rfl) h0
  obtain ⟨a1, rfl, rfl, rfl, wa1⟩ := open_int Tryd.underlying3 (hval 1 3 v1 rfl rfl) h1
  obtain ⟨a2, rfl, rfl, rfl, wa2⟩ := open_int Tryd.underlying3 (hval 2 3 v2 rfl rfl) h2
  obtain ⟨a3, rfl, rfl, rfl, wa3⟩ := open_int Tryd.underlying3 (hval 3 3 v3 rfl rfl) h3
  obtain ⟨hT, hPw, h4⟩ := of_laid hL
  refine (codeOne_walk W fv cv pp a1 a2 a3 hP hT hPw h4).mono fun e W' ⟨he, hb⟩ => ?_
  subst he
  exact ⟨_, rfl, law_post rfl rfl (by kernel_rfl) rfl hW' hb⟩

set_option maxRecDepth 100000 in
theorem codeOne_holds : Rows.CodeOneSaid :=
  OpenClaim.holds_of_wide 8 Tryd.f8 rfl rfl rfl rfl rfl rfl rfl ⟨rfl, rfl, rfl, rfl, rfl⟩ rfl rfl rfl rfl rfl (by kernel_rfl) Tryd.func8 (by kernel_rfl)
    (of_decide_eq_true (by kernel_rfl)) (by unfold Func.isWrapper; first | (rw [if_pos (by decide +kernel)]; kernel_rfl) | (rw [if_neg (by decide +kernel)]; exact ⟨rfl, rfl⟩))
    (fun os started H enc _ => codeOne_lifted os started H enc)

set_option maxRecDepth 100000 in
theorem codeOne_card : Rows.CodeOneCardSaid :=
  Claim7.holds_tied_plain_at .later [] [.data, .data, .data, .data] true (true, "e0d625a2e69adf01b107668993ea5ba20a030b330d5d389efb3f1299f4f792e2") false
    codeOne_holds (fun _ h => by cases h) (by kernel_rfl) (fun _ h => by cases h) codeOne_row_tie rfl ⟨rfl, rfl⟩ (by kernel_rfl) rfl
    (fun f fn hf hfn => by
      obtain rfl : f = 8 := Option.some.inj ((show Tryd.prog.funcNamed "cocoon/cocoonlaw02.CodeOne" = some 8 by kernel_rfl).symm.trans hf) |>.symm
      obtain rfl : fn = Tryd.f8 := (Option.some.inj (Tryd.func8.symm.trans hfn)).symm
      exact ⟨by kernel_rfl, fun j t ht => by
        rw [Tryd.params8] at ht
        have hm : t ∈ [35, 3, 3, 3] := by simpa using Array.mem_of_getElem? ht
        have hall : ([35, 3, 3, 3].all fun u => !Tryd.prog.wantsStandIn u) = true := by kernel_rfl
        exact (show Tryd.prog.wantsStandIn t = false by simpa using List.all_eq_true.1 hall t hm)⟩)
    (by kernel_rfl)

end Go.Proofs.YtobhfmliaecbjaaDoor
