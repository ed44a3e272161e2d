/-
  CodeMore answers true for every input. No conditions.
-/
import Derived.Test.YtobhfmliaecbjaaDoorOneH
import Derived.Test.YtobhfmliaecbjaaDoorMore
namespace Go.Proofs.YtobhfmliaecbjaaDoor
open Go.RowKit Go.ChangeShapes Go.WideShapes Go.ChangeAt

def tailP (last : In) (lv : Value) (n : Nat) : List (In × Value) := (List.range n).flatMap fun k => [(cstI k, .slice none 0 0), (last, lv)]
theorem tailP_fst (last : In) (lv : Value) (n : Nat) : (tailP last lv n).map Prod.fst = tailI last n := by
  simp [tailP, tailI, List.map_flatMap]
theorem tailP_succ (last : In) (lv : Value) (n : Nat) : tailP last lv (n + 1) = tailP last lv n ++ [(cstI n, .slice none 0 0), (last, lv)] := by
  simp [tailP, List.range_succ, List.flatMap_append]
theorem tailP_mem {last : In} {lv : Value} {n : Nat} {q : In × Value} (h : q ∈ tailP last lv n) : q = (last, lv) ∨ ∃ k, q = (cstI k, .slice none 0 0) := by
  obtain ⟨k, hk, hx⟩ := List.mem_flatMap.1 h
  simp at hx
  rcases hx with hx | hx
  · exact .inr ⟨k, hx⟩
  · exact .inl hx
theorem cellsF_append (a b : List (In × Value)) : cellsF (a ++ b) = cellsF a ++ cellsF b := by simp [cellsF]
theorem own_ne {w : World} {base n bl : Nat} {v : Value} {xs : List Value} {c : Array Value} (h : w.ownsRow base 25 5 v n xs) (hbl : w.heap[bl]? = some (.cells c 25)) (hc : c.size = 5) (hn : 2 ≤ n) : v.ownBlock ≠ some bl := by
  rcases h.2 with ⟨rfl, h0⟩ | ⟨g, cap, cur, rfl, hbb, hgg, h1, h2, h3, h4⟩
  · simp [Value.ownBlock]
  · simp only [Value.ownBlock, ne_eq, Option.some.injEq]
    rintro rfl
    rw [hbl] at hgg
    simp at hgg
    subst hgg
    omega
theorem nums_nil {B : Nat} {w : World} : NumsV B w (.slice none 0 0) [] := ⟨none, 0, 0, 0, rfl, Nat.le_refl _, Nat.zero_le _, fun h => absurd h (Nat.lt_irrefl _), fun i z hz => by simp at hz⟩
theorem hN_tail {B n : Nat} {w : World} {fl : List (In × Value)} {last : In} {lv : Value} (h : ∀ p ∈ fl, NumsV B w p.2 p.1.l) (hx : NumsV B w lv last.l) : ∀ p ∈ fl ++ tailP last lv n, NumsV B w p.2 p.1.l := fun p hp => by
  rcases List.mem_append.1 hp with h0 | h0
  · exact h p h0
  · rcases tailP_mem h0 with rfl | ⟨k, rfl⟩
    · exact hx
    · exact nums_nil
theorem hl_tail {n : Nat} {last : In} {f : List In} (h : ∀ y ∈ f, y.l.length ≤ 60) (hx : last.l.length ≤ 60) : ∀ y ∈ f ++ tailI last n, y.l.length ≤ 60 := fun y hy => by
  rcases List.mem_append.1 hy with h0 | h0
  · exact h y h0
  · rcases tailI_mem h0 with rfl | ⟨k, _, rfl⟩
    · exact hx
    · exact Nat.zero_le _

/-- what the loop has built -/
structure MoreQ (B : Nat) (cv : Value) (p : Pg) (N j : Nat) (w3 wr : World) : Prop where
  q : ∃ gs, QAt B B wr cv gs ∧ gs.length = j ∧ (∀ g ∈ gs, ∀ x ∈ g, x.l.length ≤ 60) ∧ (∀ (i : Nat) (f g : List In), p.fs[i]? = some f → gs[i]? = some g → ∃ last, f[f.length - 1]? = some last ∧ g = f ++ tailI last N)
  below : Below B w3 wr

theorem MoreQ.next {B : Nat} {cv vq vq' v' : Value} {p : Pg} {N j : Nat} {w3 w5 w6 wr : World} {fvs : List Value} {gs : List (List In)} {f f' : List In} {last : In} {o : Obj} (hb5 : Below B w3 w5) (hB5 : B ≤ w5.heap.size)
    (hbox : w5.heap[B]? = some (.cells #[vq, cv] 35)) (hlen : fvs.length = gs.length) (hF : ∀ (i : Nat) (fv : Value) (f : List In), fvs[i]? = some fv → gs[i]? = some f → FunO B w5 fv f) (hnew : FunO B w5 v' f')
    (ha : (w5.alloc o).ownsRow B 39 1 vq fvs.length fvs) (h6 : w6.ownsRow B 39 1 vq' (fvs.length + 1) (fvs ++ [v'])) (hg : (w5.alloc o).grownBy w6 vq.ownBlock) (hj : gs.length = j)
    (hl : ∀ g ∈ gs, ∀ x ∈ g, x.l.length ≤ 60) (hl' : ∀ x ∈ f', x.l.length ≤ 60) (hold : ∀ (i : Nat) (f g : List In), p.fs[i]? = some f → gs[i]? = some g → ∃ last, f[f.length - 1]? = some last ∧ g = f ++ tailI last N)
    (hfj : p.fs[j]? = some f) (hla : f[f.length - 1]? = some last) (hf' : f' = f ++ tailI last N)
    (hwr : wr = w6.setCell ⟨B, 0, none⟩ vq') : MoreQ B cv p N (j + 1) w3 wr := by
  subst hwr
  obtain ⟨hQ, hK⟩ := QAt.push hbox hlen hF hnew (Nat.le_refl _) ha h6 hg
  refine ⟨⟨gs ++ [f'], hQ, by simp [hj], fun g hgm x hx => ?_, fun i h g hi hgi => ?_⟩, hb5.trans (hK.below hB5)⟩
  · rcases List.mem_append.1 hgm with h | h
    · exact hl g h x hx
    · simp at h; subst h; exact hl' x hx
  · by_cases e : i < gs.length
    · rw [List.getElem?_append_left e] at hgi
      exact hold i h g hi hgi
    · rw [List.getElem?_append_right (by omega)] at hgi
      have e0 : i - gs.length = 0 := by have := (List.getElem?_eq_some_iff.1 hgi).1; simp at this; omega
      rw [e0] at hgi
      simp at hgi
      subst hgi
      have : i = j := by omega
      subst this
      rw [hfj] at hi
      cases hi
      exact ⟨last, hla, hf'⟩

set_option maxRecDepth 100000 in
set_option maxHeartbeats 8000000 in
theorem codeMore_walk (w : World) (fv cv : Value) (p : Pg) (N0 : Int) (hP : PgV w fv cv p) (hT : TabAt w) (hW : PowAt w) (h4 : 4 ≤ w.heap.size) :
    Calls Tryd.prog 6 #[.agg #[fv, cv], .int .i64 N0] w fun e w' => e = .returned (.bool true) ∧ Below w.heap.size w w' := by
  have HP := Lib.hid hP
  obtain ⟨⟨oaf, capf, bf, off, rfl, f1, f2, f3, f4⟩, hCos⟩ := hP
  have HCos := Lib.hid hCos
  obtain ⟨oac, capc, bc, offc, rfl, -⟩ := hCos
  unfold maxLen at f2
  replace f3 := Lib.hid f3
  replace f4 := Lib.hid f4
  obtain ⟨W, hWe⟩ : ∃ W, W = w.alloc (.cells #[.slice oaf p.fs.length capf, .slice oac p.cs.length capc] 35) := ⟨_, rfl⟩
  have hb : Below w.heap.size w W := by rw [hWe]; exact alloc_below _ _
  have hx0 : W.heap[w.heap.size]? = some (.cells #[.slice oaf p.fs.length capf, .slice oac p.cs.length capc] 35) := by rw [hWe, heap_alloc_new]
  have HT := Lib.hid hT
  have HW := Lib.hid hW
  clear hT hW
  go_enter Tryd.func6, Tryd.ntmps6
  go_wp2_with fail
  rw [← hWe]
  clear hWe
  refine (works_any W (HT.out.below hb (by omega)) (HW.out.below hb h4) (Nat.le_trans h4 hb.size)).mono ?_
  rintro e w1 ⟨rfl, hb1⟩
  replace hx0 := keepB hx0 hb1
  have B1 : Below w.heap.size w w1 := hb.trans (hb1.mono hb.size)
  clear hb hb1
  have z0 : w1.cell? ⟨w.heap.size, 0, none⟩ = some (.slice oaf p.fs.length capf) := by simp [World.cell?, hx0]
  have z1 : w1.cell? ⟨w.heap.size, 1, none⟩ = some (.slice oac p.cs.length capc) := by simp [World.cell?, hx0]
  replace hx0 := Lib.hid hx0
  go_wp2_with fail
  refine (over_any w1 _ _ p (HP.out.below B1)).mono ?_
  rintro e w2 ⟨⟨b1, rfl, hs1⟩, hb2⟩
  have B2 : Below w.heap.size w w2 := B1.trans (hb2.mono B1.size)
  replace hx0 := Lib.hid (keepB hx0.out hb2)
  replace hs1 := Lib.hid hs1
  clear z0 z1 hb2 B1
  have z0 : w2.cell? ⟨w.heap.size, 0, none⟩ = some (.slice oaf p.fs.length capf) := by simp [World.cell?, hx0.out]
  have z1 : w2.cell? ⟨w.heap.size, 1, none⟩ = some (.slice oac p.cs.length capc) := by simp [World.cell?, hx0.out]
  cases b1 with
  | true =>
    go_wp2
    go_returns
    exact ⟨rfl, B2⟩
  | false =>
  have S1 := Lib.hid (hs1.out rfl)
  clear hs1
  have hc := valid_any w2 _ _ p (HP.out.below B2) (fun f hf x hx => Nat.le_trans (S1.out.l f hf x hx) (by decide)) (HT.out.below B2 (by omega))
  go_wp2_with fail
  refine hc.mono ?_
  clear hc
  rintro e w3 ⟨b2, rfl, hv, hb3⟩
  have B3 : Below w.heap.size w w3 := B2.trans (hb3.mono B2.size)
  replace hx0 := Lib.hid (keepB hx0.out hb3)
  replace hv := Lib.hid hv
  clear z0 z1 hb3 B2
  have z0 : w3.cell? ⟨w.heap.size, 0, none⟩ = some (.slice oaf p.fs.length capf) := by simp [World.cell?, hx0.out]
  have z1 : w3.cell? ⟨w.heap.size, 1, none⟩ = some (.slice oac p.cs.length capc) := by simp [World.cell?, hx0.out]
  cases b2 with
  | false =>
    go_wp2
    go_returns
    exact ⟨rfl, B3⟩
  | true =>
  have OK := Lib.hid (hv.out.1 rfl)
  clear hv
  by_cases g1 : N0 < 0
  · have t1 : decide (N0 < 0) = true := by simpa using g1
    go_wp2
    go_returns
    exact ⟨rfl, B3⟩
  have t1 : decide (N0 < 0) = false := by simpa using g1
  by_cases g2 : 5 < N0
  · have t2 : decide (N0 > 5) = true := by simpa using g2
    go_wp2
    go_returns
    exact ⟨rfl, B3⟩
  have t2 : decide (N0 > 5) = false := by simpa using g2
  obtain ⟨N, rfl⟩ : ∃ N : Nat, N0 = N := ⟨N0.toNat, by omega⟩
  have hN5 : N ≤ 5 := by omega
  clear g1 g2
  have hlF := S1.out.fs
  obtain ⟨B, hBe⟩ : ∃ B, B = w3.heap.size := ⟨_, rfl⟩
  have hwB : w.heap.size < B := by rw [hBe]; exact World.block_lt_of_cell? w3 _ z0
  have hq0 : MoreQ B (.slice oac p.cs.length capc) p N 0 w3 (w3.alloc (.cells #[.slice none 0 0, .slice oac p.cs.length capc] 35)) := by
    subst hBe
    exact ⟨⟨[], ⟨.slice none 0 0, [], heap_alloc_new _ _, World.ownsRow_nil _ _ _ _, rfl, fun i fv f h => by simp at h⟩, rfl, fun g hg => by simp at hg, fun i f g _ h => by simp at h⟩, alloc_below _ _⟩
  have HQ0 := Lib.hid hq0
  have BB := Lib.hid B3
  have HBE := Lib.hid hBe
  clear hq0
  go_wp2_with fail
  simp only [← hBe]
  clear hBe
  go_loopw [8] (fun u wr => ∃ j : Nat, j ≤ p.fs.length ∧ u = .int .i64 j ∧ MoreQ B (.slice oac p.cs.length capc) p N j w3 wr) (fun u _ => p.fs.length - (intOf u).toNat)
  case atStart => exact ⟨0, by omega, rfl, HQ0.out⟩
  case round =>
    clear HQ0 z0 z1 B3
    obtain ⟨j, hj, rfl, ⟨⟨gs, ⟨vq, fvs, qbox, qown, qlen, qF⟩, gl, gsm, gold⟩, hbw⟩⟩ := hrel
    have hbw' : Below w3.heap.size w3 wr := by rw [← HBE.out]; exact hbw
    have hBr : B ≤ wr.heap.size := by rw [HBE.out]; exact hbw.size
    have Bwr : Below w.heap.size w wr := BB.out.trans (hbw'.mono BB.out.size)
    have hxr := keepB hx0.out hbw'
    have z0 : wr.cell? ⟨w.heap.size, 0, none⟩ = some (.slice oaf p.fs.length capf) := by simp [World.cell?, hxr]
    have z1 : wr.cell? ⟨w.heap.size, 1, none⟩ = some (.slice oac p.cs.length capc) := by simp [World.cell?, hxr]
    have hwr : w.heap.size < wr.heap.size := by omega
    have QF := Lib.hid qF
    have GSM := Lib.hid gsm
    have GOLD := Lib.hid gold
    have GL := Lib.hid gl
    have QLEN := Lib.hid qlen
    have HBW := Lib.hid hbw
    have HXR := Lib.hid hxr
    clear qF gsm gold gl qlen hbw hbw' hxr
    by_cases hjl : j < p.fs.length
    · have t5 : decide ((j : Int) < p.fs.length) = true := by simp; omega
      have hji : (j : Int) < p.fs.length := by omega
      obtain ⟨f, hf⟩ : ∃ f, p.fs[j]? = some f := ⟨_, List.getElem?_eq_getElem hjl⟩
      obtain ⟨rfl, hbf⟩ := f3.out (by omega)
      obtain ⟨fvj, k0, oaj, capj, bj, offj, rfl, m1, m2, m3, m4⟩ := f4.out j f hf
      have hfl := S1.out.f f (List.mem_of_getElem? hf)
      have hfp := (OK.out.fn j f hf).pos
      have HFX := Lib.hid (S1.out.l f (List.mem_of_getElem? hf))
      have HFJ := Lib.hid hf
      obtain ⟨rfl, hbj⟩ := m3 hfp
      obtain ⟨fl, e1, e2, e3⟩ := FunV.pairs (B := B) m4 (by omega)
      have hfll : fl.length = f.length := by rw [← e1, List.length_map]
      have hnews := pairs_news (w := wr) (b := bj) (off := offj) (fl := fl) (fun i q hq k u hu => (Bwr.cell (p := ⟨bj, offj + i * 5 + k, none⟩) hbj).trans (e2 i q hq k u hu))
      have hone := cells_one e3
      have hcl : (cellsF fl).length = f.length * 5 := by rw [cellsF_len, hfll]
      replace k0 := (Bwr.cell (p := ⟨bf, off + j, none⟩) hbf).trans k0
      have hbfr : bf < wr.heap.size := Nat.lt_of_lt_of_le hbf Bwr.size
      have HN := Lib.hid hnews
      have HO := Lib.hid hone
      have HCL := Lib.hid hcl
      have E1 := Lib.hid e1
      have E3 := Lib.hid e3
      have HFLL := Lib.hid hfll
      obtain ⟨i25, hi25, hz25, hs25, hb25⟩ := info_parts info25
      obtain ⟨i39, hi39, hz39, hs39, hb39⟩ := info_parts info39
      have HI39 := Lib.hid (And.intro hi39 (And.intro hz39 (And.intro hs39 hb39)))
      have HI25 := Lib.hid (And.intro hi25 (And.intro hz25 (And.intro hs25 hb25)))
      have QBOX := Lib.hid qbox
      have QOWN := Lib.hid qown
      clear hf hnews hone hcl e1 e2 e3 hfll m3 m4 hi39 hz39 hs39 hb39 qbox qown
      go_wp2_with (at_builtin; refine wpList_append_own _ rfl (.tmp 47) (.tmp 52) 39 rfl wr.heap.size 25 i25 _ 5 56 Tryd.underlying39 hi25 hz25 hs25 hb25 rfl (by decide) (.slice none 0 0) 0 [] rfl (World.ownsRow_nil _ _ _ _) ⟨bj, offj, none⟩ f.length capj (cellsF fl) rfl HCL.out HN.out HO.out ?c3 ?c4 ?c5 ?_)
      case c3 => unfold maxLen; omega
      case c4 => omega
      try case c5 => omega
      intro v5 w5 hown5 hg5 _
      have hb5 : Below wr.heap.size wr w5 := ⟨hg5.os, hg5.tape, hg5.output, hg5.size, fun k hk => hg5.block k hk (by simp [Value.ownBlock])⟩
      clear hg5 hi25 hz25 hs25 hb25
      obtain ⟨og, g, capg, rfl, hog⟩ := row_shape hown5
      obtain rfl := hog hfp
      have hlenF : fl.length = f.length := HFLL.out
      clear k0 hog HN HO
      obtain ⟨n, hn⟩ : ∃ n, f.length = n + 1 := ⟨f.length - 1, by omega⟩
      obtain ⟨pr, hpr⟩ : ∃ q, fl[n]? = some q := ⟨_, List.getElem?_eq_getElem (by omega)⟩
      obtain ⟨x, lvx⟩ := pr
      have hxm := List.mem_of_getElem? hpr
      obtain ⟨hgl, hgb, hgc, hgf⟩ := own_cells hown5
      have r0 : w5.cell? ⟨g, n * 5, none⟩ = some (.int .i64 x.op) := hgc (n * 5) _ (cellsF_get fl n 0 _ hpr (by decide))
      have r1 : w5.cell? ⟨g, n * 5 + 1, none⟩ = some (.int .i64 x.a) := hgc (n * 5 + 1) _ (cellsF_get fl n 1 _ hpr (by decide))
      have r2 : w5.cell? ⟨g, n * 5 + 2, none⟩ = some (.int .i64 x.b) := hgc (n * 5 + 2) _ (cellsF_get fl n 2 _ hpr (by decide))
      have r3 : w5.cell? ⟨g, n * 5 + 3, none⟩ = some (.int .i64 x.c) := hgc (n * 5 + 3) _ (cellsF_get fl n 3 _ hpr (by decide))
      have r4 : w5.cell? ⟨g, n * 5 + 4, none⟩ = some lvx := hgc (n * 5 + 4) _ (cellsF_get fl n 4 _ hpr (by decide))
      have hnx := E3.out (x, lvx) hxm
      obtain ⟨oal, capl, rfl⟩ : ∃ oal capl, lvx = .slice oal x.l.length capl := by obtain ⟨oal, capl, _, _, h, _⟩ := hnx; exact ⟨oal, capl, h⟩
      have HNX := Lib.hid hnx
      have hxf : f[n]? = some x := by rw [← E1.out, List.getElem?_map, hpr]; rfl
      have hxl := HFX.out x (List.mem_of_getElem? hxf)
      have HLA := Lib.hid (show f[f.length - 1]? = some x by rw [hn, Nat.add_sub_cancel]; exact hxf)
      have HN1 := Lib.hid hn
      have hnlt : (n : Int) < f.length := by omega
      have hn1 : (f.length : Int) - 1 = n := by omega
      obtain ⟨bl, hbl⟩ : ∃ bl, bl = w5.heap.size := ⟨_, rfl⟩
      have hi0 : (w5.alloc (.cells #[.int .i64 x.op, .int .i64 x.a, .int .i64 x.b, .int .i64 x.c, .slice oal x.l.length capl] 25)).ownsRow wr.heap.size 25 5 (.slice (some ⟨g, 0, none⟩) f.length capg) (f.length + 0 * 2) (cellsF (fl ++ tailP x (.slice oal x.l.length capl) 0)) := by
        rw [show tailP x (.slice oal x.l.length capl) 0 = [] from rfl, List.append_nil]
        exact row_below (alloc_below _ _) hown5
      have hi1 : (Value.slice (some ⟨g, 0, none⟩) f.length capg).ownBlock ≠ some bl := by simp only [Value.ownBlock, ne_eq, Option.some.injEq]; omega
      have hi2 : (w5.alloc (.cells #[.int .i64 x.op, .int .i64 x.a, .int .i64 x.b, .int .i64 x.c, .slice oal x.l.length capl] 25)).heap[bl]? = some (.cells #[.int .i64 x.op, .int .i64 x.a, .int .i64 x.b, .int .i64 x.c, .slice oal x.l.length capl] 25) := by rw [hbl]; exact heap_alloc_new _ _
      have hi3 : Below wr.heap.size wr (w5.alloc (.cells #[.int .i64 x.op, .int .i64 x.a, .int .i64 x.b, .int .i64 x.c, .slice oal x.l.length capl] 25)) := hb5.trans ((alloc_below _ _).mono hb5.size)
      have HST := Lib.hid (And.intro hi0 (And.intro hi1 (And.intro hi2 hi3)))
      have HBL := Lib.hid hbl
      have hblr : wr.heap.size ≤ bl := by rw [hbl]; exact hb5.size
      clear hi0 hi1 hi2 hi3 hnx hxm hgc hgf hpr hxf hn
      go_wp2_with fail
      simp only [← hbl]
      clear hbl r0 r1 r2 r3 r4 z1
      obtain ⟨wo, hwo⟩ : ∃ wo, wo = wr := ⟨_, rfl⟩
      subst hwo
      go_loopw [9, 11] (fun u i wy => ∃ k : Nat, k ≤ N ∧ i = .int .i64 k ∧ wy.ownsRow wo.heap.size 25 5 u (f.length + k * 2) (cellsF (fl ++ tailP x (.slice oal x.l.length capl) k)) ∧ u.ownBlock ≠ some bl ∧ wy.heap[bl]? = some (.cells #[.int .i64 x.op, .int .i64 x.a, .int .i64 x.b, .int .i64 x.c, .slice oal x.l.length capl] 25) ∧ Below wo.heap.size wo wy) (fun _ i _ => N - (intOf i).toNat)
      case atStart => exact ⟨0, by omega, rfl, HST.out.1, HST.out.2.1, HST.out.2.2.1, HST.out.2.2.2⟩
      case round =>
        clear HST
        obtain ⟨k, hk, rfl, hown, hob, hbx, hbk⟩ := hrel
        have x0 : wr.cell? ⟨bl, 0, none⟩ = some (.int .i64 x.op) := by simp [World.cell?, hbx]
        have x1 : wr.cell? ⟨bl, 1, none⟩ = some (.int .i64 x.a) := by simp [World.cell?, hbx]
        have x2 : wr.cell? ⟨bl, 2, none⟩ = some (.int .i64 x.b) := by simp [World.cell?, hbx]
        have x3 : wr.cell? ⟨bl, 3, none⟩ = some (.int .i64 x.c) := by simp [World.cell?, hbx]
        have x4 : wr.cell? ⟨bl, 4, none⟩ = some (.slice oal x.l.length capl) := by simp [World.cell?, hbx]
        obtain ⟨ou, gu, capu, rfl, hou⟩ := row_shape hown
        obtain rfl := hou (by omega)
        have HBX := Lib.hid hbx
        have HOB := Lib.hid hob
        have hwo2 : wo.heap.size ≤ wr.heap.size := hbk.size
        clear hbx hob hou
        by_cases hkl : k < N
        · have t6 : decide ((k : Int) < N) = true := by simp; omega
          have hown2 := row_below (alloc_below wr (.cells #[.int .i64 0, .int .i64 k, .int .i64 k, .int .i64 0, .slice none 0 0, .int .i64 x.op, .int .i64 x.a, .int .i64 x.b, .int .i64 x.c, .slice oal x.l.length capl] 25)) hown
          have hsz2 : wo.heap.size ≤ (wr.alloc (.cells #[.int .i64 0, .int .i64 k, .int .i64 k, .int .i64 0, .slice none 0 0, .int .i64 x.op, .int .i64 x.a, .int .i64 x.b, .int .i64 x.c, .slice oal x.l.length capl] 25)).heap.size := Nat.le_trans hwo2 (alloc_below wr _).size
          obtain ⟨hi25, hz25, hs25, hb25⟩ := HI25.out
          go_wp2_with (at_builtin; refine wpList_append_own _ rfl (.tmp 65) (.tmp 70) 39 rfl wo.heap.size 25 i25 _ 5 56 Tryd.underlying39 hi25 hz25 hs25 hb25 rfl (by decide) (.slice (some ⟨gu, 0, none⟩) (f.length + k * 2) capu) (f.length + k * 2) _ rfl hown2 ⟨wr.heap.size, 0, none⟩ 2 2 [.int .i64 0, .int .i64 k, .int .i64 k, .int .i64 0, .slice none 0 0, .int .i64 x.op, .int .i64 x.a, .int .i64 x.b, .int .i64 x.c, .slice oal x.l.length capl] rfl rfl ?d1 ?d2 ?d3 ?d4 ?d5 ?_)
          try case d1 => exact new_cells wr [.int .i64 0, .int .i64 k, .int .i64 k, .int .i64 0, .slice none 0 0, .int .i64 x.op, .int .i64 x.a, .int .i64 x.b, .int .i64 x.c, .slice oal x.l.length capl] 25 _ rfl
          case d2 => first | rfl | (intro u hu; simp at hu; rcases hu with rfl | rfl | rfl | rfl | rfl | rfl | rfl | rfl | rfl | rfl <;> rfl) | simp [Value.oneCell']
          case d3 => unfold maxLen; omega
          case d4 => omega
          case d5 => first | exact hsz2 | omega
          intro v' w' hown' hgrow _
          have hown3 : w'.ownsRow wo.heap.size 25 5 v' (f.length + (k + 1) * 2) (cellsF (fl ++ tailP x (.slice oal x.l.length capl) (k + 1))) := by
            rw [tailP_succ, ← List.append_assoc, cellsF_append, show f.length + (k + 1) * 2 = f.length + k * 2 + 2 from by omega]
            exact hown'
          have hbx1 := (heap_alloc_old wr (.cells #[.int .i64 0, .int .i64 k, .int .i64 k, .int .i64 0, .slice none 0 0, .int .i64 x.op, .int .i64 x.a, .int .i64 x.b, .int .i64 x.c, .slice oal x.l.length capl] 25) (Array.getElem?_eq_some_iff.1 HBX.out).1).trans HBX.out
          have hbx' := (hgrow.block bl (Array.getElem?_eq_some_iff.1 hbx1).1 (Ne.symm HOB.out)).trans hbx1
          have hob' := own_ne hown3 hbx' rfl (by omega)
          have hbk' : Below wo.heap.size wo w' := (hbk.alloc hwo2 _).grown hgrow hsz2 fun j hj => (hown2.lt j hj).1
          obtain ⟨og', g', cap', rfl, hog'⟩ := row_shape hown3
          obtain rfl := hog' (by omega)
          have H3 := Lib.hid (And.intro hown3 (And.intro hob' (And.intro hbx' hbk')))
          clear hown' hgrow hown hown2 hown3 hbx1 hbx' hob' hbk hbk' hog' x0 x1 x2 x3 x4 hi25 hz25 hs25 hb25
          go_wp2
          go_roundw
          case rel => exact ⟨k + 1, by omega, by go_num, H3.out.1, H3.out.2.1, H3.out.2.2.1, H3.out.2.2.2⟩
          case measure => simp [intOf]; omega
        · have t6 : decide ((k : Int) < N) = false := by simp; omega
          have hkN : k = N := by omega
          rw [hkN] at hown
          have BB8 : Below B w3 wr := HBW.out.trans (hbk.mono hBr)
          have hB8 : B ≤ wr.heap.size := Nat.le_trans hBr hbk.size
          have hK8 : KQ B w wr := KQ.of_below (Bwr.trans (hbk.mono Bwr.size))
          have hlen8 : (fl ++ tailP x (.slice oal x.l.length capl) N).length = f.length + N * 2 := by rw [← List.length_map (f := Prod.fst), List.map_append, tailP_fst, List.length_append, tailI_len, E1.out]
          have hFO := FunO.own (B := B) (w := wr) (base := wo.heap.size) (v := .slice (some ⟨gu, 0, none⟩) (f.length + N * 2) capu) (fl := fl ++ tailP x (.slice oal x.l.length capl) N) (by rw [hlen8]; exact hown) (hN_tail (fun p hp => (E3.out p hp).kq hK8) (HNX.out.kq hK8))
          rw [List.map_append, tailP_fst, E1.out] at hFO
          have HFO := Lib.hid hFO
          have qbox8 := keepB QBOX.out hbk
          have qown8 := row_below (alloc_below wr (.cells #[.slice (some ⟨gu, 0, none⟩) (f.length + N * 2) capu] 39)) (row_below hbk QOWN.out)
          have QF8 := Lib.hid (show ∀ (i : Nat) (fv : Value) (f : List In), fvs[i]? = some fv → gs[i]? = some f → FunO B wr fv f from fun i fv f h1 h2 => (QF.out i fv f h1 h2).kq (KQ.of_below hbk))
          have z8 : wr.cell? ⟨B, 0, none⟩ = some vq := by simp [World.cell?, qbox8]
          obtain ⟨hi39, hz39, hs39, hb39⟩ := HI39.out
          have hfn : fvs.length + 1 ≤ 100000000 := by have h1 := QLEN.out; have h2 := GL.out; omega
          have hB8' : B ≤ (wr.alloc (.cells #[.slice (some ⟨gu, 0, none⟩) (f.length + N * 2) capu] 39)).heap.size := Nat.le_trans hB8 (alloc_below wr _).size
          subst hkN
          clear hown hFO hK8 hlen8 hbk x0 x1 x2 x3 x4 z0
          go_wp2_with (at_builtin; refine wpList_append_own _ rfl (.tmp 73) (.tmp 75) 32 rfl B 39 i39 _ 1 24 Tryd.underlying32 hi39 hz39 hs39 hb39 rfl (by decide) vq fvs.length _ rfl qown8 ⟨wr.heap.size, 0, none⟩ 1 1 [.slice (some ⟨gu, 0, none⟩) (f.length + k * 2) capu] rfl rfl ?e1 ?e2 ?e3 ?e4 ?e5 ?_)
          try case e1 => exact new_cells wr [.slice (some ⟨gu, 0, none⟩) (f.length + k * 2) capu] 39 _ rfl
          case e2 => first | rfl | (intro u hu; simp at hu; rcases hu with rfl; rfl)
          case e3 => unfold maxLen; omega
          case e4 => omega
          case e5 => first | exact hB8' | omega
          intro v6 w6 hown6 hg6 _
          obtain ⟨og6, g6, cap6, rfl, hog6⟩ := row_shape hown6
          obtain rfl := hog6 (by omega)
          have hnext := MoreQ.next (N := k) BB8 hB8 qbox8 QLEN.out QF8.out HFO.out qown8 hown6 hg6 GL.out GSM.out (hl_tail HFX.out hxl) GOLD.out HFJ.out HLA.out rfl rfl
          have hq6 := grown_other qown8 hg6 ((heap_alloc_old _ _ (Array.getElem?_eq_some_iff.1 qbox8).1).trans qbox8) (by decide)
          have z6 : w6.cell? ⟨B, 0, none⟩ = some vq := by simp [World.cell?, hq6]
          have y6 : w6.frozen? ⟨B, 0, none⟩ = false := by simp [World.frozen?, hq6]
          replace hnext := Lib.hid hnext
          clear hown6 hg6 qown8 z8 hq6 qbox8 QF8 hi39 hz39 hs39 hb39
          go_wp2
          go_roundw
          case rel => exact ⟨j + 1, by omega, by go_num, hnext.out⟩
          case measure => simp [intOf]; omega
    · have t5 : decide ((j : Int) < p.fs.length) = false := by simp; omega
      obtain rfl : j = p.fs.length := by omega
      have hgl := GL.out
      have hw1 : Below wr.heap.size wr (wr.alloc (.cells #[.int .i64 29, .int .i64 0, .int .i64 0, .int .i64 0, .slice none 0 0] 25)) := alloc_below _ _
      have hB1 : B ≤ (wr.alloc (.cells #[.int .i64 29, .int .i64 0, .int .i64 0, .int .i64 0, .slice none 0 0] 25)).heap.size := Nat.le_trans hBr hw1.size
      have qbox8 := keepB qbox hw1
      have qown8 := row_below (alloc_below (wr.alloc (.cells #[.int .i64 29, .int .i64 0, .int .i64 0, .int .i64 0, .slice none 0 0] 25)) (.cells #[.slice (some ⟨wr.heap.size, 0, none⟩) 1 1] 39)) (row_below hw1 qown)
      have hFO : FunO B (wr.alloc (.cells #[.int .i64 29, .int .i64 0, .int .i64 0, .int .i64 0, .slice none 0 0] 25)) (.slice (some ⟨wr.heap.size, 0, none⟩) 1 1) endF := by
        have hnw := heap_alloc_new wr (.cells #[.int .i64 29, .int .i64 0, .int .i64 0, .int .i64 0, .slice none 0 0] 25)
        refine ⟨_, 1, wr.heap.size, 0, rfl, Nat.le_refl _, by decide, fun _ => ⟨rfl, (Array.getElem?_eq_some_iff.1 hnw).1, .inr ⟨_, _, hnw⟩⟩, fun i x hx => ?_⟩
        cases i with
        | succ i => simp [endF] at hx
        | zero =>
          simp [endF] at hx
          subst hx
          refine ⟨.slice none 0 0, fun k u hu => ?_, nums_nil⟩
          simp only [World.cell?, hnw, Nat.zero_mul, Nat.zero_add]
          simpa [cellsI] using hu
      have HFO := Lib.hid hFO
      have QF8 := Lib.hid (show ∀ (i : Nat) (fv : Value) (f : List In), fvs[i]? = some fv → gs[i]? = some f → FunO B (wr.alloc (.cells #[.int .i64 29, .int .i64 0, .int .i64 0, .int .i64 0, .slice none 0 0] 25)) fv f from fun i fv f h1 h2 => (QF.out i fv f h1 h2).kq (KQ.of_below hw1))
      have z8 : wr.cell? ⟨B, 0, none⟩ = some vq := by simp [World.cell?, qbox]
      have hBlt : B < wr.heap.size := (Array.getElem?_eq_some_iff.1 qbox).1
      obtain ⟨i39, hi39, hz39, hs39, hb39⟩ := info_parts info39
      have hfn : fvs.length + 1 ≤ 100000000 := by have h1 := QLEN.out; omega
      have hB8' : B ≤ ((wr.alloc (.cells #[.int .i64 29, .int .i64 0, .int .i64 0, .int .i64 0, .slice none 0 0] 25)).alloc (.cells #[.slice (some ⟨wr.heap.size, 0, none⟩) 1 1] 39)).heap.size := Nat.le_trans hB1 (alloc_below _ _).size
      have hsz1 : (wr.alloc (.cells #[.int .i64 29, .int .i64 0, .int .i64 0, .int .i64 0, .slice none 0 0] 25)).heap.size = wr.heap.size + 1 := by simp
      have HB1 := Lib.hid hB1
      have HW1 := Lib.hid hw1
      have QB8 := Lib.hid qbox8
      have HSZ1 := Lib.hid hsz1
      clear hFO qbox qown hB1 hw1 qbox8 hsz1
      go_wp2_with (at_builtin; refine wpList_append_own _ rfl (.tmp 79) (.tmp 82) 32 rfl B 39 i39 _ 1 24 Tryd.underlying32 hi39 hz39 hs39 hb39 rfl (by decide) vq fvs.length _ rfl qown8 ⟨wr.heap.size + 1, 0, none⟩ 1 1 [.slice (some ⟨wr.heap.size, 0, none⟩) 1 1] rfl rfl ?f1 ?f2 ?f3 ?f4 ?f5 ?_)
      try case f1 => exact new_cells (wr.alloc (.cells #[.int .i64 29, .int .i64 0, .int .i64 0, .int .i64 0, .slice none 0 0] 25)) [.slice (some ⟨wr.heap.size, 0, none⟩) 1 1] 39 _ HSZ1.out.symm
      case f2 => first | rfl | (intro u hu; simp at hu; rcases hu with rfl; rfl)
      case f3 => unfold maxLen; omega
      case f4 => omega
      case f5 => first | exact hB8' | omega
      intro v6 w6 hown6 hg6 _
      obtain ⟨og6, g6, cap6, rfl, hog6⟩ := row_shape hown6
      obtain rfl := hog6 (by omega)
      obtain ⟨hQ, hK⟩ := QAt.push QB8.out QLEN.out QF8.out HFO.out (Nat.le_refl _) qown8 hown6 hg6
      have hq6 := grown_other qown8 hg6 ((heap_alloc_old _ _ (Array.getElem?_eq_some_iff.1 QB8.out).1).trans QB8.out) (by decide)
      have y6 : w6.frozen? ⟨B, 0, none⟩ = false := by simp [World.frozen?, hq6]
      have z6 : w6.cell? ⟨B, 0, none⟩ = some vq := by simp [World.cell?, hq6]
      obtain ⟨wf, hwf⟩ : ∃ wf, wf = w6.setCell ⟨B, 0, none⟩ (.slice (some ⟨g6, 0, none⟩) (fvs.length + 1) cap6) := ⟨_, rfl⟩
      rw [← hwf] at hQ hK
      have hKB := hK.below HB1.out
      have BBf : Below B w3 wf := HBW.out.trans ((HW1.out.mono hBr).trans hKB)
      have Bf : Below w.heap.size w wf := Bwr.trans ((HW1.out.mono Bwr.size).trans (hKB.mono (by omega)))
      have hxf := (BBf.block _ hwB).trans hx0.out
      replace hQ := Lib.hid hQ
      replace hxf := Lib.hid hxf
      replace Bf := Lib.hid Bf
      have BBF := Lib.hid BBf
      clear hown6 hg6 qown8 hK hKB BBf hq6 hi39 hz39 hs39 hb39 hB8' z8 QF8 HFO
      go_upto_region 20 with fail
      rw [← hwf]
      clear hwf z0 z1 y6 z6
      obtain ⟨vq', hq', hPq⟩ := hQ.out.pg (HCos.out.below Bf.out)
      have zq : wf.cell? ⟨B, 0, none⟩ = some vq' := by simp [World.cell?, hq']
      have zq1 : wf.cell? ⟨B, 1, none⟩ = some (.slice oac p.cs.length capc) := by simp [World.cell?, hq']
      have hLq : LabOk ⟨gs ++ [endF], p.cs⟩ := fun g hg x hx => by
        rcases List.mem_append.1 hg with h | h
        · exact Nat.le_trans (GSM.out g h x hx) (by decide)
        · simp [endF] at h; subst h; simp at hx; subst hx; exact Nat.zero_le _
      have HOKQ := Lib.hid (pg_more (gs := gs) OK.out hN5 (by omega) (fun f hf => Nat.le_trans (S1.out.f f hf) (by decide)) hgl GOLD.out)
      have hcv := valid_any wf _ _ ⟨gs ++ [endF], p.cs⟩ hPq hLq (HT.out.below Bf.out (by omega))
      clear hLq hq' hPq
      go_wp2_with fail
      refine hcv.mono ?_
      clear hcv
      rintro e w7 ⟨b7, rfl, hv7, hb7⟩
      obtain rfl : b7 = true := hv7.2 HOKQ.out
      clear zq zq1 hv7
      have B7 : Below w.heap.size w w7 := Bf.out.trans (hb7.mono Bf.out.size)
      have hx7 := keepB hxf.out hb7
      have z0 : w7.cell? ⟨w.heap.size, 0, none⟩ = some (.slice oaf p.fs.length capf) := by simp [World.cell?, hx7]
      have z1 : w7.cell? ⟨w.heap.size, 1, none⟩ = some (.slice oac p.cs.length capc) := by simp [World.cell?, hx7]
      replace hx7 := Lib.hid hx7
      have hcs60 := S1.out.cs
      have hck := Lib.hid (kinds_any w7 _ _ p (HP.out.below B7) (by omega) (by omega))
      clear hb7
      go_wp2_with fail
      refine hck.out.mono ?_
      clear hck
      rintro e w8 ⟨vk, rfl, hI, hb8⟩
      obtain ⟨oak, capk, bk, offk, rfl, k1, k2, k3, k4⟩ := hI
      rw [kindsL_len] at k1 k3 ⊢
      have B8 : Below w.heap.size w w8 := B7.trans (hb8.mono B7.size)
      have hx8 := keepB hx7.out hb8
      replace k3 := Lib.hid k3
      replace k4 := Lib.hid k4
      clear z0 z1 hb8 B7
      have z0 : w8.cell? ⟨w.heap.size, 0, none⟩ = some (.slice oaf p.fs.length capf) := by simp [World.cell?, hx8]
      replace hx8 := Lib.hid hx8
      have H8 := Lib.hid B8
      clear B8
      go_wp2_with fail
      go_loopw [13] (fun u wy => ∃ i : Nat, i ≤ p.fs.length ∧ u = .int .i64 i ∧ Below w8.heap.size w8 wy) (fun u _ => p.fs.length - (intOf u).toNat)
      case atStart => exact ⟨0, by omega, rfl, Below.refl _ _⟩
      case round =>
        clear z0
        obtain ⟨i, hi, rfl, hby⟩ := hrel
        have By : Below w.heap.size w wr := H8.out.trans (hby.mono H8.out.size)
        have hxy := keepB hx8.out hby
        have z0 : wr.cell? ⟨w.heap.size, 0, none⟩ = some (.slice oaf p.fs.length capf) := by simp [World.cell?, hxy]
        replace hxy := Lib.hid hxy
        by_cases hil : i < p.fs.length
        · have t7 : decide ((i : Int) < p.fs.length) = true := by simp; omega
          have hii : (i : Int) < p.fs.length := by omega
          obtain ⟨f, hf⟩ : ∃ f, p.fs[i]? = some f := ⟨_, List.getElem?_eq_getElem hil⟩
          obtain ⟨rfl, hbf⟩ := f3.out (by omega)
          obtain ⟨fvj, k0, oaj, capj, bj, offj, rfl, m1, m2, m3, m4⟩ := f4.out i f hf
          have hfl := S1.out.f f (List.mem_of_getElem? hf)
          have HFX := Lib.hid (S1.out.l f (List.mem_of_getElem? hf))
          have hok := OK.out.fn i f hf
          have hfp := hok.pos
          obtain ⟨rfl, hbj⟩ := m3 hfp
          obtain ⟨kz, hkz⟩ : ∃ z, (kindsL p)[i]? = some z := ⟨_, List.getElem?_eq_getElem (by rw [kindsL_len]; exact hil)⟩
          have hgd : (kindsL p).getD i 0 = kz := by simp [List.getD_eq_getElem?_getD, hkz]
          rw [hgd] at hok
          obtain ⟨rfl, hbk⟩ := k3.out (by omega)
          have kc := (hby.cell (p := ⟨bk, offk + i, none⟩) hbk).trans (k4.out i kz hkz)
          replace k0 := (By.cell (p := ⟨bf, off + i, none⟩) hbf).trans k0
          obtain ⟨c0, hc0⟩ : ∃ c0, (kz != 0) = c0 := ⟨_, rfl⟩
          have HOK := Lib.hid hok
          have HFV := Lib.hid (show FunV w (.slice (some ⟨bj, offj, none⟩) f.length capj) f from ⟨_, capj, bj, offj, rfl, m1, m2, fun _ => ⟨rfl, hbj⟩, m4⟩)
          have M4 := Lib.hid m4
          have HC0 := Lib.hid hc0
          have hbfy : bf < wr.heap.size := Nat.lt_of_lt_of_le hbf By.size
          clear hok hf hkz hgd m4 m3
          obtain ⟨wo, hwo⟩ : ∃ wo, wo = wr := ⟨_, rfl⟩
          subst hwo
          have HBY := Lib.hid hby
          have HYB := Lib.hid By
          clear hby By
          go_wp2_with fail
          go_loopw [14, 15] (fun u s wz => ∃ (k : Nat) (c : Bool), k ≤ f.length ∧ s = .int .i64 k ∧ u = .bool c ∧ (c = false → c0 = false ∧ ∀ x ∈ f.take k, x.op ≠ 26 ∧ x.op ≠ 22) ∧ Below wo.heap.size wo wz) (fun _ s _ => f.length - (intOf s).toNat)
          case atStart => exact ⟨0, c0, by omega, rfl, by first | rfl | rw [HC0.out], fun h => ⟨h, fun x hx => by simp at hx⟩, Below.refl _ _⟩
          case round =>
            clear kc hc0
            obtain ⟨k, c, hk, rfl, rfl, hcc, hbz⟩ := hrel
            have Bz : Below w.heap.size w wr := HYB.out.trans (hbz.mono HYB.out.size)
            have hxz := keepB hxy.out hbz
            replace z0 : wr.cell? ⟨w.heap.size, 0, none⟩ = some (.slice (some ⟨bf, off, none⟩) p.fs.length capf) := by simp [World.cell?, hxz]
            replace k0 := (hbz.cell (p := ⟨bf, off + i, none⟩) hbfy).trans k0
            have HCC := Lib.hid hcc
            clear hcc hxz
            by_cases hkl : k < f.length
            · have t8 : decide ((k : Int) < f.length) = true := by simp; omega
              have hki : (k : Int) < f.length := by omega
              obtain ⟨x, hx⟩ : ∃ x, f[k]? = some x := ⟨_, List.getElem?_eq_getElem hkl⟩
              obtain ⟨lvx, g0, g1, g2, g3, g4, oal, capl, _, _, rfl, _⟩ := M4.out k x hx
              replace g0 := (Bz.cell (p := ⟨bj, offj + k * 5, none⟩) hbj).trans g0
              replace g1 := (Bz.cell (p := ⟨bj, offj + k * 5 + 1, none⟩) hbj).trans g1
              replace g2 := (Bz.cell (p := ⟨bj, offj + k * 5 + 2, none⟩) hbj).trans g2
              replace g3 := (Bz.cell (p := ⟨bj, offj + k * 5 + 3, none⟩) hbj).trans g3
              replace g4 := (Bz.cell (p := ⟨bj, offj + k * 5 + 4, none⟩) hbj).trans g4
              have HTK := Lib.hid (take_snoc f k x hx)
              have hal : Below wo.heap.size wo (wr.alloc (.cells #[.int .i64 x.op, .int .i64 x.a, .int .i64 x.b, .int .i64 x.c, .slice oal x.l.length capl] 25)) := hbz.alloc hbz.size _
              replace hal := Lib.hid hal
              clear hx hbz Bz
              cases c with
              | true =>
                clear HCC
                go_wp2
                go_roundw
                case rel => exact ⟨k + 1, true, by omega, by go_num, rfl, fun h => (by cases h), hal.out⟩
                case measure => simp [intOf]; omega
              | false =>
                by_cases h26 : x.op = 26
                · have s1 : (x.op == 26) = true := by simpa using h26
                  clear h26
                  go_wp2
                  go_roundw
                  case rel => exact ⟨k + 1, true, by omega, by go_num, rfl, fun h => (by cases h), hal.out⟩
                  case measure => simp [intOf]; omega
                have s1 : (x.op == 26) = false := by simpa using h26
                by_cases h22 : x.op = 22
                · have s2 : (x.op == 22) = true := by simpa using h22
                  clear h22
                  go_wp2
                  go_roundw
                  case rel => exact ⟨k + 1, true, by omega, by go_num, rfl, fun h => (by cases h), hal.out⟩
                  case measure => simp [intOf]; omega
                have s2 : (x.op == 22) = false := by simpa using h22
                have HNO := Lib.hid (And.intro h26 h22)
                clear h26 h22
                go_wp2
                go_roundw
                case rel =>
                  refine ⟨k + 1, false, by omega, by go_num, rfl, fun _ => ⟨(HCC.out rfl).1, fun y hy => ?_⟩, hal.out⟩
                  rw [HTK.out] at hy
                  rcases List.mem_append.1 hy with h | h
                  · exact (HCC.out rfl).2 y h
                  · simp at h; subst h; exact HNO.out
                case measure => simp [intOf]; omega
            · have t8 : decide ((k : Int) < f.length) = false := by simp; omega
              obtain rfl : k = f.length := by omega
              cases c with
              | true =>
                have hbo : Below w8.heap.size w8 wr := HBY.out.trans (hbz.mono HBY.out.size)
                clear HCC
                go_wp2
                go_roundw
                case rel => exact ⟨i + 1, by omega, by go_num, hbo⟩
                case measure => simp [intOf]; omega
              | false =>
                have hz0 : kz = 0 := by have h1 := (HCC.out rfl).1; rw [← HC0.out] at h1; simpa using h1
                have hno := (HCC.out rfl).2
                rw [List.take_length] at hno
                have hok := HOK.out
                rw [hz0] at hok
                have HAL := Lib.hid (pg_alone hok hno)
                have hbo : Below w8.heap.size w8 wr := HBY.out.trans (hbz.mono HBY.out.size)
                have hal := alloc_below wr (.cells #[.slice (some ⟨bj, offj, none⟩) f.length capj] 39)
                have hnw := heap_alloc_new wr (.cells #[.slice (some ⟨bj, offj, none⟩) f.length capj] 39)
                have hP1 : PgV (wr.alloc (.cells #[.slice (some ⟨bj, offj, none⟩) f.length capj] 39)) (.slice (some ⟨wr.heap.size, 0, none⟩) 1 1) (.slice none 0 0) ⟨[f], []⟩ := by
                  refine ⟨⟨_, 1, wr.heap.size, 0, rfl, Nat.le_refl _, by decide, fun _ => ⟨rfl, (Array.getElem?_eq_some_iff.1 hnw).1⟩, fun m h hm => ?_⟩, none, 0, 0, 0, rfl, Nat.le_refl _, Nat.zero_le _, fun h => absurd h (Nat.lt_irrefl _), fun m c hc => by simp at hc⟩
                  cases m with
                  | succ m => simp at hm
                  | zero =>
                    simp at hm
                    subst hm
                    exact ⟨_, alloc_cell wr #[.slice (some ⟨bj, offj, none⟩) f.length capj] 39 0 _ rfl, (HFV.out.below Bz).below hal⟩
                have hcv := valid_any _ _ _ ⟨[f], []⟩ hP1 (fun g hg x hx => by simp at hg; subst hg; exact Nat.le_trans (HFX.out x hx) (by decide)) ((HT.out.below Bz (by omega)).below hal (by have := Bz.size; omega))
                clear hz0 hno hok hnw hP1 HCC
                go_wp2_with fail
                refine hcv.mono ?_
                clear hcv
                rintro e w9 ⟨b9, rfl, hv9, hb9⟩
                obtain rfl : b9 = true := hv9.2 HAL.out
                have hbo9 : Below w8.heap.size w8 w9 := hbo.trans ((hal.trans (hb9.mono hal.size)).mono hbo.size)
                clear hv9 hb9 hal hbo z0 k0 hbz Bz
                go_wp2
                go_roundw
                case rel => exact ⟨i + 1, by omega, by go_num, hbo9⟩
                case measure => simp [intOf]; omega
        · have t7 : decide ((i : Int) < p.fs.length) = false := by simp; omega
          go_wp2
          go_returns
          exact ⟨rfl, By⟩
end Go.Proofs.YtobhfmliaecbjaaDoor
