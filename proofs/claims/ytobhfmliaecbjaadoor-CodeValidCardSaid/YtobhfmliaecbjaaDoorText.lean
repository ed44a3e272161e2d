/-
  Text of package code. Conditions: the program lies in the heap, and is small; the table of powers of ten lies in its place.
-/
import Derived.Test.YtobhfmliaecbjaaDoorLine
import Derived.Test.YtobhfmliaecbjaaDoorMark
import Derived.Deep.RegionHeld3
import Derived.Deep.AppendLies
import Derived.Deep.AppendSrc
namespace Go.Proofs.YtobhfmliaecbjaaDoor
open Go.RowKit

def coLine (c : Cr) : List UInt8 := lineB [99, 111] [c.re, c.ca, c.wo, c.ar]
def insLine (x : In) : List UInt8 := lineB (Lib.itoa x.op) ([x.a, x.b, x.c] ++ x.l)
def funLines (f : List In) : List UInt8 := lineB [102, 117, 110] [] ++ f.flatMap insLine
def textB (p : Pg) : List UInt8 := p.cs.flatMap coLine ++ p.fs.flatMap funLines

structure SmallP (p : Pg) : Prop where
  fs : p.fs.length ≤ 60
  cs : p.cs.length ≤ 60
  f : ∀ f ∈ p.fs, f.length ≤ 60
  l : ∀ f ∈ p.fs, ∀ x ∈ f, x.l.length ≤ 60
structure NumP (p : Pg) : Prop where
  co : ∀ c ∈ p.cs, I64 [c.re, c.ca, c.wo, c.ar]
  ins : ∀ f ∈ p.fs, ∀ x ∈ f, I64 (x.op :: ([x.a, x.b, x.c] ++ x.l))

theorem builder_grown {B b base : Nat} {bs : List Value} {w w' : World} {v : Value} {n : Nat} {xs : List Value} (h : Lib.IsBuilderF 64 5 B b bs w) (ho : w.ownsRow base 3 1 v n xs) (hg : w.grownBy w' v.ownBlock) : Lib.IsBuilderF 64 5 B b bs w' := by
  have at_ : ∀ p, Lib.BuilderAtF 64 5 B b p bs w → Lib.BuilderAtF 64 5 B b p bs w' := fun p ⟨h1, v, h2, h3, h4⟩ => by
    refine ⟨h1, v, grown_other ho hg h2 (by decide), ⟨h3.1, ?_⟩, h4⟩
    rcases h3.2 with hn | ⟨g, cap, cur, fz, hv, hB, hg', rest⟩
    · exact .inl hn
    · exact .inr ⟨g, cap, cur, fz, hv, hB, grown_other ho hg hg' (by decide), rest⟩
  exact h.elim (fun x => .inl (at_ _ x)) (fun x => .inr (at_ _ x))

theorem NumsV.own {B : Nat} {w : World} {v : Value} {l : List Int} (h : w.ownsRow B 3 1 v l.length (l.map (Value.int .i64))) : NumsV B w v l := by
  rcases h.2 with ⟨rfl, h0⟩ | ⟨g, cap, cur, rfl, hb, hg, hn, hm, hs, ht⟩
  · have : l = [] := by cases l; rfl; simp at h0
    subst this
    exact ⟨none, 0, 0, 0, rfl, Nat.le_refl _, Nat.zero_le _, fun h => absurd h (Nat.lt_irrefl _), fun i z hz => by simp at hz⟩
  · refine ⟨_, cap, g, 0, rfl, hn, hm, fun _ => ⟨rfl, (Array.getElem?_eq_some_iff.1 hg).1, .inr ⟨_, _, hg⟩⟩, fun i z hz => ?_⟩
    have hi : i < l.length := (List.getElem?_eq_some_iff.1 hz).1
    have e : cur.toList[i]? = some (.int .i64 z) := by
      have : (cur.toList.take (l.length * 1))[i]? = some (.int .i64 z) := by rw [ht]; simp [hz]
      rwa [List.getElem?_take_of_lt (by omega)] at this
    simp only [World.cell?, hg, Nat.zero_add]
    simpa using e
theorem own_lit (w : World) (B : Nat) (hB : B ≤ w.heap.size) (l : List Int) (hl : l.length ≤ maxLen) : (w.alloc (.cells (iv l) 3)).ownsRow B 3 1 (.slice (some ⟨w.heap.size, 0, none⟩) l.length l.length) l.length (l.map (Value.int .i64)) := by
  refine ⟨by simp, .inr ⟨w.heap.size, l.length, iv l, rfl, hB, heap_alloc_new _ _, Nat.le_refl _, hl, by simp [iv], by simp only [iv, List.toList_toArray, Nat.mul_one]; exact List.take_of_length_le (by simp)⟩⟩

theorem coLine_len {c : Cr} (h : I64 [c.re, c.ca, c.wo, c.ar]) : (coLine c).length ≤ 91 := by
  have := lineB_len [99, 111] _ h
  simpa [coLine] using this
theorem insLine_len {x : In} (h : I64 (x.op :: ([x.a, x.b, x.c] ++ x.l))) (hl : x.l.length ≤ 60) : (insLine x).length ≤ 1408 := by
  have h1 := lineB_len (Lib.itoa x.op) ([x.a, x.b, x.c] ++ x.l) (fun n hn => h n (List.mem_cons_of_mem _ hn))
  have h2 := Lib.itoa_length_le x.op (h x.op (by simp)).1 (h x.op (by simp)).2
  simp only [insLine]
  simp only [List.length_append, List.length_cons, List.length_nil] at h1
  omega
theorem flat_bound {α : Type} (g : α → List UInt8) (k : Nat) : ∀ l : List α, (∀ x ∈ l, (g x).length ≤ k) → (l.flatMap g).length ≤ k * l.length
  | [], _ => by simp
  | x :: l, h => by
    have h1 := h x (by simp)
    have h2 := flat_bound g k l (fun y hy => h y (by simp [hy]))
    simp only [List.flatMap_cons, List.length_append, List.length_cons, Nat.mul_add, Nat.mul_one]
    omega
theorem funLines_len {f : List In} (h : ∀ x ∈ f, I64 (x.op :: ([x.a, x.b, x.c] ++ x.l))) (hl : ∀ x ∈ f, x.l.length ≤ 60) (hf : f.length ≤ 60) : (funLines f).length ≤ 84484 := by
  have := flat_bound insLine 1408 f (fun x hx => insLine_len (h x hx) (hl x hx))
  have h2 : (lineB [102, 117, 110] []).length = 4 := rfl
  simp only [funLines, List.length_append, h2]
  omega

theorem app_none (oa : Option Addr) (bn c : Nat) (W : World) : (Builtin.append_ #[23, 23] 23 #[.slice (some ⟨bn, 0, none⟩) 3 3, .slice oa 0 c]).run Tryd.prog W = .ok (.slice (some ⟨bn, 0, none⟩) 3 3) W := by
  obtain ⟨i3, hi3, hz3, hs3, hb3⟩ := info_parts info3
  cases oa with
  | none => exact run_append_room_src W 23 23 23 3 i3 Tryd.underlying23 hi3 bn 0 3 3 _ 0 [] (Src.ofNil W Tryd.underlying23 c) (by decide) (fun j hj => by simp at hj) (fun j hj => by simp at hj)
  | some a => exact run_append_room_src W 23 23 23 3 i3 Tryd.underlying23 hi3 bn 0 3 3 _ 0 [] (Src.ofSlice W Tryd.underlying23 a 0 c [] (by simp) (fun j u h => by simp at h) (fun u hu => by cases hu)) (by decide) (fun j hj => by simp at hj) (fun j hj => by simp at hj)

def inBox2 (x : In) (lv : Value) : Obj := .cells #[.int .i64 x.op, .int .i64 x.a, .int .i64 x.b, .int .i64 x.c, lv] 25
theorem bx_cells {w : World} {bx : Nat} {x : In} {lv : Value} (h : w.heap[bx]? = some (inBox2 x lv)) : w.cell? ⟨bx, 0, none⟩ = some (.int .i64 x.op) ∧ w.cell? ⟨bx, 4, none⟩ = some lv := by
  unfold inBox2 at h
  simp [World.cell?, h]
theorem below_undrew {w w' : World} (h : Below w.drew.heap.size w.drew w') : Below w.heap.size w w' := ⟨h.os, h.tape, h.output, h.size, h.block⟩

/-- what holds while an instruction's line is laid out -/
structure RF (B bx bn bl offl : Nat) (x : In) (lv : Value) (acc : List UInt8) (w : World) : Prop where
  box : w.heap[bx]? = some (inBox2 x lv)
  bld : Lib.IsBuilderF 64 5 B B (Lib.byteCells acc) w
  own : w.ownsRow B 3 1 (.slice (some ⟨bn, 0, none⟩) 3 3) 3 [.int .i64 x.a, .int .i64 x.b, .int .i64 x.c]
  pow : PowAt w
  lc : ∀ j z, x.l[j]? = some z → bl < B ∧ w.cell? ⟨bl, offl + j, none⟩ = some (.int .i64 z)
  base : B ≤ w.heap.size
  b4 : 4 ≤ B
section
variable {B bx bn bl offl : Nat} {x : In} {lv : Value} {acc : List UInt8} {w w' : World}
theorem RF.next (h : RF B bx bn bl offl x lv acc w) (hb : Below w.heap.size w w') : RF B bx bn bl offl x lv acc w' :=
  ⟨(hb.block _ (Array.getElem?_eq_some_iff.1 h.box).1).trans h.box, builder_below h.bld hb, row_below hb h.own, h.pow.below hb (Nat.le_trans h.b4 h.base),
    fun j z hz => ⟨(h.lc j z hz).1, (hb.cell (p := ⟨bl, offl + j, none⟩) (Nat.lt_of_lt_of_le (h.lc j z hz).1 h.base)).trans (h.lc j z hz).2⟩, Nat.le_trans h.base hb.size, h.b4⟩
theorem RF.z (h : RF B bx bn bl offl x lv acc w) : w.cell? ⟨bx, 0, none⟩ = some (.int .i64 x.op) ∧ w.cell? ⟨bx, 4, none⟩ = some lv := ⟨(bx_cells h.box).1, (bx_cells h.box).2⟩
theorem RF.nums0 (h : RF B bx bn bl offl x lv acc w) (h0 : x.l.length = 0) : NumsV B w (.slice (some ⟨bn, 0, none⟩) 3 3) ([x.a, x.b, x.c] ++ x.l) := by
  have e : x.l = [] := List.eq_nil_of_length_eq_zero h0
  rw [e]
  exact NumsV.own h.own
theorem RF.news (h : RF B bx bn bl offl x lv acc w) : ∀ j u, (x.l.map (Value.int .i64))[j]? = some u → w.cell? ((⟨bl, offl, none⟩ : Addr).add j) = some u := fun j u hu => by
  rw [List.getElem?_map] at hu
  obtain ⟨z, hz, rfl⟩ := Option.map_eq_some_iff.1 hu
  have e : ((⟨bl, offl, none⟩ : Addr).add j) = ⟨bl, offl + j, none⟩ := by unfold Addr.add; split <;> simp_all
  rw [e]
  exact (h.lc j z hz).2
/-- behind the append -/
structure RG (B bx : Nat) (x : In) (lv v : Value) (acc : List UInt8) (w w' : World) : Prop where
  z : w'.cell? ⟨bx, 0, none⟩ = some (.int .i64 x.op) ∧ w'.cell? ⟨bx, 4, none⟩ = some lv
  box : w'.heap[bx]? = some (inBox2 x lv)
  bld : Lib.IsBuilderF 64 5 B B (Lib.byteCells acc) w'
  nums : NumsV B w' v ([x.a, x.b, x.c] ++ x.l)
  pow : PowAt w'
  below : Below B w w'
theorem RF.grown (h : RF B bx bn bl offl x lv acc w) {g cap : Nat} (ho : w'.ownsRow B 3 1 (.slice (some ⟨g, 0, none⟩) (3 + x.l.length) cap) (3 + x.l.length) ([.int .i64 x.a, .int .i64 x.b, .int .i64 x.c] ++ x.l.map (Value.int .i64))) (hg : w.grownBy w' (Value.slice (some ⟨bn, 0, none⟩) 3 3).ownBlock) :
    RG B bx x lv (.slice (some ⟨g, 0, none⟩) (3 + x.l.length) cap) acc w w' := by
  have hbox : w'.heap[bx]? = some (inBox2 x lv) := grown_other h.own hg h.box (by decide)
  have hb : Below B w w' := (Below.refl B w).grown hg h.base fun k hk => (h.own.lt k hk).1
  refine ⟨bx_cells hbox, hbox, builder_grown h.bld h.own hg, ?_, h.pow.below hb h.b4, hb⟩
  have e : ([x.a, x.b, x.c] ++ x.l).length = 3 + x.l.length := by simp; omega
  have := NumsV.own (B := B) (w := w') (v := .slice (some ⟨g, 0, none⟩) (3 + x.l.length) cap) (l := [x.a, x.b, x.c] ++ x.l) (by rw [e, List.map_append]; exact ho)
  exact this
end

/-- an append of nothing, in a region -/
theorem step_append_none {ops : Array Oper} {o : Oper} {a : Act} {w : World} {K : Act → World → Prop} {Q : Exit → Act → World → Prop} {E : Prop} (hgd : o.guard = none) (s x : Operand) (t : TypeId)
    (ho : o.op = .call { callee := .builtin .append, args := #[s, x], argTypes := #[t, t] }) (v u r : Value) (hs : a.eval s = v) (hx : a.eval x = u)
    (hrun : (Builtin.append_ #[t, t] o.type #[v, u]).run Tryd.prog w = .ok r w) (h : K (a.put o.dst r) w) :
    if Region.wanted o (yielded ops a.tmps) = true then Oper.wp Tryd.prog o a w K Q else E := by
  have hw : Region.wanted o (yielded ops a.tmps) = true := by simp [Region.wanted, hgd]
  rw [if_pos hw]
  unfold Oper.wp execOp
  simp only [ho, resolve, invoke, builtin, Sem.run_bind, Sem.run_pure, Result.andThen_ok, List.map_toArray, List.map_cons, List.map_nil, hs, hx, hrun]
  exact h

set_option maxRecDepth 100000 in
set_option maxHeartbeats 4000000 in
theorem text_any (w : World) (fv cv : Value) (p : Pg) (hP : PgV w fv cv p) (hS : SmallP p) (hN : NumP p) (hT : PowAt w) (h4 : 4 ≤ w.heap.size) :
    Calls Tryd.prog 23 #[.agg #[fv, cv]] w fun e w' => e = .returned (.string ⟨(textB p).toArray⟩) ∧ Below w.heap.size w w' := by
  obtain ⟨⟨oaf, capf, bf, off, rfl, hf1, hf2, hf3, hf4⟩, oac, capc, bc, offc, rfl, hc1, hc2, hc3, hc4⟩ := hP
  replace hf3 := Lib.hid hf3
  replace hf4 := Lib.hid hf4
  replace hc3 := Lib.hid hc3
  replace hc4 := Lib.hid hc4
  have HT := Lib.hid hT
  have HS := Lib.hid hS
  have HN := Lib.hid hN
  obtain ⟨w1, hw1⟩ : ∃ w1, w1 = w.alloc (.cells #[.slice oaf p.fs.length capf, .slice oac p.cs.length capc] 35) := ⟨_, rfl⟩
  have hb : Below w.heap.size w w1 := by rw [hw1]; exact alloc_below _ _
  have hs1 : w1.heap.size = w.heap.size + 1 := by rw [hw1]; simp
  have hI := Lib.IsBuilderF.of (Lib.fresh_isBuilder 64 5 w1)
  have hBx := alloc_below w1 (.cells #[.pointer none, .slice none 0 0] 64)
  have y0 : (w1.alloc (.cells #[.pointer none, .slice none 0 0] 64)).cell? ⟨w.heap.size, 0, none⟩ = some (.slice oaf p.fs.length capf) := (alloc_same _ _ _ (by rw [hs1]; exact Nat.lt_succ_self _)).trans (by rw [hw1]; exact alloc_cell _ _ _ _ _ rfl)
  have hlc := HS.out.cs
  have hlf := HS.out.fs
  clear hT hS hN
  go_enter Tryd.func23, Tryd.ntmps23
  go_wp2_with fail
  rw [← hw1]
  rw [hs1] at hI
  have hW : Below w.heap.size w (w1.alloc (.cells #[.pointer none, .slice none 0 0] 64)) := hb.trans (hBx.mono hb.size)
  have hsz2 : (w1.alloc (.cells #[.pointer none, .slice none 0 0] 64)).heap.size = w.heap.size + 2 := by simp [hs1]
  generalize w1.alloc (.cells #[.pointer none, .slice none 0 0] 64) = w2 at hI y0 hW hsz2 ⊢
  clear hb hBx hw1 hs1
  obtain ⟨B, hBe⟩ : ∃ B, B = w.heap.size + 1 := ⟨_, rfl⟩
  rw [← hBe] at hI
  simp only [← hBe]
  have HI0 := Lib.hid hI
  have hB2 : B ≤ w2.heap.size := by omega
  have hPB := Lib.hid (HT.out.below hW h4)
  have hbl : ∀ (k : Nat), k < w.heap.size → k < B := fun k hk => by omega
  replace hbl := Lib.hid hbl
  have hwB : w.heap.size < B := by omega
  have hB5 : 4 ≤ B := by omega
  clear hI
  replace hBe := Lib.hid hBe
  go_loopw [14] (fun u wr => ∃ j : Nat, j ≤ p.cs.length ∧ u = .int .i64 j ∧ Lib.IsBuilderF 64 5 B B (Lib.byteCells ((p.cs.take j).flatMap coLine)) wr ∧ Below B w2 wr) (fun u _ => p.cs.length - (intOf u).toNat)
  case atStart => exact ⟨0, by omega, rfl, HI0.out, Below.refl _ _⟩
  case round =>
    clear HI0
    obtain ⟨j, hj, rfl, HB, hbw⟩ := hrel
    have hBr : B ≤ wr.heap.size := Nat.le_trans hB2 hbw.size
    by_cases hjl : j < p.cs.length
    · have t1 : decide ((j : Int) < p.cs.length) = true := by simp; omega
      obtain ⟨rfl, hbc⟩ := hc3.out (by omega)
      obtain ⟨c, hc⟩ : ∃ c, p.cs[j]? = some c := ⟨_, List.getElem?_eq_getElem hjl⟩
      obtain ⟨sn, g0, g1, g2, g3, g4⟩ := hc4.out j c hc
      have HTK := Lib.hid (take_snoc p.cs j c hc)
      have HCI := Lib.hid (HN.out.co c (List.mem_of_getElem? hc))
      have hal : ((p.cs.take j).flatMap coLine).length ≤ 91 * j := by
        have := flat_bound coLine 91 (p.cs.take j) (fun d hd => coLine_len (HN.out.co d (List.mem_of_mem_take hd)))
        rw [List.length_take] at this
        omega
      have hwr : Below w.heap.size w wr := hW.trans (hbw.mono (by omega))
      replace g0 := (hwr.cell (p := ⟨bc, offc + j * 5, none⟩) hbc).trans g0
      replace g1 := (hwr.cell (p := ⟨bc, offc + j * 5 + 1, none⟩) hbc).trans g1
      replace g2 := (hwr.cell (p := ⟨bc, offc + j * 5 + 2, none⟩) hbc).trans g2
      replace g3 := (hwr.cell (p := ⟨bc, offc + j * 5 + 3, none⟩) hbc).trans g3
      replace g4 := (hwr.cell (p := ⟨bc, offc + j * 5 + 4, none⟩) hbc).trans g4
      have hab := alloc_below wr (.cells #[.string sn, .int .i64 c.re, .int .i64 c.ca, .int .i64 c.wo, .int .i64 c.ar] 55)
      have hal2 := own_lit (wr.alloc (.cells #[.string sn, .int .i64 c.re, .int .i64 c.ca, .int .i64 c.wo, .int .i64 c.ar] 55)) B (Nat.le_trans hBr hab.size) [c.re, c.ca, c.wo, c.ar] (by show 4 ≤ maxLen; unfold maxLen; omega)
      have hab2 := hab.trans ((alloc_below (wr.alloc (.cells #[.string sn, .int .i64 c.re, .int .i64 c.ca, .int .i64 c.wo, .int .i64 c.ar] 55)) (.cells (iv [c.re, c.ca, c.wo, c.ar]) 3)).mono hab.size)
      have hsz3 : (wr.alloc (.cells #[.string sn, .int .i64 c.re, .int .i64 c.ca, .int .i64 c.wo, .int .i64 c.ar] 55)).heap.size = wr.heap.size + 1 := by simp
      rw [hsz3] at hal2
      have HL := Lib.hid (line_any B B ((p.cs.take j).flatMap coLine) ⟨#[99, 111]⟩ _ [c.re, c.ca, c.wo, c.ar] _ (builder_below HB hab2) (NumsV.own hal2) HCI.out (hPB.out.below (B := B) (hbw.trans (hab2.mono hBr)) hB5) hB5 (Nat.le_trans hBr hab2.size) (by show _ + 2 + 22 * 4 + 1 ≤ _; omega))
      clear hc hal2
      go_wp2_with fail
      refine HL.out.mono ?_
      clear HL
      rintro e w3 ⟨rfl, H3, K3⟩
      have hb3 : Below B w2 w3 := hbw.trans ((hab2.mono hBr).trans K3.below)
      clear hab hab2 K3 g0 g1 g2 g3 g4 HB
      go_wp2
      go_roundw
      case rel =>
        refine ⟨j + 1, by omega, by go_num, ?_, hb3⟩
        rw [HTK.out, List.flatMap_append, List.flatMap_singleton]
        exact H3
      case measure => simp [intOf]; omega
    · have t1 : decide ((j : Int) < p.cs.length) = false := by simp; omega
      obtain rfl : j = p.cs.length := by omega
      rw [List.take_length] at HB
      obtain ⟨acc0, hacc0⟩ : ∃ a, a = p.cs.flatMap coLine := ⟨_, rfl⟩
      rw [← hacc0] at HB
      have hal0 : acc0.length ≤ 91 * 60 := by
        have := flat_bound coLine 91 p.cs (fun d hd => coLine_len (HN.out.co d hd))
        rw [hacc0]; omega
      replace hacc0 := Lib.hid hacc0
      replace y0 := (hbw.cell (p := ⟨w.heap.size, 0, none⟩) hwB).trans y0
      have HB0 := Lib.hid HB
      have hBw0 := Lib.hid hbw
      clear HB hbw
      obtain ⟨wp, hwp⟩ : ∃ wp, wp = wr := ⟨_, rfl⟩
      subst hwp
      go_wp2_with fail
      go_loopw [32] (fun u wy => ∃ j : Nat, j ≤ p.fs.length ∧ u = .int .i64 j ∧ Lib.IsBuilderF 64 5 B B (Lib.byteCells (acc0 ++ (p.fs.take j).flatMap funLines)) wy ∧ Below B w2 wy) (fun u _ => p.fs.length - (intOf u).toNat)
      case atStart => exact ⟨0, by omega, rfl, by simpa using HB0.out, hBw0.out⟩
      case round =>
        clear HB0 hBw0 hBr y0
        obtain ⟨j, hj, rfl, HB, hbw⟩ := hrel
        have hBr : B ≤ wr.heap.size := Nat.le_trans hB2 hbw.size
        by_cases hjl : j < p.fs.length
        · have t2 : decide ((j : Int) < p.fs.length) = true := by simp; omega
          obtain ⟨rfl, hbf⟩ := hf3.out (by omega)
          obtain ⟨f, hf⟩ : ∃ f, p.fs[j]? = some f := ⟨_, List.getElem?_eq_getElem hjl⟩
          obtain ⟨fvj, g0, oaj, capj, bj, offj, rfl, q1, q2, q3, q4⟩ := hf4.out j f hf
          replace q3 := Lib.hid q3
          replace q4 := Lib.hid q4
          have HFM := Lib.hid (List.mem_of_getElem? hf)
          have HTK := Lib.hid (take_snoc p.fs j f hf)
          have hfl := HS.out.f f HFM.out
          have hal : (acc0 ++ (p.fs.take j).flatMap funLines).length ≤ 91 * 60 + 84484 * j := by
            have := flat_bound funLines 84484 (p.fs.take j) (fun d hd => funLines_len (HN.out.ins d (List.mem_of_mem_take hd)) (HS.out.l d (List.mem_of_mem_take hd)) (HS.out.f d (List.mem_of_mem_take hd)))
            rw [List.length_take] at this
            rw [List.length_append]
            omega
          have hwr : Below w.heap.size w wr := hW.trans (hbw.mono (by omega))
          replace g0 := (hwr.cell (p := ⟨bf, off + j, none⟩) hbf).trans g0
          have HL := Lib.hid (line_any B B (acc0 ++ (p.fs.take j).flatMap funLines) ⟨#[102, 117, 110]⟩ (.slice none 0 0) [] wr HB ⟨none, 0, 0, 0, rfl, Nat.le_refl _, Nat.zero_le _, fun h => absurd h (Nat.lt_irrefl _), fun i z hz => by simp at hz⟩ (fun n hn => by simp at hn) (hPB.out.below hbw hB5) hB5 hBr (by show _ + 3 + 22 * 0 + 1 ≤ _; omega))
          clear hf HB
          go_wp2_with fail
          refine HL.out.mono ?_
          clear HL
          rintro e w3 ⟨rfl, H3, K3⟩
          have hb3 : Below B w2 w3 := hbw.trans K3.below
          obtain ⟨acc1, hacc1⟩ : ∃ a, a = acc0 ++ (p.fs.take j).flatMap funLines ++ lineB [102, 117, 110] [] := ⟨_, rfl⟩
          have H3' : Hid (Lib.IsBuilderF 64 5 B B (Lib.byteCells acc1) w3) := Lib.hid (by rw [hacc1]; exact H3)
          have hal1 : acc1.length ≤ 91 * 60 + 84484 * j + 4 := by
            have h2 : (lineB [102, 117, 110] []).length = 4 := rfl
            rw [hacc1, List.length_append, h2]; omega
          have HB3 := Lib.hid hb3
          replace hacc1 := Lib.hid hacc1
          clear H3 K3 hbw g0 hwr hb3 hal
          go_wp2_with fail
          go_loopw [39] (fun u wy => ∃ i : Nat, i ≤ f.length ∧ u = .int .i64 i ∧ Lib.IsBuilderF 64 5 B B (Lib.byteCells (acc1 ++ (f.take i).flatMap insLine)) wy ∧ Below B w2 wy) (fun u _ => f.length - (intOf u).toNat)
          case atStart => exact ⟨0, by omega, rfl, by simpa using H3'.out, HB3.out⟩
          case round =>
            clear H3' HB3 hBr
            obtain ⟨i, hi, rfl, HB, hbw⟩ := hrel
            have hBr : B ≤ wr.heap.size := Nat.le_trans hB2 hbw.size
            by_cases hil : i < f.length
            · have t3 : decide ((i : Int) < f.length) = true := by simp; omega
              obtain ⟨rfl, hbj⟩ := q3.out (by omega)
              obtain ⟨x, hx⟩ : ∃ x, f[i]? = some x := ⟨_, List.getElem?_eq_getElem hil⟩
              obtain ⟨lv, g0, g1, g2, g3, g4, oal, capl, bl, offl, rfl, l1, l2, l3, l4⟩ := q4.out i x hx
              replace l3 := Lib.hid l3
              replace l4 := Lib.hid l4
              have HXM := Lib.hid (List.mem_of_getElem? hx)
              have HTX := Lib.hid (take_snoc f i x hx)
              have hxl := HS.out.l f HFM.out x HXM.out
              have HXI := Lib.hid (HN.out.ins f HFM.out x HXM.out)
              have hal : (acc1 ++ (f.take i).flatMap insLine).length ≤ 91 * 60 + 84484 * j + 4 + 1408 * i := by
                have := flat_bound insLine 1408 (f.take i) (fun d hd => insLine_len (HN.out.ins f HFM.out d (List.mem_of_mem_take hd)) (HS.out.l f HFM.out d (List.mem_of_mem_take hd)))
                rw [List.length_take] at this
                rw [List.length_append]
                omega
              have hwr : Below w.heap.size w wr := hW.trans (hbw.mono (by omega))
              replace g0 := (hwr.cell (p := ⟨bj, offj + i * 5, none⟩) hbj).trans g0
              replace g1 := (hwr.cell (p := ⟨bj, offj + i * 5 + 1, none⟩) hbj).trans g1
              replace g2 := (hwr.cell (p := ⟨bj, offj + i * 5 + 2, none⟩) hbj).trans g2
              replace g3 := (hwr.cell (p := ⟨bj, offj + i * 5 + 3, none⟩) hbj).trans g3
              replace g4 := (hwr.cell (p := ⟨bj, offj + i * 5 + 4, none⟩) hbj).trans g4
              clear hx
              go_upto_region 15 with fail
              have hab := alloc_below wr (inBox2 x (.slice oal x.l.length capl))
              have hsz3 : (wr.alloc (inBox2 x (.slice oal x.l.length capl))).heap.size = wr.heap.size + 1 := by simp
              have hown := own_lit (wr.alloc (inBox2 x (.slice oal x.l.length capl))) B (Nat.le_trans hBr hab.size) [x.a, x.b, x.c] (by show 3 ≤ maxLen; unfold maxLen; omega)
              have hab1 := alloc_below (wr.alloc (inBox2 x (.slice oal x.l.length capl))) (.cells (iv [x.a, x.b, x.c]) 3)
              have hab2 := hab.trans (hab1.mono hab.size)
              rw [hsz3] at hown
              have R : RF B wr.heap.size (wr.heap.size + 1) bl offl x (.slice oal x.l.length capl) (acc1 ++ (f.take i).flatMap insLine) ((wr.alloc (inBox2 x (.slice oal x.l.length capl))).alloc (.cells (iv [x.a, x.b, x.c]) 3)) :=
                ⟨(hab1.block _ (by rw [hsz3]; exact Nat.lt_succ_self _)).trans (heap_alloc_new _ _), builder_below HB hab2, hown, hPB.out.below (B := B) (hbw.trans (hab2.mono hBr)) hB5, fun j z hz => by
                  obtain ⟨h1, h2⟩ := l3.out (by have := (List.getElem?_eq_some_iff.1 hz).1; omega)
                  exact ⟨hbl.out bl h2, (hab2.cell (p := ⟨bl, offl + j, none⟩) (Nat.lt_of_lt_of_le h2 hwr.size)).trans ((hwr.cell (p := ⟨bl, offl + j, none⟩) h2).trans (l4.out j z hz))⟩, Nat.le_trans hBr hab2.size, hB5⟩
              have hbW : Below B w2 ((wr.alloc (inBox2 x (.slice oal x.l.length capl))).alloc (.cells (iv [x.a, x.b, x.c]) 3)) := hbw.trans (hab2.mono hBr)
              unfold inBox2 iv at R hbW
              simp only [List.map_cons, List.map_nil] at R hbW
              clear hab hab1 hab2 hsz3 hown g0 g1 g2 g3 g4 hwr HB hbw
              obtain ⟨bx, hbx⟩ : ∃ bx, bx = wr.heap.size := ⟨_, rfl⟩
              rw [← hbx] at R
              simp only [← hbx]
              clear hbx
              change RF B bx (bx + 1) bl offl x (.slice oal x.l.length capl) (acc1 ++ (f.take i).flatMap insLine) ((wr.alloc (.cells #[.int .i64 x.op, .int .i64 x.a, .int .i64 x.b, .int .i64 x.c, .slice oal x.l.length capl] 25)).alloc (.cells #[.int .i64 x.a, .int .i64 x.b, .int .i64 x.c] 3)) at R
              change Below B w2 ((wr.alloc (.cells #[.int .i64 x.op, .int .i64 x.a, .int .i64 x.b, .int .i64 x.c, .slice oal x.l.length capl] 25)).alloc (.cells #[.int .i64 x.a, .int .i64 x.b, .int .i64 x.c] 3)) at hbW
              generalize (wr.alloc (.cells #[.int .i64 x.op, .int .i64 x.a, .int .i64 x.b, .int .i64 x.c, .slice oal x.l.length capl] 25)).alloc (.cells #[.int .i64 x.a, .int .i64 x.b, .int .i64 x.c] 3) = W at R hbW ⊢
              obtain ⟨z0, z4⟩ := R.z
              obtain ⟨p0, p1⟩ := HXI.out x.op (by simp)
              have HR := Lib.hid R
              have HI64 := Lib.hid (show I64 ([x.a, x.b, x.c] ++ x.l) from fun n hn => HXI.out n (List.mem_cons_of_mem _ hn))
              have hitl := Lib.itoa_length_le x.op p0 p1
              have hws : (⟨(Lib.itoa x.op).toArray⟩ : ByteArray).size = (Lib.itoa x.op).length := by show (Lib.itoa x.op).toArray.size = _; simp
              have hln : ([x.a, x.b, x.c] ++ x.l).length = 3 + x.l.length := by simp; omega
              obtain ⟨acc2, hacc2⟩ : ∃ a, a = acc1 ++ (f.take i).flatMap insLine := ⟨_, rfl⟩
              rw [← hacc2] at HR hal
              have hbound := Lib.hid (show acc2.length + (⟨(Lib.itoa x.op).toArray⟩ : ByteArray).size + 22 * ([x.a, x.b, x.c] ++ x.l).length + 1 ≤ 100000000 by rw [hws, hln]; omega)
              have HNX := Lib.hid (show acc1 ++ (f.take (i + 1)).flatMap insLine = acc2 ++ lineB (Lib.itoa x.op) ([x.a, x.b, x.c] ++ x.l) by rw [HTX.out, List.flatMap_append, List.flatMap_singleton, ← List.append_assoc, ← hacc2]; rfl)
              clear R hacc2 hws hln hitl hal
              by_cases hl0 : x.l.length = 0
              · have happ : ∀ W, (Builtin.append_ #[23, 23] 23 #[.slice (some ⟨bx + 1, 0, none⟩) 3 3, .slice oal x.l.length capl]).run Tryd.prog W = .ok (.slice (some ⟨bx + 1, 0, none⟩) 3 3) W := by rw [hl0]; exact app_none oal (bx + 1) capl
                have HL0 := Lib.hid hl0
                clear hl0
                go_region_held3 (fun w' => w'.cell? ⟨bx, 0, none⟩ = some (.int .i64 x.op) ∧ w'.cell? ⟨bx, 4, none⟩ = some (.slice oal x.l.length capl)) (first | (refine ⟨?_, ?_⟩ <;> assumption) | go_keep)
                  (first
                    | (go_at_call 37; refine (Tryd.strconv_Itoa x.op p0 p1 _ (by exact HR.out.pow)).mono ?_; rintro e w5 ⟨rfl, q, os, hw5⟩; have hg5 : Below W.heap.size W w5 := (by rw [hw5]; exact below_undrew (Lib.below_grow W.drew.heap.size W.drew (Nat.le_refl _) q os)); have R5 := HR.out.next hg5; have z05 := R5.z.1; have z45 := R5.z.2; clear hw5; replace R5 := Lib.hid R5; replace hg5 := Lib.hid hg5)
                    | (refine step_append_none rfl (.tmp 53) (.tmp 55) 23 rfl (.slice (some ⟨bx + 1, 0, none⟩) 3 3) (.slice oal x.l.length capl) _ rfl rfl (happ _) ?_)
                    | (go_at_call 36; refine (line_any B B acc2 ⟨(Lib.itoa x.op).toArray⟩ _ ([x.a, x.b, x.c] ++ x.l) w5 R5.out.bld (R5.out.nums0 HL0.out) HI64.out R5.out.pow R5.out.b4 R5.out.base hbound.out).mono ?_; rintro e w7 ⟨rfl, H7, K7⟩; have hx7 := kp_block K7 R5.out.bld R5.out.box (by decide) (by decide); have z07 := (bx_cells hx7).1; have z47 := (bx_cells hx7).2; have hb7 : Hid (Below B w2 w7) := Lib.hid (hbW.trans ((hg5.out.mono HR.out.base).trans K7.below)); replace H7 := Lib.hid H7; clear hx7 K7))
                have H8 : Lib.IsBuilderF 64 5 B B (Lib.byteCells (acc1 ++ (f.take (i + 1)).flatMap insLine)) w7 := by rw [HNX.out]; exact H7.out
                have hb8 := hb7.out
                clear z0 z4 z05 z45 z07 z47 HR hbW R5 hg5 H7 hb7
                go_wp2
                go_roundw
                case rel => exact ⟨i + 1, by omega, by go_num, H8, hb8⟩
                case measure => simp [intOf]; omega
              · obtain ⟨rfl, hbl2⟩ := l3.out (by omega)
                obtain ⟨i3, hi3, hz3, hs3, hb3⟩ := info_parts info3
                have hlpos : 0 < x.l.length := by omega
                clear hl0
                have hone : ∀ u ∈ x.l.map (Value.int .i64), u.oneCell' = true := fun u hu => by
                  obtain ⟨z, _, rfl⟩ := List.mem_map.1 hu
                  rfl
                have h63 : 3 + x.l.length ≤ maxLen := by unfold maxLen; omega
                have hby : (3 + x.l.length) * 8 ≤ 140737488355328 := by omega
                replace hone := Lib.hid hone
                go_region_held3 (fun w' => w'.cell? ⟨bx, 0, none⟩ = some (.int .i64 x.op) ∧ w'.cell? ⟨bx, 4, none⟩ = some (.slice (some ⟨bl, offl, none⟩) x.l.length capl)) (first | (refine ⟨?_, ?_⟩ <;> assumption) | go_keep)
                  (first
                    | (go_at_call 37; refine (Tryd.strconv_Itoa x.op p0 p1 _ (by exact HR.out.pow)).mono ?_; rintro e w5 ⟨rfl, q, os, hw5⟩; have hg5 : Below W.heap.size W w5 := (by rw [hw5]; exact below_undrew (Lib.below_grow W.drew.heap.size W.drew (Nat.le_refl _) q os)); have R5 := HR.out.next hg5; have z05 := R5.z.1; have z45 := R5.z.2; clear hw5; replace R5 := Lib.hid R5; replace hg5 := Lib.hid hg5)
                    | (refine step_append_lies _ rfl (.tmp 53) (.tmp 55) 23 rfl B 3 i3 _ 1 8 Tryd.underlying23 hi3 hz3 hs3 hb3 rfl (by decide) (.slice (some ⟨bx + 1, 0, none⟩) 3 3) 3 _ rfl R5.out.own ⟨bl, offl, none⟩ x.l.length capl (x.l.map (Value.int .i64)) rfl (by simp) R5.out.news hone.out hlpos h63 hby R5.out.base _ rfl ?_; intro g cap6 w6 hown6 hg6 hgo hlt6; have R6 := R5.out.grown hown6 hg6; have z06 := R6.z.1; have z46 := R6.z.2; clear hown6 hg6 hgo hlt6; replace R6 := Lib.hid R6)
                    | (go_at_call 36; refine (line_any B B acc2 ⟨(Lib.itoa x.op).toArray⟩ _ ([x.a, x.b, x.c] ++ x.l) w6 R6.out.bld R6.out.nums HI64.out R6.out.pow R5.out.b4 (Nat.le_trans R5.out.base R6.out.below.size) hbound.out).mono ?_; rintro e w7 ⟨rfl, H7, K7⟩; have hx7 := kp_block K7 R6.out.bld R6.out.box (by decide) (by decide); have z07 := (bx_cells hx7).1; have z47 := (bx_cells hx7).2; have hb7 : Hid (Below B w2 w7) := Lib.hid (hbW.trans ((hg5.out.mono HR.out.base).trans (R6.out.below.trans K7.below))); replace H7 := Lib.hid H7; clear hx7 K7))
                have H8 : Lib.IsBuilderF 64 5 B B (Lib.byteCells (acc1 ++ (f.take (i + 1)).flatMap insLine)) w7 := by rw [HNX.out]; exact H7.out
                have hb8 := hb7.out
                clear z0 z4 z05 z45 z06 z46 z07 z47 HR hbW R5 R6 hg5 H7 hb7
                go_wp2
                go_roundw
                case rel => exact ⟨i + 1, by omega, by go_num, H8, hb8⟩
                case measure => simp [intOf]; omega
            · have t3 : decide ((i : Int) < f.length) = false := by simp; omega
              obtain rfl : i = f.length := by omega
              rw [List.take_length] at HB
              have H4 : Lib.IsBuilderF 64 5 B B (Lib.byteCells (acc0 ++ (p.fs.take (j + 1)).flatMap funLines)) wr := by
                rw [HTK.out, List.flatMap_append, List.flatMap_singleton, funLines, ← List.append_assoc, ← List.append_assoc, ← hacc1.out]
                exact HB
              clear HB
              go_wp2
              go_roundw
              case rel => exact ⟨j + 1, by omega, by go_num, H4, hbw⟩
              case measure => simp [intOf]; omega
        · have t2 : decide ((j : Int) < p.fs.length) = false := by simp; omega
          obtain rfl : j = p.fs.length := by omega
          rw [List.take_length] at HB
          go_wp2_with fail
          refine (Tryd.Builder_String_any_k B B _ _ HB hBr).mono ?_
          rintro e w3 ⟨rfl, H3, hb3, k3⟩
          go_wp2
          go_ret
          exact ⟨by rw [textB, ← hacc0.out]; rfl, hW.trans ((hbw.trans hb3).mono (by omega))⟩
end Go.Proofs.YtobhfmliaecbjaaDoor
