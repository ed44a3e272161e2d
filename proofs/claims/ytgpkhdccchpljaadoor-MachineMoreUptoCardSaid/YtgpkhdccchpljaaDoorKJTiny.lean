/-
  Several texts of the proof in one: KNew, KTiny. No conditions of their own: each lemma states its own.
-/
import Derived.Test.YtgpkhdccchpljaaDoorKJCopied
import Derived.Test.YtgpkhdccchpljaaDoorKJMac
import Derived.Test.YtgpkhdccchpljaaDoorMAll
namespace Go.Proofs.YtgpkhdccchpljaaDoor
open Go.RowKit
open M (Wd MS RepAt Owned Kept Turned loadR storeR copyR clearR freeR allocR)
open C (In Cr Pg PgOk)

/-- the layout of a machine that was just made -/
def newL (mc mb : Nat) : Ly := ⟨mc, 0, mb, none, fun _ => 0, none, .slice none 0 0, []⟩
/-- what New comes to -/
def NewPost (w : World) (p : Pg) (words task : Int) (e : Ending) (w' : World) : Prop :=
  Below w.heap.size w w' ∧ ((¬ PgOk p ∧ e = .returned (.tuple #[.pointer none, .int .i64 30])) ∨
    (PgOk p ∧ ∃ w0 mc mb, e = .returned (.tuple #[.pointer (some ⟨mc, 0, none⟩), .int .i64 0]) ∧ MacAt w0 w' (newL mc mb) ⟨p, [], task⟩ ⟨min (max words 0) 1048576, []⟩ [] ∧ w.heap.size ≤ mc ∧ w.heap.size ≤ mb ∧
      ∀ q v, w0.cell? q = some v → w.heap.size ≤ q.block ∧ q.block < w'.heap.size))

theorem mac_new {w1 w2 w3 : World} {B : Nat} {p : Pg} {v1 v2 : Value} {mb : Nat} {r task : Int} (hB : B ≤ w1.heap.size) (hP : C.PgV (eb w1 B) v1 v2 p) (h12 : Below w1.heap.size w1 w2) (hmb : w1.heap.size ≤ mb) (hR : RepAt w2 mb none (fun _ => 0) ⟨r, []⟩) (h23 : Below w2.heap.size w2 w3) (hm : w3.heap[w2.heap.size]? = some (.cells #[v1, v2, .pointer (some ⟨mb, 0, none⟩), .map none, .slice none 0 0] 62)) :
    MacAt (eb w1 B) w3 (newL w2.heap.size mb) ⟨p, [], task⟩ ⟨r, []⟩ [] ∧ ∀ q v, (eb w1 B).cell? q = some v → B ≤ q.block ∧ q.block < w1.heap.size := by
  have h13 : Below w1.heap.size w1 w3 := h12.trans (h23.mono h12.size)
  refine ⟨⟨⟨v1, v2, hm, hP⟩, hR.below h23, ⟨rfl, .inl ⟨rfl, rfl⟩⟩, eb_under hB h13.size fun b _ hb => h13.block b hb, ?_, fun b hb => (by cases hb), fun _ => rfl, fun b hb => (by cases hb)⟩, fun q v hv => ?_⟩
  · have hfree : ∀ b, w1.heap.size ≤ b → Free (eb w1 B) b := fun b hb => free_of_ge (by rw [eb_size hB]; exact hb)
    rintro b (e | e | e | e)
    · exact hfree b (by have := h12.size; rw [e]; exact this)
    · rcases e with e | e | ⟨k, l, hk, _⟩
      · exact hfree b (by rw [e]; exact hmb)
      · cases e
      · simp [MS.at] at hk
    · cases e
    · cases e
  · have h1 := World.block_lt_of_cell? _ _ hv
    rw [eb_size hB] at h1
    refine ⟨?_, h1⟩
    by_cases h : q.block < B
    · rw [eb_free hB h q rfl] at hv; cases hv
    · omega

set_option maxRecDepth 100000 in
set_option maxHeartbeats 8000000 in
theorem new_any {w : World} {fv cv : Value} {p : Pg} (hP : C.PgV w fv cv p) (hL : C.LabOk p) (ht : C.TabAt w) (hl0 : ∀ f ∈ p.fs, ∀ x ∈ f, x.l.length * 8 ≤ 140737488355328) (words task : Int) :
    Calls Tryd.prog 7 #[.agg #[fv, cv], .int .i64 words] w (NewPost w p words task) := by
  have hP' := hP
  obtain ⟨⟨oaf, capf, bf, off, rfl, -, -, -, -⟩, oac, capc, bc, offc, rfl, -, -, -, -⟩ := hP'
  obtain ⟨n, hn⟩ : ∃ n, p.fs.length = n := ⟨_, rfl⟩
  obtain ⟨m, hm⟩ : ∃ m, p.cs.length = m := ⟨_, rfl⟩
  rw [hn, hm] at hP ⊢
  obtain ⟨W, hW⟩ : ∃ W, W = w.alloc (.cells #[.slice oaf n capf, .slice oac m capc] 25) := ⟨_, rfl⟩
  have hbW : Below w.heap.size w W := by rw [hW]; exact C.alloc_below _ _
  have hx0 : W.heap[w.heap.size]? = some (.cells #[.slice oaf n capf, .slice oac m capc] 25) := by rw [hW, heap_alloc_new]
  have hts := ht.lt
  have hval := Lib.hid (C.valid_any W (.slice oaf n capf) (.slice oac m capc) p (hP.below hbW) hL (ht.below hbW hts))
  have hcop := Lib.hid (fun (w1 : World) (hb : Below w.heap.size w w1) (hok : PgOk p) => copied_any (hP.below hb) hok.fs hok.cs (fun f hf => by
    obtain ⟨i, hi⟩ := List.getElem?_of_mem hf
    exact (hok.fn i f hi).small) hl0)
  clear hP hL ht hl0 hn hm hts
  obtain ⟨B, hB⟩ : ∃ B, B = w.heap.size := ⟨_, rfl⟩
  rw [← hB] at hx0
  have hBl : B < W.heap.size := (Array.getElem?_eq_some_iff.1 hx0).1
  have HW := Lib.hid hbW
  have HX0 := Lib.hid hx0
  obtain ⟨a0, a1, af, al⟩ := cells2 hx0
  go_enter Tryd.func7, Tryd.ntmps7
  go_upto_region 1 with fail
  rw [← hW]
  simp only [← hB]
  clear hW hx0 hbW
  replace hB := Lib.hid hB
  go_upto_region 1 with fail
  go_wp2_with fail
  refine hval.out.mono ?_
  rintro e w1 ⟨b, rfl, hb, hb1⟩
  have HBB := Lib.hid hb
  have HB1 := Lib.hid hb1
  have hbw1 := HW.out.trans (hb1.mono HW.out.size)
  have HBW1 := Lib.hid hbw1
  have hX1 := keepB7 HX0.out hb1
  clear hb hb1 hbw1 a0 a1 af al
  obtain ⟨a0, a1, af, al⟩ := cells2 hX1
  clear hX1
  cases b with
  | false =>
    go_wp2
    go_returns
    exact ⟨HBW1.out, .inl ⟨fun h => (by have := HBB.out.2 h; cases this), rfl⟩⟩
  | true =>
    have hok := HBB.out.1 rfl
    have hc1 := Lib.hid (hcop.out w1 HBW1.out hok)
    have HOK := Lib.hid hok
    clear hok hcop
    obtain ⟨r, hr⟩ : ∃ r, r = min (max words 0) 1048576 := ⟨_, rfl⟩
    have hnew := Lib.hid (fun w' => M.new_any words r w' hr)
    have HRR := Lib.hid hr
    clear hr
    go_wp2_with
      (first
        | (go_at_call 19; refine hc1.out.mono ?_; rintro e w2 ⟨v1, v2, rfl, hP2, hb2⟩; have hsh : ∃ o1 n1 c1 o2 n2 c2, v1 = .slice o1 n1 c1 ∧ v2 = .slice o2 n2 c2 := (by obtain ⟨⟨o1, c1, _, _, rfl, _⟩, o2, c2, _, _, rfl, _⟩ := hP2; exact ⟨_, _, _, _, _, _, rfl, rfl⟩); obtain ⟨o1, n1, c1, o2, n2, c2, rfl, rfl⟩ := hsh; have HP2 := Lib.hid hP2; have HB2 := Lib.hid hb2; clear hP2 hb2)
        | (go_at_call 20; refine (hnew.out _).mono ?_; rintro e w3 ⟨rfl, hR3, hb3, hl3⟩; have HR3 := Lib.hid (And.intro hR3 (And.intro hb3 hl3)); clear hR3 hb3 hl3))
    go_returns
    obtain ⟨hR3, hb3, hl3⟩ := HR3.out
    have h12 : Below w2.heap.size w2 w3 := hb3
    have hmn := mac_new (B := w1.heap.size) (w1 := w2) (w2 := w3) (task := task) HB2.out.size HP2.out h12 (Nat.le_refl _) hR3 (C.alloc_below w3 (.cells #[.slice o1 n1 c1, .slice o2 n2 c2, .pointer (some ⟨w2.heap.size, 0, none⟩), .map none, .slice none 0 0] 62)) (heap_alloc_new _ _)
    have hbw2 := HBW1.out.trans (HB2.out.mono HBW1.out.size)
    have hbw3 := hbw2.trans (h12.mono hbw2.size)
    refine ⟨hbw3.trans ((C.alloc_below w3 _).mono hbw3.size), .inr ⟨HOK.out, _, _, _, rfl, by rw [← HRR.out]; exact hmn.1, hbw3.size, hbw2.size, fun q v hq => ?_⟩⟩
    obtain ⟨h1, h2⟩ := hmn.2 q v hq
    have := HBW1.out.size
    have := h12.size
    refine ⟨by omega, ?_⟩
    simp
    omega
end Go.Proofs.YtgpkhdccchpljaaDoor

namespace Go.Proofs.YtgpkhdccchpljaaDoor
open Go.RowKit
open M (Wd MS RepAt Owned Kept Turned loadR storeR copyR clearR freeR allocR)
open C (In Cr Pg PgOk)

def tinyR : List In := [⟨1, 1, 0, 0, []⟩, ⟨3, 2, 1, 0, []⟩, ⟨14, 2, 0, 0, [7]⟩, ⟨0, 3, 1, 0, []⟩, ⟨4, 1, 3, 0, []⟩, ⟨0, 4, 7, 0, []⟩, ⟨20, 4, 0, 0, []⟩, ⟨1, 1, 1, 0, []⟩, ⟨0, 4, 8, 0, []⟩, ⟨4, 1, 4, 0, []⟩, ⟨27, 0, 0, 0, []⟩]
def tinyC : List In := [⟨29, 0, 0, 0, []⟩]
def tinyP : Pg := ⟨[tinyR, tinyC], [⟨0, 1, 3, 0⟩]⟩

theorem al6 (w : World) (o0 o1 o2 o3 o4 o5 : Obj) : Below w.heap.size w ((((((w.alloc o0).alloc o1).alloc o2).alloc o3).alloc o4).alloc o5) ∧
    ((((((w.alloc o0).alloc o1).alloc o2).alloc o3).alloc o4).alloc o5).heap[w.heap.size]? = some o0 ∧ ((((((w.alloc o0).alloc o1).alloc o2).alloc o3).alloc o4).alloc o5).heap[w.heap.size + 1]? = some o1 ∧ ((((((w.alloc o0).alloc o1).alloc o2).alloc o3).alloc o4).alloc o5).heap[w.heap.size + 2]? = some o2 ∧
    ((((((w.alloc o0).alloc o1).alloc o2).alloc o3).alloc o4).alloc o5).heap[w.heap.size + 3]? = some o3 ∧ ((((((w.alloc o0).alloc o1).alloc o2).alloc o3).alloc o4).alloc o5).heap[w.heap.size + 4]? = some o4 ∧ ((((((w.alloc o0).alloc o1).alloc o2).alloc o3).alloc o4).alloc o5).heap[w.heap.size + 5]? = some o5 := by
  obtain ⟨a, a0, a1, a2⟩ := al3 w o0 o1 o2
  have hs : (((w.alloc o0).alloc o1).alloc o2).heap.size = w.heap.size + 3 := by simp
  obtain ⟨b, b0, b1, b2⟩ := al3 (((w.alloc o0).alloc o1).alloc o2) o3 o4 o5
  rw [hs] at b0 b1 b2
  exact ⟨a.trans (b.mono a.size), keepB7 a0 b, keepB7 a1 b, keepB7 a2 b, b0, b1, b2⟩
theorem ints_nil (w : World) : C.IntsV w (.slice none 0 0) [] := ⟨none, 0, 0, 0, rfl, Nat.le_refl _, Nat.zero_le _, fun h => absurd h (Nat.lt_irrefl _), fun i z hz => by simp at hz⟩
theorem fun_of_block {w : World} {b n : Nat} {lvs : List Value} {f : List In} (h : w.heap[b]? = some (.cells (flatI f lvs).toArray 84)) (hn : f.length = n) (hl : lvs.length = f.length) (hI : ∀ (k : Nat) x lv, f[k]? = some x → lvs[k]? = some lv → C.IntsV w lv x.l) (hm : n ≤ 1000) : C.FunV w (.slice (some ⟨b, 0, none⟩) n n) f := by
  subst hn
  refine ⟨_, _, b, 0, rfl, Nat.le_refl _, by unfold maxLen; omega, fun _ => ⟨rfl, (Array.getElem?_eq_some_iff.1 h).1⟩, fun k x hx => ?_⟩
  have hkl := (List.getElem?_eq_some_iff.1 hx).1
  obtain ⟨lv, hlv⟩ : ∃ lv, lvs[k]? = some lv := ⟨_, List.getElem?_eq_getElem (by omega)⟩
  have hc : ∀ j, j < 5 → ∀ u, (insC x lv)[j]? = some u → w.cell? ⟨b, 0 + k * 5 + j, none⟩ = some u := fun j hj u hu => by
    simp only [World.cell?, h]
    rw [Nat.zero_add, List.getElem?_toArray]
    exact (flatI_get f lvs k j x lv hx hlv hj).trans hu
  exact ⟨lv, hc 0 (by omega) _ rfl, hc 1 (by omega) _ rfl, hc 2 (by omega) _ rfl, hc 3 (by omega) _ rfl, hc 4 (by omega) _ rfl, hI k x lv hx hlv⟩

set_option maxRecDepth 100000 in
set_option maxHeartbeats 4000000 in
theorem tiny_any (w : World) : Calls Tryd.prog 17 #[] w fun e w' => ∃ v1 v2, e = .returned (.agg #[v1, v2]) ∧ C.PgV w' v1 v2 tinyP ∧ Below w.heap.size w w' := by
  obtain ⟨W6, hW6⟩ : ∃ W6, W6 = (((((w.alloc (.cells #[.slice (some ⟨w.heap.size + 1 + 1 + 1 + 1, 0, none⟩) 2 2, .slice (some ⟨w.heap.size + 1 + 1 + 1 + 1 + 1, 0, none⟩) 1 1] 25)).alloc (.cells #[.int .i64 7] 3)).alloc (.cells #[.int .i64 1, .int .i64 1, .int .i64 0, .int .i64 0, .slice none 0 0, .int .i64 3, .int .i64 2, .int .i64 1, .int .i64 0, .slice none 0 0, .int .i64 14, .int .i64 2, .int .i64 0, .int .i64 0, .slice (some ⟨w.heap.size + 1, 0, none⟩) 1 1, .int .i64 0, .int .i64 3, .int .i64 1, .int .i64 0, .slice none 0 0, .int .i64 4, .int .i64 1, .int .i64 3, .int .i64 0, .slice none 0 0, .int .i64 0, .int .i64 4, .int .i64 7, .int .i64 0, .slice none 0 0, .int .i64 20, .int .i64 4, .int .i64 0, .int .i64 0, .slice none 0 0, .int .i64 1, .int .i64 1, .int .i64 1, .int .i64 0, .slice none 0 0, .int .i64 0, .int .i64 4, .int .i64 8, .int .i64 0, .slice none 0 0, .int .i64 4, .int .i64 1, .int .i64 4, .int .i64 0, .slice none 0 0, .int .i64 27, .int .i64 0, .int .i64 0, .int .i64 0, .slice none 0 0] 84)).alloc (.cells #[.int .i64 29, .int .i64 0, .int .i64 0, .int .i64 0, .slice none 0 0] 84)).alloc (.cells #[.slice (some ⟨w.heap.size + 1 + 1, 0, none⟩) 11 11, .slice (some ⟨w.heap.size + 1 + 1 + 1, 0, none⟩) 1 1] 56)).alloc (.cells #[.string ⟨#[]⟩, .int .i64 0, .int .i64 1, .int .i64 3, .int .i64 0] 66) := ⟨_, rfl⟩
  obtain ⟨hb, h0, h1, h2, h3, h4, h5⟩ := al6 w (.cells #[.slice (some ⟨w.heap.size + 1 + 1 + 1 + 1, 0, none⟩) 2 2, .slice (some ⟨w.heap.size + 1 + 1 + 1 + 1 + 1, 0, none⟩) 1 1] 25) (.cells #[.int .i64 7] 3) (.cells #[.int .i64 1, .int .i64 1, .int .i64 0, .int .i64 0, .slice none 0 0, .int .i64 3, .int .i64 2, .int .i64 1, .int .i64 0, .slice none 0 0, .int .i64 14, .int .i64 2, .int .i64 0, .int .i64 0, .slice (some ⟨w.heap.size + 1, 0, none⟩) 1 1, .int .i64 0, .int .i64 3, .int .i64 1, .int .i64 0, .slice none 0 0, .int .i64 4, .int .i64 1, .int .i64 3, .int .i64 0, .slice none 0 0, .int .i64 0, .int .i64 4, .int .i64 7, .int .i64 0, .slice none 0 0, .int .i64 20, .int .i64 4, .int .i64 0, .int .i64 0, .slice none 0 0, .int .i64 1, .int .i64 1, .int .i64 1, .int .i64 0, .slice none 0 0, .int .i64 0, .int .i64 4, .int .i64 8, .int .i64 0, .slice none 0 0, .int .i64 4, .int .i64 1, .int .i64 4, .int .i64 0, .slice none 0 0, .int .i64 27, .int .i64 0, .int .i64 0, .int .i64 0, .slice none 0 0] 84) (.cells #[.int .i64 29, .int .i64 0, .int .i64 0, .int .i64 0, .slice none 0 0] 84) (.cells #[.slice (some ⟨w.heap.size + 1 + 1, 0, none⟩) 11 11, .slice (some ⟨w.heap.size + 1 + 1 + 1, 0, none⟩) 1 1] 56) (.cells #[.string ⟨#[]⟩, .int .i64 0, .int .i64 1, .int .i64 3, .int .i64 0] 66)
  rw [← hW6] at hb h0 h1 h2 h3 h4 h5
  have hP : C.PgV W6 (.slice (some ⟨w.heap.size + 1 + 1 + 1 + 1, 0, none⟩) 2 2) (.slice (some ⟨w.heap.size + 1 + 1 + 1 + 1 + 1, 0, none⟩) 1 1) tinyP := by
    have hlR : C.FunV W6 (.slice (some ⟨w.heap.size + 1 + 1, 0, none⟩) 11 11) tinyR := by
      refine fun_of_block (lvs := [.slice none 0 0, .slice none 0 0, .slice (some ⟨w.heap.size + 1, 0, none⟩) 1 1, .slice none 0 0, .slice none 0 0, .slice none 0 0, .slice none 0 0, .slice none 0 0, .slice none 0 0, .slice none 0 0, .slice none 0 0]) h2 rfl rfl (fun k x lv hx hl => ?_) (by decide)
      have h7 : C.IntsV W6 (.slice (some ⟨w.heap.size + 1, 0, none⟩) 1 1) [7] := ⟨_, _, w.heap.size + 1, 0, rfl, Nat.le_refl _, by unfold maxLen; omega, fun _ => ⟨rfl, (Array.getElem?_eq_some_iff.1 h1).1⟩, fun i z hz => by
        match i, hz with
        | 0, hz => simp at hz; subst hz; simp [World.cell?, h1]
        | i + 1, hz => simp at hz⟩
      match k, hx, hl with
      | 0, hx, hl => cases hx; cases hl; exact ints_nil _
      | 1, hx, hl => cases hx; cases hl; exact ints_nil _
      | 2, hx, hl => cases hx; cases hl; exact h7
      | 3, hx, hl => cases hx; cases hl; exact ints_nil _
      | 4, hx, hl => cases hx; cases hl; exact ints_nil _
      | 5, hx, hl => cases hx; cases hl; exact ints_nil _
      | 6, hx, hl => cases hx; cases hl; exact ints_nil _
      | 7, hx, hl => cases hx; cases hl; exact ints_nil _
      | 8, hx, hl => cases hx; cases hl; exact ints_nil _
      | 9, hx, hl => cases hx; cases hl; exact ints_nil _
      | 10, hx, hl => cases hx; cases hl; exact ints_nil _
      | n + 11, hx, hl => cases hx
    have hlC : C.FunV W6 (.slice (some ⟨w.heap.size + 1 + 1 + 1, 0, none⟩) 1 1) tinyC := by
      refine fun_of_block (lvs := [.slice none 0 0]) h3 rfl rfl (fun k x lv hx hl => ?_) (by decide)
      match k, hx, hl with
      | 0, hx, hl => cases hx; cases hl; exact ints_nil _
      | n + 1, hx, hl => cases hx
    refine ⟨⟨_, 2, w.heap.size + 4, 0, rfl, Nat.le_refl _, by unfold maxLen; omega, fun _ => ⟨rfl, (Array.getElem?_eq_some_iff.1 h4).1⟩, fun i f hf => ?_⟩, _, 1, w.heap.size + 5, 0, rfl, Nat.le_refl _, by unfold maxLen; omega, fun _ => ⟨rfl, (Array.getElem?_eq_some_iff.1 h5).1⟩, fun i c hc => ?_⟩
    · match i, hf with
      | 0, hf => cases hf; exact ⟨_, by simp [World.cell?, h4], hlR⟩
      | 1, hf => cases hf; exact ⟨_, by simp [World.cell?, h4], hlC⟩
      | n + 2, hf => cases hf
    · match i, hc with
      | 0, hc => cases hc; exact ⟨⟨#[]⟩, by simp [World.cell?, h5], by simp [World.cell?, h5], by simp [World.cell?, h5], by simp [World.cell?, h5], by simp [World.cell?, h5]⟩
      | n + 1, hc => cases hc
  have HP := Lib.hid (And.intro hP hb)
  have H0 := Lib.hid h0
  have HW := Lib.hid hW6
  clear hP hb h0 h1 h2 h3 h4 h5 hW6
  go_enter Tryd.func17, Tryd.ntmps17
  go_wp2
  rw [← HW.out]
  obtain ⟨q0, q1, qf, ql⟩ := cells2 H0.out
  exact bodyPost_ret (v := .agg #[.slice (some ⟨w.heap.size + 1 + 1 + 1 + 1, 0, none⟩) 2 2, .slice (some ⟨w.heap.size + 1 + 1 + 1 + 1 + 1, 0, none⟩) 1 1]) (by simp [results, Tryd.results17, go_sem, q0, q1]) rfl ⟨_, _, rfl, HP.out.1, HP.out.2⟩
end Go.Proofs.YtgpkhdccchpljaaDoor
