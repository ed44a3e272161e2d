/-
  field, variant, braces, structure, bound of tree. Conditions: what is written lies in the heap, and is not longer than 10^14; the writer is one.
-/
import Derived.Test.YtgogdcpgfmndnaaGreatDoorTList
import Derived.Test.YtgogdcpgfmndnaaGreatDoorTRow
namespace Go.Proofs.YtgogdcpgfmndnaaGreatDoor
open Go.RowKit

def fieldT (f : Fd5) : List UInt8 := bs f.nm ++ [58, 32] ++ tyT f.ty
def tyK : Ty5 → Int | .mk k _ _ _ => k
def vaT (f : Fd5) : List UInt8 := if tyK f.ty = 0 then bs f.nm else bs f.nm ++ [40] ++ tyT f.ty ++ [41]
def bracesT (T : Fd5 → List UInt8) (l : List Fd5) : List UInt8 := if l.length = 0 then [32, 123, 125] else [32, 123, 32] ++ listT T l ++ [32, 125]
def boundT (s : ByteArray) : List UInt8 := if emptyN s then [] else [40] ++ bs s ++ [41]
def structT (s : Su5) : List UInt8 := lineT 0 [if s.drop then ⟨#[100, 114, 111, 112, 32, 115, 116, 114, 117, 99, 116, 32]⟩ else ⟨#[115, 116, 114, 117, 99, 116, 32]⟩, s.nm, strB (bracesT fieldT s.fields)]
def enumT (s : En5) : List UInt8 := lineT 0 [⟨#[101, 110, 117, 109, 32]⟩, s.nm, strB (bracesT vaT s.vars)]
theorem enters51 (args : Array Value) (w : World) : (callFunc 51 args).run Tryz.prog w = .ok (.enter 51 args) w := Go.Proofs.enters_of Tryz.func51 (by kernel_rfl) rfl args w
theorem enters49 (args : Array Value) (w : World) : (callFunc 49 args).run Tryz.prog w = .ok (.enter 49 args) w := Go.Proofs.enters_of Tryz.func49 (by kernel_rfl) rfl args w
theorem mem_line (tabs : Nat) (ps : List ByteArray) (s : ByteArray) (h : s ∈ ps) : s.size ≤ (lineT tabs ps).length := by
  have h1 : (bs s).length ≤ (ps.flatMap bs).length := by
    obtain ⟨a, b, rfl⟩ := List.append_of_mem h
    simp only [List.flatMap_append, List.flatMap_cons, List.length_append]
    omega
  rw [bs_len] at h1
  simp only [lineT, List.length_append]
  omega

set_option maxRecDepth 100000 in
set_option maxHeartbeats 2000000 in
theorem field_any (n : Nat) (f : Fd5) (w : World) (hF : FdH n w f) (hlen : (fieldT f).length ≤ 100000000000000) : Calls Tryz.prog 51 #[fdV f] w fun e w' => e = .returned (.string (strB (fieldT f))) ∧ Below w.heap.size w w' := by
  obtain ⟨fn1, ⟨k1, nm1, h1, l1⟩⟩ := f
  obtain ⟨R, hR⟩ : ∃ R, R = fieldT ⟨fn1, .mk k1 nm1 h1 l1⟩ := ⟨_, rfl⟩
  rw [← hR] at hlen ⊢
  replace hR : R = bs fn1 ++ [58, 32] ++ tyT (.mk k1 nm1 h1 l1) := hR
  have hl : (tyT (.mk k1 nm1 h1 l1)).length ≤ 100000000000000 := by rw [hR] at hlen; simp only [List.length_append] at hlen; omega
  have hz1 : fn1.size ≤ 100000000000000 := by rw [hR] at hlen; simp only [List.length_append, bs_len] at hlen; omega
  have hc := fun W (hW : Below w.heap.size w W) => type_any n (.mk k1 nm1 h1 l1) W (TyH.below n hF hW) hl
  obtain ⟨TX, hTX⟩ : ∃ t, t = tyT (.mk k1 nm1 h1 l1) := ⟨_, rfl⟩
  rw [← hTX] at hc hR hl
  have HR := Lib.hid (show fn1 ++ (⟨#[58, 32]⟩ : ByteArray) ++ strB TX = strB R by rw [hR, ← strB_append, ← strB_append, strB_of]; rfl)
  have hz : (strB TX).size ≤ 100000000000000 := by rw [strB_size]; exact hl
  simp only [tyV, tyC] at hc
  simp only [fdV, fdC, tyC]
  replace hc := Lib.hid hc
  obtain ⟨W0, hW0⟩ : ∃ W, W = w.alloc (.cells #[.string fn1, .int .i64 k1, .string nm1, .slice h1.oa l1.length h1.cap] 102) := ⟨_, rfl⟩
  have hx0 : W0.heap[w.heap.size]? = some (.cells #[.string fn1, .int .i64 k1, .string nm1, .slice h1.oa l1.length h1.cap] 102) := by rw [hW0, heap_alloc_new]
  have hb1 : Below w.heap.size w W0 := by rw [hW0]; exact alloc_below _ _
  have hqq : ∀ w', Below W0.heap.size W0 w' → w'.cell? ⟨w.heap.size, 0, none⟩ = some (.string fn1) ∧ w'.cell? ⟨w.heap.size, 1, none⟩ = some (.int .i64 k1) ∧ w'.cell? ⟨w.heap.size, 2, none⟩ = some (.string nm1) ∧ w'.cell? ⟨w.heap.size, 3, none⟩ = some (.slice h1.oa l1.length h1.cap) := fun w' h => by
    have := keepB hx0 h
    simp [World.cell?, this]
  obtain ⟨y0, y1, y2, y3⟩ := hqq W0 (Below.refl _ _)
  have HQ := Lib.hid hqq
  have HB := Lib.hid hb1
  clear hTX hR hl hb1 hF hlen hx0 hqq
  go_enter Tryz.func51, Tryz.ntmps51
  go_upto_region 1 with fail
  rw [← hW0]
  clear hW0
  go_region_with
    (first | (go_at_call 20; refine (hc.out W0.drew HB.out.drew).mono ?_; rintro e w2 ⟨rfl, hb2'⟩; have hb2 := below_undrew hb2'; obtain ⟨z0, z1, z2, z3⟩ := HQ.out w2 hb2; have HB2 := Lib.hid (HB.out.trans (hb2.mono HB.out.size)); clear hb2' hb2))
  all_goals (go_wp2; go_ret; exact ⟨by rw [← HR.out]; first | done | rfl, HB2.out⟩)

set_option maxRecDepth 100000 in
set_option maxHeartbeats 2000000 in
theorem variant_any (n : Nat) (f : Fd5) (w : World) (hF : FdH n w f) (hlen : (vaT f).length ≤ 100000000000000) : Calls Tryz.prog 49 #[fdV f] w fun e w' => e = .returned (.string (strB (vaT f))) ∧ Below w.heap.size w w' := by
  obtain ⟨fn1, ⟨k1, nm1, h1, l1⟩⟩ := f
  obtain ⟨R, hR⟩ : ∃ R, R = vaT ⟨fn1, .mk k1 nm1 h1 l1⟩ := ⟨_, rfl⟩
  rw [← hR] at hlen ⊢
  replace hR : R = if k1 = 0 then bs fn1 else bs fn1 ++ [40] ++ tyT (.mk k1 nm1 h1 l1) ++ [41] := hR
  by_cases hk : k1 = 0
  · subst hk
    have HR := Lib.hid (show fn1 = strB R by rw [hR, if_pos rfl, strB_of])
    have HB := Lib.hid (alloc_below w (.cells #[.string fn1, .int .i64 0, .string nm1, .slice h1.oa l1.length h1.cap] 71))
    clear hR hF hlen
    simp only [fdV, fdC, tyC]
    go_enter Tryz.func49, Tryz.ntmps49
    go_wp2_with fail
    go_ret
    exact ⟨by rw [← HR.out]; first | done | rfl, HB.out⟩
  · rw [if_neg hk] at hR
    have t0 : (k1 == 0) = false := by simpa using hk
    have hl : (tyT (.mk k1 nm1 h1 l1)).length ≤ 100000000000000 := by rw [hR] at hlen; simp only [List.length_append] at hlen; omega
    have hz1 : fn1.size ≤ 100000000000000 := by rw [hR] at hlen; simp only [List.length_append, bs_len] at hlen; omega
    have hc := fun W (hW : Below w.heap.size w W) => type_any n (.mk k1 nm1 h1 l1) W (TyH.below n hF hW) hl
    obtain ⟨TX, hTX⟩ : ∃ t, t = tyT (.mk k1 nm1 h1 l1) := ⟨_, rfl⟩
    rw [← hTX] at hc hR hl
    have HR := Lib.hid (show fn1 ++ (⟨#[40]⟩ : ByteArray) ++ strB TX ++ ⟨#[41]⟩ = strB R by rw [hR, ← strB_append, ← strB_append, ← strB_append, strB_of]; rfl)
    have hz : (strB TX).size ≤ 100000000000000 := by rw [strB_size]; exact hl
    simp only [tyV, tyC] at hc
    simp only [fdV, fdC, tyC]
    replace hc := Lib.hid hc
    obtain ⟨W0, hW0⟩ : ∃ W, W = w.alloc (.cells #[.string fn1, .int .i64 k1, .string nm1, .slice h1.oa l1.length h1.cap] 71) := ⟨_, rfl⟩
    have hx0 : W0.heap[w.heap.size]? = some (.cells #[.string fn1, .int .i64 k1, .string nm1, .slice h1.oa l1.length h1.cap] 71) := by rw [hW0, heap_alloc_new]
    have hb1 : Below w.heap.size w W0 := by rw [hW0]; exact alloc_below _ _
    have hqq : ∀ w', Below W0.heap.size W0 w' → w'.cell? ⟨w.heap.size, 0, none⟩ = some (.string fn1) ∧ w'.cell? ⟨w.heap.size, 1, none⟩ = some (.int .i64 k1) ∧ w'.cell? ⟨w.heap.size, 2, none⟩ = some (.string nm1) ∧ w'.cell? ⟨w.heap.size, 3, none⟩ = some (.slice h1.oa l1.length h1.cap) := fun w' h => by
      have := keepB hx0 h
      simp [World.cell?, this]
    obtain ⟨y0, y1, y2, y3⟩ := hqq W0 (Below.refl _ _)
    have HQ := Lib.hid hqq
    have HB := Lib.hid hb1
    clear hTX hR hl hb1 hF hlen hx0 hqq hk
    go_enter Tryz.func49, Tryz.ntmps49
    go_upto_region 1 with fail
    rw [← hW0]
    clear hW0
    go_upto_region 3 with fail
    go_region_with
      (first | (go_at_call 20; refine (hc.out W0.drew HB.out.drew).mono ?_; rintro e w2 ⟨rfl, hb2'⟩; have hb2 := below_undrew hb2'; obtain ⟨z0, z1, z2, z3⟩ := HQ.out w2 hb2; have HB2 := Lib.hid (HB.out.trans (hb2.mono HB.out.size)); clear hb2' hb2))
    all_goals (go_wp2; go_ret; exact ⟨by rw [← HR.out]; first | done | rfl, HB2.out⟩)

set_option maxRecDepth 100000 in
set_option maxHeartbeats 2000000 in
theorem bound_any (av ab : ByteArray) (ah : Hd) (ay : List St5) (w : World) (hlen : (boundT ab).length ≤ 100000000000000) : Calls Tryz.prog 129 #[arV (.mk av ab ah ay)] w fun e w' => e = .returned (.string (strB (boundT ab))) ∧ Below w.heap.size w w' := by
  have HB := Lib.hid (alloc_below w (.cells #[.string av, .string ab, .slice ah.oa ay.length ah.cap] 107))
  obtain ⟨R, hR⟩ : ∃ R, R = boundT ab := ⟨_, rfl⟩
  rw [← hR] at hlen ⊢
  simp only [arV, arC]
  cases hem : emptyN ab with
  | true =>
    have HR := Lib.hid (show ⟨#[]⟩ = strB R by rw [hR, boundT, hem]; rfl)
    obtain rfl := empty_of hem
    clear hR hem
    go_enter Tryz.func129, Tryz.ntmps129
    go_wp2_with fail
    go_ret
    exact ⟨by rw [← HR.out]; first | done | rfl, HB.out⟩
  | false =>
    rw [boundT, hem, if_neg (by decide)] at hR
    have hz : ab.size ≤ 100000000000000 := by rw [hR] at hlen; simp only [List.length_append, bs_len] at hlen; omega
    have HR := Lib.hid (show (⟨#[40]⟩ : ByteArray) ++ ab ++ ⟨#[41]⟩ = strB R by rw [hR, ← strB_append, ← strB_append, strB_of]; rfl)
    obtain ⟨e1, e2⟩ := empty_no hem
    clear hR hem hlen
    go_enter Tryz.func129, Tryz.ntmps129
    go_wp2_with fail
    go_ret
    exact ⟨by rw [← HR.out]; first | done | rfl, HB.out⟩

set_option maxRecDepth 100000 in
set_option maxHeartbeats 2000000 in
theorem bracesFd_any (n : Nat) (ha : Hd) (la : List Fd5) (w : World) (hA : Row w ha 4 la fdC (FdH n w)) (hlen : (bracesT fieldT la).length ≤ 100000000000000) : Calls Tryz.prog 79 #[.slice ha.oa la.length ha.cap, .func (.func 51) #[] #[]] w fun e w' => e = .returned (.string (strB (bracesT fieldT la))) ∧ Below w.heap.size w w' := by
  obtain ⟨R, hR⟩ : ∃ R, R = bracesT fieldT la := ⟨_, rfl⟩
  rw [← hR] at hlen ⊢
  by_cases h0 : la.length = 0
  · have t0 : ((la.length : Int) == 0) = true := by rw [beq_iff_eq]; omega
    have HR := Lib.hid (show ⟨#[32, 123, 125]⟩ = strB R by rw [hR, bracesT, if_pos h0]; rfl)
    clear hR h0 hA
    go_enter Tryz.func79, Tryz.ntmps79
    go_wp2_with fail
    go_ret
    exact ⟨by rw [← HR.out]; first | done | rfl, Below.refl _ _⟩
  · have t0 : ((la.length : Int) == 0) = false := by rw [beq_eq_false_iff_ne]; omega
    rw [bracesT, if_neg h0] at hR
    have hl : (listT fieldT la).length ≤ 100000000000000 := by rw [hR] at hlen; simp only [List.length_append] at hlen; omega
    have hc := listFd_any 51 enters51 fieldT (fun w x => FdH n w x) (fun w w' x h hb => FdH.below h hb) w (fun x W hx _ hl => field_any n x W hx hl) ha la hA hl
    obtain ⟨TX, hTX⟩ : ∃ t, t = listT fieldT la := ⟨_, rfl⟩
    rw [← hTX] at hc hR hl
    have HR := Lib.hid (show (⟨#[32, 123, 32]⟩ : ByteArray) ++ strB TX ++ ⟨#[32, 125]⟩ = strB R by rw [hR, ← strB_append, ← strB_append]; rfl)
    have hz : (strB TX).size ≤ 100000000000000 := by rw [strB_size]; exact hl
    replace hc := Lib.hid hc
    clear hTX hR hl hA h0 hlen
    go_enter Tryz.func79, Tryz.ntmps79
    go_wp2_with (go_at_call 50; refine hc.out.mono ?_; rintro e w1 ⟨rfl, hb1⟩; have HB1 := Lib.hid hb1; clear hb1)
    go_ret
    exact ⟨by rw [← HR.out]; first | done | rfl, HB1.out⟩

set_option maxRecDepth 100000 in
set_option maxHeartbeats 2000000 in
theorem bracesVa_any (n : Nat) (ha : Hd) (la : List Fd5) (w : World) (hA : Row w ha 4 la fdC (FdH n w)) (hlen : (bracesT vaT la).length ≤ 100000000000000) : Calls Tryz.prog 48 #[.slice ha.oa la.length ha.cap, .func (.func 49) #[] #[]] w fun e w' => e = .returned (.string (strB (bracesT vaT la))) ∧ Below w.heap.size w w' := by
  obtain ⟨R, hR⟩ : ∃ R, R = bracesT vaT la := ⟨_, rfl⟩
  rw [← hR] at hlen ⊢
  by_cases h0 : la.length = 0
  · have t0 : ((la.length : Int) == 0) = true := by rw [beq_iff_eq]; omega
    have HR := Lib.hid (show ⟨#[32, 123, 125]⟩ = strB R by rw [hR, bracesT, if_pos h0]; rfl)
    clear hR h0 hA
    go_enter Tryz.func48, Tryz.ntmps48
    go_wp2_with fail
    go_ret
    exact ⟨by rw [← HR.out]; first | done | rfl, Below.refl _ _⟩
  · have t0 : ((la.length : Int) == 0) = false := by rw [beq_eq_false_iff_ne]; omega
    rw [bracesT, if_neg h0] at hR
    have hl : (listT vaT la).length ≤ 100000000000000 := by rw [hR] at hlen; simp only [List.length_append] at hlen; omega
    have hc := listVa_any 49 enters49 vaT (fun w x => FdH n w x) (fun w w' x h hb => FdH.below h hb) w (fun x W hx _ hl => variant_any n x W hx hl) ha la hA hl
    obtain ⟨TX, hTX⟩ : ∃ t, t = listT vaT la := ⟨_, rfl⟩
    rw [← hTX] at hc hR hl
    have HR := Lib.hid (show (⟨#[32, 123, 32]⟩ : ByteArray) ++ strB TX ++ ⟨#[32, 125]⟩ = strB R by rw [hR, ← strB_append, ← strB_append]; rfl)
    have hz : (strB TX).size ≤ 100000000000000 := by rw [strB_size]; exact hl
    replace hc := Lib.hid hc
    clear hTX hR hl hA h0 hlen
    go_enter Tryz.func48, Tryz.ntmps48
    go_wp2_with (go_at_call 80; refine hc.out.mono ?_; rintro e w1 ⟨rfl, hb1⟩; have HB1 := Lib.hid hb1; clear hb1)
    go_ret
    exact ⟨by rw [← HR.out]; first | done | rfl, HB1.out⟩

set_option maxRecDepth 100000 in
set_option maxHeartbeats 4000000 in
theorem structure_true (n : Nat) (un : ByteArray) (uh : Hd) (uf : List Fd5) (up : Int) (b : Nat) (bs0 : List UInt8) (w0 w : World) (hS : SuH n w0 ⟨un, true, uh, uf, up⟩) (hb0 : Below w0.heap.size w0 w) (h : IsB3 (.int .i64 ((0 : Nat) : Int)) w0.heap.size b (Lib.byteCells bs0) w) (hlen : bs0.length + (structT ⟨un, true, uh, uf, up⟩).length ≤ 100000000000000) :
    Calls Tryz.prog 46 #[.pointer (some ⟨b, 0, none⟩), suV ⟨un, true, uh, uf, up⟩] w fun e w' => e = .returned (.tuple #[]) ∧ IsB3 (.int .i64 ((0 : Nat) : Int)) w0.heap.size b (Lib.byteCells (bs0 ++ structT ⟨un, true, uh, uf, up⟩)) w' ∧ Kp w0.heap.size b w w' := by
  have hT : structT ⟨un, true, uh, uf, up⟩ = lineT 0 [⟨#[100, 114, 111, 112, 32, 115, 116, 114, 117, 99, 116, 32]⟩, un, strB (bracesT fieldT uf)] := rfl
  rw [hT] at hlen ⊢
  have hl : (bracesT fieldT uf).length ≤ 100000000000000 := by
    have := mem_line 0 [⟨#[100, 114, 111, 112, 32, 115, 116, 114, 117, 99, 116, 32]⟩, un, strB (bracesT fieldT uf)] (strB (bracesT fieldT uf)) (by simp)
    rw [strB_size] at this
    omega
  have hc := fun W (hW : Below w0.heap.size w0 W) => bracesFd_any n uh uf W (Row.below hS hW fun _ _ hx => FdH.below hx hW) hl
  generalize strB (bracesT fieldT uf) = TX at hc hlen ⊢
  have HL := Lib.hid (show ∀ (k : Nat) (W : World), IsB3 (.int .i64 ((0 : Nat) : Int)) w0.heap.size b (Lib.byteCells bs0) W → W.heap[k]? = some (.cells #[.string ⟨#[100, 114, 111, 112, 32, 115, 116, 114, 117, 99, 116, 32]⟩, .string un, .string TX] 9) → k ≠ b → w0.heap.size ≤ W.heap.size → Calls Tryz.prog 47 #[.pointer (some ⟨b, 0, none⟩), .slice (some ⟨k, 0, none⟩) 3 3] W fun e w' => e = .returned (.tuple #[]) ∧ IsB3 (.int .i64 ((0 : Nat) : Int)) w0.heap.size b (Lib.byteCells (bs0 ++ lineT 0 [⟨#[100, 114, 111, 112, 32, 115, 116, 114, 117, 99, 116, 32]⟩, un, TX])) w' ∧ Kp w0.heap.size b W w' from fun k W h1 h2 h3 h4 => line_any 0 w0.heap.size b k 3 bs0 [⟨#[100, 114, 111, 112, 32, 115, 116, 114, 117, 99, 116, 32]⟩, un, TX] W h1 h2 h3 h4 (by simp) hlen)
  obtain ⟨RT, hRT⟩ : ∃ R, R = lineT 0 [⟨#[100, 114, 111, 112, 32, 115, 116, 114, 117, 99, 116, 32]⟩, un, TX] := ⟨_, rfl⟩
  rw [← hRT] at HL ⊢
  clear hRT hlen hT hl hS
  simp only [suV, suC]
  obtain ⟨W0, hW0⟩ : ∃ W, W = w.alloc (.cells #[.string un, .bool true, .slice uh.oa uf.length uh.cap, .int .i64 up] 65) := ⟨_, rfl⟩
  have hx0 : W0.heap[w.heap.size]? = some (.cells #[.string un, .bool true, .slice uh.oa uf.length uh.cap, .int .i64 up] 65) := by rw [hW0, heap_alloc_new]
  have hb1 : Below w.heap.size w W0 := by rw [hW0]; exact alloc_below _ _
  have hBs := hb0.size
  have HB := Lib.hid (hb0.trans (hb1.mono hBs))
  have H0 := Lib.hid (h.below hb1)
  have K0 := Lib.hid (Kp.of_below (b := b) hb1 hBs)
  have hlt := h.lt
  replace hc := Lib.hid hc
  have hff : ∀ w' : World, w'.heap[w.heap.size]? = some (.cells #[.string un, .bool true, .slice uh.oa uf.length uh.cap, .int .i64 up] 65) → w'.cell? ⟨w.heap.size, 0, none⟩ = some (.string un) ∧ w'.cell? ⟨w.heap.size, 1, none⟩ = some (.bool true) ∧ w'.cell? ⟨w.heap.size, 2, none⟩ = some (.slice uh.oa uf.length uh.cap) ∧ w'.cell? ⟨w.heap.size, 3, none⟩ = some (.int .i64 up) := fun w' h => by simp [World.cell?, h]
  have hqq : ∀ w', Below W0.heap.size W0 w' → w'.cell? ⟨w.heap.size, 0, none⟩ = some (.string un) ∧ w'.cell? ⟨w.heap.size, 1, none⟩ = some (.bool true) ∧ w'.cell? ⟨w.heap.size, 2, none⟩ = some (.slice uh.oa uf.length uh.cap) ∧ w'.cell? ⟨w.heap.size, 3, none⟩ = some (.int .i64 up) := fun w' h => hff w' (keepB hx0 h)
  obtain ⟨y0, y1, y2, y3⟩ := hqq W0 (Below.refl _ _)
  have HQ := Lib.hid hqq
  have HF := Lib.hid hff
  have HX0 := Lib.hid hx0
  have hbk : w.heap.size ≠ b := by omega
  clear hb1 h hx0 hqq hb0 hff
  go_enter Tryz.func46, Tryz.ntmps46
  go_upto_region 1 with fail
  rw [← hW0]
  clear hW0
  go_upto_region 4 with fail
  go_region_held3 (fun w' => w'.cell? ⟨w.heap.size, 0, none⟩ = some (.string un) ∧ w'.cell? ⟨w.heap.size, 1, none⟩ = some (.bool true) ∧ w'.cell? ⟨w.heap.size, 2, none⟩ = some (.slice uh.oa uf.length uh.cap) ∧ w'.cell? ⟨w.heap.size, 3, none⟩ = some (.int .i64 up)) (first | (refine ⟨?_, ?_, ?_, ?_⟩ <;> assumption) | go_keep)
    (first
      | (go_at_call 79; refine (hc.out W0.drew HB.out.drew).mono ?_; rintro e w2 ⟨rfl, hb2'⟩; have hb2 := below_undrew hb2'; obtain ⟨z0, z1, z2, z3⟩ := HQ.out w2 hb2; have HB2 := Lib.hid (HB.out.trans (hb2.mono HB.out.size)); have H2 := Lib.hid (H0.out.below hb2); have X2 := Lib.hid (keepB HX0.out hb2); have K2 := Lib.hid (K0.out.trans (Kp.of_below (b := b) hb2 HB.out.size)); clear hb2' hb2)
      | (go_at_call 47; refine (HL.out w2.heap.size _ (H2.out.below (alloc_below _ _)) (heap_alloc_new _ _) (by have := H2.out.lt; omega) (Nat.le_trans HB2.out.size (alloc_below _ _).size)).mono ?_; rintro e w5 ⟨rfl, h5, k5⟩; have H5 := Lib.hid h5; have K5 := Lib.hid (K2.out.trans ((Kp.of_below (b := b) (alloc_below _ _) HB2.out.size).trans k5)); have hx5 := kp_block k5 (keepB X2.out (alloc_below _ _)) hbk (by decide); obtain ⟨u0, u1, u2, u3⟩ := HF.out w5 hx5; clear h5 k5 hx5))
  go_wp2
  first | go_end0 | refine bodyPost_ret (results_none rfl _ _ _) rfl ?_
  exact ⟨rfl, H5.out, K5.out⟩

set_option maxRecDepth 100000 in
set_option maxHeartbeats 4000000 in
theorem structure_false (n : Nat) (un : ByteArray) (uh : Hd) (uf : List Fd5) (up : Int) (b : Nat) (bs0 : List UInt8) (w0 w : World) (hS : SuH n w0 ⟨un, false, uh, uf, up⟩) (hb0 : Below w0.heap.size w0 w) (h : IsB3 (.int .i64 ((0 : Nat) : Int)) w0.heap.size b (Lib.byteCells bs0) w) (hlen : bs0.length + (structT ⟨un, false, uh, uf, up⟩).length ≤ 100000000000000) :
    Calls Tryz.prog 46 #[.pointer (some ⟨b, 0, none⟩), suV ⟨un, false, uh, uf, up⟩] w fun e w' => e = .returned (.tuple #[]) ∧ IsB3 (.int .i64 ((0 : Nat) : Int)) w0.heap.size b (Lib.byteCells (bs0 ++ structT ⟨un, false, uh, uf, up⟩)) w' ∧ Kp w0.heap.size b w w' := by
  have hT : structT ⟨un, false, uh, uf, up⟩ = lineT 0 [⟨#[115, 116, 114, 117, 99, 116, 32]⟩, un, strB (bracesT fieldT uf)] := rfl
  rw [hT] at hlen ⊢
  have hl : (bracesT fieldT uf).length ≤ 100000000000000 := by
    have := mem_line 0 [⟨#[115, 116, 114, 117, 99, 116, 32]⟩, un, strB (bracesT fieldT uf)] (strB (bracesT fieldT uf)) (by simp)
    rw [strB_size] at this
    omega
  have hc := fun W (hW : Below w0.heap.size w0 W) => bracesFd_any n uh uf W (Row.below hS hW fun _ _ hx => FdH.below hx hW) hl
  generalize strB (bracesT fieldT uf) = TX at hc hlen ⊢
  have HL := Lib.hid (show ∀ (k : Nat) (W : World), IsB3 (.int .i64 ((0 : Nat) : Int)) w0.heap.size b (Lib.byteCells bs0) W → W.heap[k]? = some (.cells #[.string ⟨#[115, 116, 114, 117, 99, 116, 32]⟩, .string un, .string TX] 9) → k ≠ b → w0.heap.size ≤ W.heap.size → Calls Tryz.prog 47 #[.pointer (some ⟨b, 0, none⟩), .slice (some ⟨k, 0, none⟩) 3 3] W fun e w' => e = .returned (.tuple #[]) ∧ IsB3 (.int .i64 ((0 : Nat) : Int)) w0.heap.size b (Lib.byteCells (bs0 ++ lineT 0 [⟨#[115, 116, 114, 117, 99, 116, 32]⟩, un, TX])) w' ∧ Kp w0.heap.size b W w' from fun k W h1 h2 h3 h4 => line_any 0 w0.heap.size b k 3 bs0 [⟨#[115, 116, 114, 117, 99, 116, 32]⟩, un, TX] W h1 h2 h3 h4 (by simp) hlen)
  obtain ⟨RT, hRT⟩ : ∃ R, R = lineT 0 [⟨#[115, 116, 114, 117, 99, 116, 32]⟩, un, TX] := ⟨_, rfl⟩
  rw [← hRT] at HL ⊢
  clear hRT hlen hT hl hS
  simp only [suV, suC]
  obtain ⟨W0, hW0⟩ : ∃ W, W = w.alloc (.cells #[.string un, .bool false, .slice uh.oa uf.length uh.cap, .int .i64 up] 65) := ⟨_, rfl⟩
  have hx0 : W0.heap[w.heap.size]? = some (.cells #[.string un, .bool false, .slice uh.oa uf.length uh.cap, .int .i64 up] 65) := by rw [hW0, heap_alloc_new]
  have hb1 : Below w.heap.size w W0 := by rw [hW0]; exact alloc_below _ _
  have hBs := hb0.size
  have HB := Lib.hid (hb0.trans (hb1.mono hBs))
  have H0 := Lib.hid (h.below hb1)
  have K0 := Lib.hid (Kp.of_below (b := b) hb1 hBs)
  have hlt := h.lt
  replace hc := Lib.hid hc
  have hff : ∀ w' : World, w'.heap[w.heap.size]? = some (.cells #[.string un, .bool false, .slice uh.oa uf.length uh.cap, .int .i64 up] 65) → w'.cell? ⟨w.heap.size, 0, none⟩ = some (.string un) ∧ w'.cell? ⟨w.heap.size, 1, none⟩ = some (.bool false) ∧ w'.cell? ⟨w.heap.size, 2, none⟩ = some (.slice uh.oa uf.length uh.cap) ∧ w'.cell? ⟨w.heap.size, 3, none⟩ = some (.int .i64 up) := fun w' h => by simp [World.cell?, h]
  have hqq : ∀ w', Below W0.heap.size W0 w' → w'.cell? ⟨w.heap.size, 0, none⟩ = some (.string un) ∧ w'.cell? ⟨w.heap.size, 1, none⟩ = some (.bool false) ∧ w'.cell? ⟨w.heap.size, 2, none⟩ = some (.slice uh.oa uf.length uh.cap) ∧ w'.cell? ⟨w.heap.size, 3, none⟩ = some (.int .i64 up) := fun w' h => hff w' (keepB hx0 h)
  obtain ⟨y0, y1, y2, y3⟩ := hqq W0 (Below.refl _ _)
  have HQ := Lib.hid hqq
  have HF := Lib.hid hff
  have HX0 := Lib.hid hx0
  have hbk : w.heap.size ≠ b := by omega
  clear hb1 h hx0 hqq hb0 hff
  go_enter Tryz.func46, Tryz.ntmps46
  go_upto_region 1 with fail
  rw [← hW0]
  clear hW0
  go_upto_region 4 with fail
  go_region_held3 (fun w' => w'.cell? ⟨w.heap.size, 0, none⟩ = some (.string un) ∧ w'.cell? ⟨w.heap.size, 1, none⟩ = some (.bool false) ∧ w'.cell? ⟨w.heap.size, 2, none⟩ = some (.slice uh.oa uf.length uh.cap) ∧ w'.cell? ⟨w.heap.size, 3, none⟩ = some (.int .i64 up)) (first | (refine ⟨?_, ?_, ?_, ?_⟩ <;> assumption) | go_keep)
    (first
      | (go_at_call 79; refine (hc.out W0.drew HB.out.drew).mono ?_; rintro e w2 ⟨rfl, hb2'⟩; have hb2 := below_undrew hb2'; obtain ⟨z0, z1, z2, z3⟩ := HQ.out w2 hb2; have HB2 := Lib.hid (HB.out.trans (hb2.mono HB.out.size)); have H2 := Lib.hid (H0.out.below hb2); have X2 := Lib.hid (keepB HX0.out hb2); have K2 := Lib.hid (K0.out.trans (Kp.of_below (b := b) hb2 HB.out.size)); clear hb2' hb2)
      | (go_at_call 47; refine (HL.out w2.heap.size _ (H2.out.below (alloc_below _ _)) (heap_alloc_new _ _) (by have := H2.out.lt; omega) (Nat.le_trans HB2.out.size (alloc_below _ _).size)).mono ?_; rintro e w5 ⟨rfl, h5, k5⟩; have H5 := Lib.hid h5; have K5 := Lib.hid (K2.out.trans ((Kp.of_below (b := b) (alloc_below _ _) HB2.out.size).trans k5)); have hx5 := kp_block k5 (keepB X2.out (alloc_below _ _)) hbk (by decide); obtain ⟨u0, u1, u2, u3⟩ := HF.out w5 hx5; clear h5 k5 hx5))
  go_wp2
  first | go_end0 | refine bodyPost_ret (results_none rfl _ _ _) rfl ?_
  exact ⟨rfl, H5.out, K5.out⟩

end Go.Proofs.YtgogdcpgfmndnaaGreatDoor
