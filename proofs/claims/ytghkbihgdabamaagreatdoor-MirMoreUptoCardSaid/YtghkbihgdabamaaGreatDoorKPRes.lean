/-
  Several texts of the proof in one: PBind, PStruct, QRes, PRes. No conditions of their own: each lemma states its own.
-/
import Derived.Test.YtghkbihgdabamaaGreatDoorKPModel
import Derived.Test.YtghkbihgdabamaaGreatDoorKPMade
import Derived.Test.YtghkbihgdabamaaGreatDoorKPRules
import Derived.Deep.RegionWith
namespace Go.Proofs.YtghkbihgdabamaaGreatDoor

end Go.Proofs.YtghkbihgdabamaaGreatDoor

namespace Go.Proofs.YtghkbihgdabamaaGreatDoor
open Go.RowKit

theorem cells4p {w : World} {k : Nat} {v0 v1 v2 v3 : Value} {t : TypeId} (h : w.heap[k]? = some (.cells #[v0, v1, v2, v3] t)) :
    w.cell? ⟨k, 0, none⟩ = some v0 ∧ w.cell? ⟨k, 1, none⟩ = some v1 ∧ w.cell? ⟨k, 2, none⟩ = some v2 ∧ w.cell? ⟨k, 3, none⟩ = some v3 ∧ (∀ j, w.frozen? ⟨k, j, none⟩ = false) ∧ k < w.heap.size := by
  have hl := (Array.getElem?_eq_some_iff.1 h).1
  exact ⟨by simp [World.cell?, h], by simp [World.cell?, h], by simp [World.cell?, h], by simp [World.cell?, h], fun j => by simp [World.frozen?, h], hl⟩
end Go.Proofs.YtghkbihgdabamaaGreatDoor

namespace Go.Proofs.YtghkbihgdabamaaGreatDoor
open Go.RowKit

def suAt (s : So5) (nm : ByteArray) : Int := fiO (fun x => nmB x.nm nm) s.structs 0
def enAt (s : So5) (nm : ByteArray) : Int := fiO (fun x => nmB x.nm nm) s.enums 0
def fnAt (s : So5) (nm : ByteArray) : Int := fiO (fun x => nmB x.nm nm) s.fns 0
/-- the place of what a name of a kind is of -/
def placeO (s : So5) (k : Int) (nm : ByteArray) : Int := if k = 2 then suAt s nm else if k = 3 then enAt s nm else if k = 7 then fnAt s nm else -1
/-- items by search: the source lies in a block of its own -/
def srF (c : Nat) : Value := .func (.func 135) #[] #[.pointer (some ⟨c, 0, none⟩)]
def itV (s : So5) (f : Value) : Value := .agg #[.slice s.hs.oa s.structs.length s.hs.cap, .slice s.he.oa s.enums.length s.he.cap, .slice s.hf.oa s.fns.length s.hf.cap, f]
def SrAt (w : World) (s : So5) (c : Nat) : Prop := w.heap[c]? = some (.cells #[.slice s.hs.oa s.structs.length s.hs.cap, .slice s.he.oa s.enums.length s.he.cap, .slice s.hf.oa s.fns.length s.hf.cap] 26)
theorem SrAt.below {w w' : World} {s : So5} {c : Nat} (h : SrAt w s c) (hb : Below w.heap.size w w') : SrAt w' s c := (hb.block c (Array.getElem?_eq_some_iff.1 h).1).trans h

set_option maxRecDepth 100000 in
set_option maxHeartbeats 4000000 in
theorem searched_any (s : So5) (w : World) : Calls Tryz.prog 112 #[soV s] w fun e w' => e = .returned (itV s (srF w.heap.size)) ∧ Below w.heap.size w w' ∧ SrAt w' s w.heap.size := by
  obtain ⟨hs1, ss, he1, es, hf1, fs⟩ := s
  simp only [soV, itV, SrAt]
  obtain ⟨n1, hn1⟩ : ∃ k, ss.length = k := ⟨_, rfl⟩
  obtain ⟨n2, hn2⟩ : ∃ k, es.length = k := ⟨_, rfl⟩
  obtain ⟨n3, hn3⟩ : ∃ k, fs.length = k := ⟨_, rfl⟩
  rw [hn1, hn2, hn3]
  clear hn1 hn2 hn3
  obtain ⟨W, hW⟩ : ∃ W, W = w.alloc (.cells #[.slice hs1.oa n1 hs1.cap, .slice he1.oa n2 he1.cap, .slice hf1.oa n3 hf1.cap] 26) := ⟨_, rfl⟩
  have hbW : Below w.heap.size w W := by rw [hW]; exact alloc_below _ _
  have hWs : W.heap.size = w.heap.size + 1 := by rw [hW]; simp
  have hX : W.heap[w.heap.size]? = some (.cells #[.slice hs1.oa n1 hs1.cap, .slice he1.oa n2 he1.cap, .slice hf1.oa n3 hf1.cap] 26) := by rw [hW, heap_alloc_new]
  have HX := Lib.hid (And.intro hX (And.intro hbW hWs))
  clear hX hbW hWs
  go_enter Tryz.func112, Tryz.ntmps112
  go_upto_region 1 with fail
  rw [← hW]
  clear hW
  obtain ⟨N, hN⟩ : ∃ N, N = w.heap.size := ⟨_, rfl⟩
  have HN := Lib.hid hN
  have hX1 : (W.alloc (.cells #[.slice none 0 0, .slice none 0 0, .slice none 0 0, .nilFunc] 176)).heap[N]? = some (.cells #[.slice hs1.oa n1 hs1.cap, .slice he1.oa n2 he1.cap, .slice hf1.oa n3 hf1.cap] 26) := ((alloc_below W _).block N (by rw [HX.out.2.2, HN.out]; omega)).trans (by rw [HN.out]; exact HX.out.1)
  have HNW := Lib.hid (show (W.alloc (.cells #[.slice none 0 0, .slice none 0 0, .slice none 0 0, .nilFunc] 176)).heap[N + 1]? = some (.cells #[.slice none 0 0, .slice none 0 0, .slice none 0 0, .nilFunc] 176) by rw [HN.out, ← HX.out.2.2]; exact heap_alloc_new _ _)
  obtain ⟨z0, z1, z2, zf, zl⟩ := cells3p hX1
  rw [← hN]
  try simp only [← hN]
  clear hN hX1
  go_wp2_with (go_loud (refine wpList_store_box rfl 176 (.tmp 2) (.tmp 5) rfl (N + 1) 0 rfl (.agg #[.slice hs1.oa n1 hs1.cap, .slice he1.oa n2 he1.cap, .slice hf1.oa n3 hf1.cap, .func (.func 135) #[] #[.pointer (some ⟨N, 0, none⟩)]]) rfl [.slice hs1.oa n1 hs1.cap, .slice he1.oa n2 he1.cap, .slice hf1.oa n3 hf1.cap, .func (.func 135) #[] #[.pointer (some ⟨N, 0, none⟩)]] rfl [.slice none 0 0, .slice none 0 0, .slice none 0 0, .nilFunc] 176 HNW.out (Nat.le_refl _) (show (Tryz.prog.info? 176).map (·.size) = some 4 by kernel_rfl) ?c1 (N + 1) (Nat.le_refl _) (W.alloc (.cells #[.slice none 0 0, .slice none 0 0, .slice none 0 0, .nilFunc] 176)) (Below.refl _ _) ?_))
  case c1 => first | exact ⟨rfl, rfl, rfl, rfl⟩ | (intro v hv; simp at hv; rcases hv with rfl | rfl | rfl | rfl <;> rfl)
  intro W2 hb hbx hoth
  have hb2 : Below W.heap.size W W2 := (alloc_below W _).trans (hb.mono (by rw [HX.out.2.2, HN.out]; exact Nat.le_refl _))
  have hz1 : Below w.heap.size w W2 := HX.out.2.1.trans (hb2.mono (by have := HX.out.2.2; omega))
  have hz2 : W2.heap[N]? = some (.cells #[.slice hs1.oa n1 hs1.cap, .slice he1.oa n2 he1.cap, .slice hf1.oa n3 hf1.cap] 26) := (hb2.block N (by have := HX.out.2.2; have := HN.out; omega)).trans (by rw [HN.out]; exact HX.out.1)
  have HF := Lib.hid (And.intro hz1 hz2)
  clear hz1 hz2
  obtain ⟨q0, q1, q2, q3, qf, ql⟩ := cells4p hbx
  clear hb hoth hb2 hbx
  go_wp2
  refine bodyPost_ret (v := .agg #[.slice hs1.oa n1 hs1.cap, .slice he1.oa n2 he1.cap, .slice hf1.oa n3 hf1.cap, .func (.func 135) #[] #[.pointer (some ⟨N, 0, none⟩)]]) (by simp [results, Tryz.results112, go_sem, q0, q1, q2, q3]) rfl (by rw [← HN.out]; exact ⟨rfl, by rw [HN.out]; exact HF.out.1, HF.out.2⟩)

set_option maxRecDepth 100000 in
set_option maxHeartbeats 4000000 in
theorem place_sr (n : Nat) (s : So5) (k : Int) (nm : ByteArray) (c : Nat) (w : World) (hs : SoH n w s) (hc : SrAt w s c) :
    Calls Tryz.prog 135 #[.agg #[.int .i64 k, .string nm], .pointer (some ⟨c, 0, none⟩)] w fun e w' => e = .returned (.int .i64 (placeO s k nm)) ∧ Below w.heap.size w w' := by
  have hlt : c < w.heap.size := (Array.getElem?_eq_some_iff.1 hc).1
  obtain ⟨W, hW⟩ : ∃ W, W = w.alloc (.cells #[.int .i64 k, .string nm] 197) := ⟨_, rfl⟩
  have hbW : Below w.heap.size w W := by rw [hW]; exact alloc_below _ _
  have hX : W.heap[w.heap.size]? = some (.cells #[.int .i64 k, .string nm] 197) := by rw [hW, heap_alloc_new]
  have hsW := SoH.below hs hbW
  have h1 := SuOf_any n s nm W hsW
  have h2 := EnOf_any n s nm W hsW
  have h3 := FnOf_any n s nm W hsW
  have hcW := hc.below hbW
  obtain ⟨N, hN⟩ : ∃ N, N = w.heap.size := ⟨_, rfl⟩
  rw [← hN] at hX
  have HN := Lib.hid hN
  obtain ⟨p0, p1, pf, pl⟩ := cells2p hX
  obtain ⟨R, hR⟩ : ∃ R, R = placeO s k nm := ⟨_, rfl⟩
  rw [← hR]
  unfold placeO suAt enAt fnAt at hR
  have HB := Lib.hid hbW
  have HR := Lib.hid hR
  obtain ⟨hs1, ss, he1, es, hf1, fs⟩ := s
  unfold SrAt at hcW
  simp only [soV] at h1 h2 h3
  obtain ⟨z0, z1, z2, zf, zl⟩ := cells3p hcW
  have H1 := Lib.hid h1
  have H2 := Lib.hid h2
  have H3 := Lib.hid h3
  clear hbW hR h1 h2 h3 hs hc hcW hsW hX
  by_cases k1 : k = 2
  · subst k1
    have HV := Lib.hid (HR.out.trans (if_pos rfl))
    clear HR
    go_enter Tryz.func135, Tryz.ntmps135
    go_upto_region 1 with fail
    rw [← hW]
    clear hW
    try simp only [← hN]
    clear hN
    go_wp2_with (go_at_call 82; refine H1.out.mono ?_; rintro e w1 ⟨rfl, hb1⟩; have B1 := Lib.hid (HB.out.trans (hb1.mono HB.out.size)); clear hb1)
    go_ret
    exact ⟨by rw [HV.out]; rfl, B1.out⟩
  have e1 : (k == 2) = false := by simpa using k1
  by_cases k2 : k = 3
  · subst k2
    have HV := Lib.hid (HR.out.trans ((if_neg (by decide)).trans (if_pos rfl)))
    clear HR
    go_enter Tryz.func135, Tryz.ntmps135
    go_upto_region 1 with fail
    rw [← hW]
    clear hW
    try simp only [← hN]
    clear hN
    go_wp2_with (go_at_call 136; refine H2.out.mono ?_; rintro e w1 ⟨rfl, hb1⟩; have B1 := Lib.hid (HB.out.trans (hb1.mono HB.out.size)); clear hb1)
    go_ret
    exact ⟨by rw [HV.out]; rfl, B1.out⟩
  have e2 : (k == 3) = false := by simpa using k2
  by_cases k3 : k = 7
  · subst k3
    have HV := Lib.hid (HR.out.trans ((if_neg (by decide)).trans ((if_neg (by decide)).trans (if_pos rfl))))
    clear HR
    go_enter Tryz.func135, Tryz.ntmps135
    go_upto_region 1 with fail
    rw [← hW]
    clear hW
    try simp only [← hN]
    clear hN
    go_wp2_with (go_at_call 137; refine H3.out.mono ?_; rintro e w1 ⟨rfl, hb1⟩; have B1 := Lib.hid (HB.out.trans (hb1.mono HB.out.size)); clear hb1)
    go_ret
    exact ⟨by rw [HV.out]; rfl, B1.out⟩
  have e3 : (k == 7) = false := by simpa using k3
  have HV := Lib.hid (HR.out.trans ((if_neg k1).trans ((if_neg k2).trans (if_neg k3))))
  clear HR k1 k2 k3
  go_enter Tryz.func135, Tryz.ntmps135
  go_upto_region 1 with fail
  rw [← hW]
  clear hW
  try simp only [← hN]
  clear hN
  go_wp2
  go_ret
  exact ⟨by rw [HV.out]; rfl, HB.out⟩

end Go.Proofs.YtghkbihgdabamaaGreatDoor

namespace Go.Proofs.YtghkbihgdabamaaGreatDoor
open Go.RowKit

/-- A store of many cells, as one operation. -/
theorem wp_store_box {P : Program} {op : Oper} {a : Act} {w : World} {K : Act → World → Prop} {Q : Exit → Act → World → Prop} (ty : TypeId) (x y : Operand) (ho : op.op = .store ty x y) (b o : Nat)
    (hx : a.eval x = .pointer (some ⟨b, o, none⟩)) (v : Value) (hy : a.eval y = v) (vs : List Value) (hv : v.cells = vs.toArray) (cs : List Value) (t : TypeId) (hbox : w.heap[b]? = some (.cells cs.toArray t)) (hlen : o + vs.length ≤ cs.length)
    (hi : (P.info? ty).map (·.size) = some vs.length) (h1 : ∀ v ∈ vs, v.oneCell' = true) (B : Nat) (hB : B ≤ b) (w0 : World) (hb0 : Below B w0 w)
    (h : ∀ W, Below B w0 W → W.heap[b]? = some (.cells (splL cs o vs).toArray t) → (∀ k, k ≠ b → W.heap[k]? = w.heap[k]?) → K (a.put op.dst undef) W) : op.wp P a w K Q := by
  unfold Oper.wp execOp
  have hr := run_storeVar_box (P := P) w b o ty v vs hv (there_box hbox o _ hlen) hi h1
  simp only [ho, hx, hy, Instr.storeAt, Instr.sureAddr, Sem.run_bind, Sem.run_pure, Result.andThen_ok, hr]
  exact h _ (below_setCells B b hB _ _ _ _ hb0) (heap_setCells b t vs o w cs hbox) (fun k hk => heap_setCells_other b k hk vs o w)
end Go.Proofs.YtghkbihgdabamaaGreatDoor
