/-
  step without fuel of package machine. Conditions: the session lies in the heap; the instruction is one that may be run.
-/
import Derived.Test.YtgpkhdccchpljaaDoorKJStepped
namespace Go.Proofs.YtgpkhdccchpljaaDoor
open Go.RowKit
open M (Wd MS RepAt Owned Kept Turned loadR storeR copyR clearR freeR allocR)
open C (In)

set_option maxRecDepth 100000 in
set_option maxHeartbeats 4000000 in
theorem step_dry {w0 w : World} {L : Ly} {c : Cx} {s : Se} (H : SesAt w0 w L c s) (hf : s.fuel ≤ 0) :
    Calls Tryd.prog 40 #[.pointer (some ⟨L.sk, 0, none⟩)] w fun e w' => e = .returned (outV ⟨4, 0⟩) ∧ Turns w0 w w' L c s s := by
  obtain ⟨W, hW⟩ : ∃ W, W = w.alloc (.cells #[.int .i64 0, .int .i64 0] 41) := ⟨_, rfl⟩
  have hbW : Below w.heap.size w W := by rw [hW]; exact C.alloc_below _ _
  have hx0 : W.heap[w.heap.size]? = some (.cells #[.int .i64 0, .int .i64 0] 41) := by rw [hW, heap_alloc_new]
  have HS := H.under hbW
  have hses := HS.ses
  obtain ⟨up, hup⟩ : ∃ up, upV L.rb = up := ⟨_, rfl⟩
  rw [sesC, hup] at hses
  obtain ⟨z0, z1, z2, z3, zf, zl⟩ := cells4m hses
  obtain ⟨fu, hfu⟩ : ∃ fu, s.fuel = fu := ⟨_, rfl⟩
  rw [hfu] at z2 hf
  have hd0 : decide (fu ≤ 0) = true := by simpa using hf
  obtain ⟨B, hB⟩ : ∃ B, B = w.heap.size := ⟨_, rfl⟩
  have hBw : w.heap.size ≤ B := Nat.le_of_eq hB.symm
  rw [← hB] at hx0
  have hBl : B < W.heap.size := (Array.getElem?_eq_some_iff.1 hx0).1
  have hw00 := H.below.size
  go_enter Tryd.func40, Tryd.ntmps40
  go_upto_region 1 with fail
  rw [← hW]
  try simp only [← hB]
  clear hW
  replace hB := Lib.hid hB
  have hTW := Turns.same H hbW
  clear hf hfu HS hbW H hses hup
  obtain ⟨hfz, hfin⟩ := Turns.out hTW hw00 (by omega) hx0 (.int .i64 4) (.int .i64 0)
  replace hfz := Lib.hid hfz
  replace hfin := Lib.hid hfin
  obtain ⟨r0, r1, rf, rl⟩ := cells2 hx0
  clear hTW hx0
  go_wp2
  have hf := hfz.out
  clear hfz
  generalize (World.setCell (World.setCell W _ _) _ _) = WF at hf hfin ⊢
  obtain ⟨q0, q1, qf, ql⟩ := cells2 hf
  exact bodyPost_ret (v := outV ⟨4, 0⟩) (by simp [results, Tryd.results40, go_sem, q0, q1, outV]) rfl ⟨rfl, hfin.out⟩
end Go.Proofs.YtgpkhdccchpljaaDoor
