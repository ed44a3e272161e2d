/-
  What a reader's panic comes to: read, and its deferred closure. Conditions: the tokens lie in the heap.
-/
import Derived.Test.YtggdpgaedmegbaaGreatDoorJPSrc
import Derived.Recover
import Derived.KernelRfl
namespace Go.Proofs.YtggdpgaedmegbaaGreatDoor
open Go.RowKit

theorem rd_not_nil (W : World) (u : TypeId) (v : Value) : (binOp .eql 20 (.iface u v) .nilIface).run Tryz.prog W = .ok (.bool false) W := by kernel_rfl
theorem rd_assert (W : World) (v : Value) : (Instr.typeAssert (.iface 173 v) 20 173 true).run Tryz.prog W = .ok (.tuple #[v, .bool true]) W := by kernel_rfl
set_option maxRecDepth 100000 in
set_option maxHeartbeats 4000000 in
theorem read_caught (p q r : Nat) (er : Int) (ps : Nat) (older : List PanicEntry) (w : World) {v0 v1 v2 v3 v4 : Value} (hp : w.heap[p]? = some (.cells #[v0, v1, v2] 27)) (hq : w.heap[q]? = some (.cells #[v3] 28)) (hr : w.heap[r]? = some (.cells #[v4] 3)) (hpq : p < q) (hqr : q < r) :
    CallsD Tryz.prog 91 #[.pointer (some ⟨p, 0, none⟩), .pointer (some ⟨q, 0, none⟩), .pointer (some ⟨r, 0, none⟩)] (.panicking ({ v := .iface 173 (.agg #[.int .i64 er, .int .i64 ps]), recovered := false } :: older)) w fun e u' w' =>
      e = .returned (.tuple #[]) ∧ u' = .panicking ({ v := .iface 173 (.agg #[.int .i64 er, .int .i64 ps]), recovered := true } :: older) ∧ Below p w w' ∧ w'.heap[p]? = some (.cells #[.slice none 0 0, .slice none 0 0, .slice none 0 0] 27) ∧ w'.heap[q]? = some (.cells #[.int .i64 er] 28) ∧ w'.heap[r]? = some (.cells #[.int .i64 ps] 3) := by
  have h0 := rd_not_nil
  have h1 := rd_assert
  refine callsD_of_wpS Tryz.func91 rfl fun c₀ cs hu => ?_
  apply wpS_seq
  apply wpS_region
  simp [wpOpsS, go_sem, recoverD, hu, Tryz.ntmps91, Exit.thenS]
  refine wpS_of_wp ?_
  obtain ⟨a0, a1, a2, af, al⟩ := cells3p hp
  obtain ⟨b0, bf, bl⟩ := cells1p hq
  obtain ⟨c0, cf, cl⟩ := cells1p hr
  go_upto_region 7 with fail
  clear a0 a1 a2 af al b0 bf bl c0 cf cl h0 h1
  obtain ⟨W, hW⟩ : ∃ W, W = w.alloc (.cells #[.int .i64 er, .int .i64 ps] 173) := ⟨_, rfl⟩
  rw [← hW]
  have hbW : Below w.heap.size w W := by rw [hW]; exact alloc_below _ _
  have hz : W.heap[w.heap.size]? = some (.cells #[.int .i64 er, .int .i64 ps] 173) := by rw [hW, heap_alloc_new]
  have hp1 := (hbW.block p (blk_lt hp)).trans hp
  have hq1 := (hbW.block q (blk_lt hq)).trans hq
  have hr1 := (hbW.block r (blk_lt hr)).trans hr
  have hrN := blk_lt hr
  have HB := Lib.hid hbW
  clear hW hbW hp hq hr
  obtain ⟨N, hN⟩ : ∃ N, N = w.heap.size := ⟨_, rfl⟩
  rw [← hN] at hz hrN
  simp only [← hN]
  have HN := Lib.hid hN
  clear hN
  obtain ⟨a0, a1, a2, af, al⟩ := cells3p hp1
  obtain ⟨b0, bf, bl⟩ := cells1p hq1
  obtain ⟨c0, cf, cl⟩ := cells1p hr1
  obtain ⟨z0, z1, zf, zl⟩ := cells2p hz
  have n1 : p ≠ q := by omega
  have n2 : q ≠ r := by omega
  have n3 : p ≠ r := by omega
  have n4 : N ≠ p := by omega
  have n5 : N ≠ q := by omega
  have n6 : N ≠ r := by omega
  go_region
  all_goals
    refine (show ∀ WF : World, Below p w WF → WF.heap[p]? = some (.cells #[.slice none 0 0, .slice none 0 0, .slice none 0 0] 27) → WF.heap[q]? = some (.cells #[.int .i64 er] 28) → WF.heap[r]? = some (.cells #[.int .i64 ps] 3) → Exit.inBlock 0 _ Exit.normal _ WF from ?_) _ ?_ ?_ ?_ ?_
    · intro WF b1 f1 f2 f3
      simp +zetaDelta [Exit.inBlock, bodyPostS, results, Tryz.results91, go_sem, b1, f1, f2, f3]
    · refine Below.drew ?_
      repeat (refine Below.setCell ?_ ?_ _; rotate_left; (dsimp only; omega))
      exact HB.out.mono (by have := HN.out; omega)
    · simp [World.setCell, World.drew, Array.getElem?_modify, hp1, n1, n2, n3, Ne.symm n1, Ne.symm n2, Ne.symm n3]
    · simp [World.setCell, World.drew, Array.getElem?_modify, hq1, n1, n2, n3, Ne.symm n1, Ne.symm n2, Ne.symm n3]
    · simp [World.setCell, World.drew, Array.getElem?_modify, hr1, n1, n2, n3, Ne.symm n1, Ne.symm n2, Ne.symm n3]
set_option maxRecDepth 100000 in
set_option maxHeartbeats 8000000 in
theorem read_idle (p q r : Nat) (w : World) :
    CallsD Tryz.prog 91 #[.pointer (some ⟨p, 0, none⟩), .pointer (some ⟨q, 0, none⟩), .pointer (some ⟨r, 0, none⟩)] .returning w fun e u' w' => e = .returned (.tuple #[]) ∧ u' = .returning ∧ w' = w := by
  refine callsD_of_wpS Tryz.func91 rfl fun c₀ cs hu => ?_
  apply wpS_seq
  apply wpS_region
  simp [wpOpsS, go_sem, recoverD, hu, Tryz.ntmps91, Exit.thenS]
  refine wpS_of_wp ?_
  have h0 : ∀ W : World, (binOp .eql 20 .nilIface .nilIface).run Tryz.prog W = .ok (.bool true) W := fun W => by kernel_rfl
  go_wp2
  cases c₀
  simp_all +zetaDelta [Exit.inBlock, bodyPostS, results, Tryz.results91]
end Go.Proofs.YtggdpgaedmegbaaGreatDoor
