/-
  Looks at one byte of package lexis; small lemmas on boxes and rows. No conditions but on lengths.
-/
import Derived.Test.YtgogdcpgfmndnaaGreatDoorRows
import Derived.Test.YtgogdcpgfmndnaaGreatDoorNPlain
import Derived.WalkKit
import Derived.WalkSpells
import Derived.WalkLawsBesides
import Derived.Deep.QuietTactic
import Derived.BigQuiet
import Derived.Handy
import Derived.Lib.Hide
import Derived.Lib.Strings
import Derived.Lib.Walk
import Derived.Laws.Strings3
import Derived.Laws.Strings2
import Derived.BigCall
import Derived.BigGuard
import Derived.Deep.RegionHeld3
import Derived.Shelf.Abstract
namespace Go.Proofs.YtgogdcpgfmndnaaGreatDoor
open Go.RowKit

def smallB (c : UInt8) : Bool := decide (97 ≤ c.toNat ∧ c.toNat ≤ 122)

theorem small_any (c : UInt8) (w : World) : Calls Tryz.prog 150 #[.int .u8 c.toNat] w fun e w' => e = .returned (.bool (smallB c)) ∧ w' = w := by
  have e : smallB c = (decide ((c.toNat : Int) ≥ 97) && decide ((c.toNat : Int) ≤ 122)) := by rw [Bool.eq_iff_iff]; simp [smallB] <;> omega
  rw [e]
  clear e
  generalize (c.toNat : Int) = z
  cases t0 : decide (z ≥ 97) <;> cases t1 : decide (z ≤ 122)
  all_goals
    go_enter Tryz.func150, Tryz.ntmps150
    go_wp2
    go_ret
    exact ⟨by simp, rfl⟩

theorem great_any (c : UInt8) (w : World) : Calls Tryz.prog 120 #[.int .u8 c.toNat] w fun e w' => e = .returned (.bool (greatB c)) ∧ w' = w := by
  have e : greatB c = (decide ((c.toNat : Int) ≥ 65) && decide ((c.toNat : Int) ≤ 90)) := by rw [Bool.eq_iff_iff]; simp [greatB] <;> omega
  rw [e]
  clear e
  generalize (c.toNat : Int) = z
  cases t0 : decide (z ≥ 65) <;> cases t1 : decide (z ≤ 90)
  all_goals
    go_enter Tryz.func120, Tryz.ntmps120
    go_wp2
    go_ret
    exact ⟨by simp, rfl⟩

theorem digit_any (c : UInt8) (w : World) : Calls Tryz.prog 153 #[.int .u8 c.toNat] w fun e w' => e = .returned (.bool (digitB c)) ∧ w' = w := by
  have e : digitB c = (decide ((c.toNat : Int) ≥ 48) && decide ((c.toNat : Int) ≤ 57)) := by rw [Bool.eq_iff_iff]; simp [digitB] <;> omega
  rw [e]
  clear e
  generalize (c.toNat : Int) = z
  cases t0 : decide (z ≥ 48) <;> cases t1 : decide (z ≤ 57)
  all_goals
    go_enter Tryz.func153, Tryz.ntmps153
    go_wp2
    go_ret
    exact ⟨by simp, rfl⟩

theorem rdigit_any (c : UInt8) (w : World) : Calls Tryz.prog 111 #[.int .u8 c.toNat] w fun e w' => e = .returned (.bool (digitB c)) ∧ w' = w := by
  have e : digitB c = (decide ((c.toNat : Int) ≥ 48) && decide ((c.toNat : Int) ≤ 57)) := by rw [Bool.eq_iff_iff]; simp [digitB] <;> omega
  rw [e]
  clear e
  generalize (c.toNat : Int) = z
  cases t0 : decide (z ≥ 48) <;> cases t1 : decide (z ≤ 57)
  all_goals
    go_enter Tryz.func111, Tryz.ntmps111
    go_wp2
    go_ret
    exact ⟨by simp, rfl⟩

theorem rletter_any (c : UInt8) (w : World) : Calls Tryz.prog 110 #[.int .u8 c.toNat] w fun e w' => e = .returned (.bool (letterB c)) ∧ w' = w := by
  have e : letterB c = (decide ((c.toNat : Int) ≥ 97) && decide ((c.toNat : Int) ≤ 122) || decide ((c.toNat : Int) ≥ 65) && decide ((c.toNat : Int) ≤ 90)) := by rw [Bool.eq_iff_iff]; simp [letterB] <;> omega
  rw [e]
  clear e
  generalize (c.toNat : Int) = z
  cases t0 : decide (z ≥ 97) <;> cases t1 : decide (z ≤ 122) <;> cases t2 : decide (z ≥ 65) <;> cases t3 : decide (z ≤ 90)
  all_goals
    go_enter Tryz.func110, Tryz.ntmps110
    go_wp2
    go_ret
    exact ⟨by simp, rfl⟩

theorem letterB_eq (c : UInt8) : letterB c = (smallB c || greatB c) := rfl

theorem letter_any (c : UInt8) (w : World) : Calls Tryz.prog 136 #[.int .u8 c.toNat] w fun e w' => e = .returned (.bool (letterB c)) ∧ w' = w := by
  have h1 := small_any c
  have h2 := great_any c
  rw [letterB_eq]
  generalize smallB c = b1 at h1 ⊢
  generalize greatB c = b2 at h2 ⊢
  replace h1 := Lib.hid h1
  replace h2 := Lib.hid h2
  cases b1
  all_goals
    go_enter Tryz.func136, Tryz.ntmps136
    go_wp2_with (first
      | (go_at_call 150; refine (h1.out _).mono ?_; rintro e w1 ⟨rfl, rfl⟩)
      | (go_at_call 120; refine (h2.out _).mono ?_; rintro e w1 ⟨rfl, rfl⟩))
    go_ret
    exact ⟨by simp, rfl⟩

theorem name_byte_any (c : UInt8) (w : World) : Calls Tryz.prog 152 #[.int .u8 c.toNat] w fun e w' => e = .returned (.bool (nameB c)) ∧ w' = w := by
  have h1 := letter_any c
  have h2 := digit_any c
  have e : nameB c = (letterB c || digitB c || ((c.toNat : Int) == 95)) := by
    have e3 : decide (c.toNat = 95) = ((c.toNat : Int) == 95) := by rw [Bool.eq_iff_iff]; simp <;> omega
    rw [nameB, e3]
  rw [e]
  clear e
  generalize letterB c = b1 at h1 ⊢
  generalize digitB c = b2 at h2 ⊢
  replace h1 := Lib.hid h1
  replace h2 := Lib.hid h2
  obtain ⟨z, hz⟩ : ∃ z : Int, z = (c.toNat : Int) := ⟨_, rfl⟩
  rw [← hz] at h1 h2 ⊢
  clear hz
  cases b1 <;> cases b2 <;> cases t : (z == 95)
  all_goals
    go_enter Tryz.func152, Tryz.ntmps152
    go_wp2_with (first
      | (go_at_call 136; refine (h1.out _).mono ?_; rintro e w1 ⟨rfl, rfl⟩)
      | (go_at_call 153; refine (h2.out _).mono ?_; rintro e w1 ⟨rfl, rfl⟩))
    go_ret
    exact ⟨by simp, rfl⟩

/-- A text's bytes. -/
abbrev bs (s : ByteArray) : List UInt8 := s.data.toList

theorem bs_len (s : ByteArray) : (bs s).length = s.size := (Lib.size_eq s).symm

theorem byte_at (s : ByteArray) (j : Nat) (h : j < s.size) : ∃ c r, (bs s).drop j = c :: r ∧ r = (bs s).drop (j + 1) ∧ s[j] = c := by
  have hl : j < (bs s).length := by rw [bs_len]; exact h
  refine ⟨(bs s)[j], (bs s).drop (j + 1), List.drop_eq_getElem_cons hl, rfl, ?_⟩
  obtain ⟨⟨l⟩⟩ := s
  rfl

theorem run_byte (s : ByteArray) (j : Nat) (c : UInt8) (h : j < s.size) (hc : s[j] = c) (W : World) : (Instr.index 9 (.string s) (.int .i64 j)).run Tryz.prog W = .ok (.int .u8 c.toNat) W := by
  rw [run_index_string W 9 s .i64 j Tryz.underlying9, dif_pos ⟨by omega, by omega⟩]
  subst hc
  rfl

set_option maxHeartbeats 1000000 in
theorem behind_any (s : ByteArray) (hs : s.size ≤ 4611686018427387904) (F : Nat) (g : UInt8 → Bool) (hE : ∀ args w, (callFunc F args).run Tryz.prog w = .ok (.enter F args) w)
    (hF : ∀ c w, Calls Tryz.prog F #[.int .u8 (UInt8.toNat c)] w fun e w' => e = .returned (.bool (g c)) ∧ w' = w) (p : Nat) (hp : p ≤ s.size) (w : World) :
    Calls Tryz.prog 151 #[.string s, .int .i64 p, .func (.func F) #[] #[]] w fun e w' => e = .returned (.int .i64 ((p + spanN g ((bs s).drop p) : Nat))) ∧ w' = w := by
  replace hF := Lib.hid hF
  go_enter Tryz.func151, Tryz.ntmps151
  go_wp2_with fail
  go_loopw [1] (fun u wr => ∃ j : Nat, p ≤ j ∧ j ≤ s.size ∧ u = .int .i64 j ∧ j + spanN g ((bs s).drop j) = p + spanN g ((bs s).drop p) ∧ wr = w) (fun u _ => s.size - (intOf u).toNat)
  case atStart => exact ⟨p, by omega, by omega, rfl, rfl, rfl⟩
  case round =>
    obtain ⟨j, hpj, hj, rfl, hsp, rfl⟩ := hrel
    have HSP := Lib.hid hsp
    clear hsp
    by_cases hjl : j < s.size
    · have t1 : decide ((j : Int) < s.size) = true := by simp; omega
      obtain ⟨c, r, h1, h2, h3⟩ := byte_at s j hjl
      have hi := run_byte s j c hjl h3
      have H1 := Lib.hid h1
      have H2 := Lib.hid h2
      clear h1 h2 h3
      cases hg : g c with
      | true =>
        have HG := Lib.hid hg
        clear hg
        go_wp2_with (go_at_fn F; refine (hF.out c _).mono ?_; rintro e w1 ⟨rfl, rfl⟩; rw [HG.out])
        go_roundw
        case rel =>
          refine ⟨j + 1, by omega, by omega, by go_num, ?_, by trivial⟩
          rw [← HSP.out, H1.out, ← H2.out]
          simp only [spanN, HG.out, if_true]
          omega
        case measure => simp [intOf]; omega
      | false =>
        have HG := Lib.hid hg
        clear hg
        go_wp2_with (go_at_fn F; refine (hF.out c _).mono ?_; rintro e w1 ⟨rfl, rfl⟩; rw [HG.out])
        go_ret
        refine ⟨?_, rfl⟩
        rw [← HSP.out, H1.out]
        simp [spanN, HG.out]
    · have t1 : decide ((j : Int) < s.size) = false := by simp; omega
      obtain rfl : j = s.size := by omega
      go_wp2
      go_ret
      refine ⟨?_, rfl⟩
      rw [← HSP.out, List.drop_eq_nil_of_le (by rw [bs_len]; omega)]
      simp [spanN]

theorem enters152 (args : Array Value) (w : World) : (callFunc 152 args).run Tryz.prog w = .ok (.enter 152 args) w := Go.Proofs.enters_of Tryz.func152 (by kernel_rfl) rfl args w

theorem behindName_any (s : ByteArray) (hs : s.size ≤ 4611686018427387904) (p : Nat) (hp : p ≤ s.size) (w : World) :
    Calls Tryz.prog 137 #[.string s, .int .i64 p] w fun e w' => e = .returned (.int .i64 ((p + spanN nameB ((bs s).drop p) : Nat))) ∧ w' = w := by
  have hb := Lib.hid (behind_any s hs 152 nameB enters152 name_byte_any p hp)
  go_enter Tryz.func137, Tryz.ntmps137
  go_wp2_with (go_at_call 151; refine (hb.out _).mono ?_; rintro e w1 ⟨rfl, rfl⟩)
  go_ret
  exact ⟨rfl, rfl⟩

theorem info_parts {t : TypeId} {z : Value} {size bytes : Nat} (h : (Tryz.prog.info? t).map (fun i => (i.zero, i.size, i.bytes)) = some (some z, size, bytes)) : ∃ i, Tryz.prog.info? t = some i ∧ i.zero = some z ∧ i.size = size ∧ i.bytes = bytes := by
  cases hi : Tryz.prog.info? t with
  | none => rw [hi] at h; cases h
  | some i =>
    rw [hi] at h
    simp only [Option.map_some, Option.some.injEq, Prod.mk.injEq] at h
    exact ⟨i, rfl, h.1, h.2.1, h.2.2⟩

theorem alloc_below (w : World) (o : Obj) : Below w.heap.size w (w.alloc o) := (Below.refl _ _).alloc (Nat.le_refl _) o

theorem alloc_cell (w : World) (c : Array Value) (t : TypeId) (j : Nat) (v : Value) (hv : c[j]? = some v) : (w.alloc (.cells c t)).cell? ⟨w.heap.size, j, none⟩ = some v := by
  simp only [World.cell?]
  rw [heap_alloc_new]
  simpa using hv

theorem box_below {w w1 : World} {o : Obj} (hb : Below (w.alloc o).heap.size (w.alloc o) w1) : Below w.heap.size w w1 :=
  ((Below.refl _ _).alloc (Nat.le_refl _) o).trans (hb.mono (by simp))

theorem keepB {w w' : World} {k : Nat} {o : Obj} (h : w.heap[k]? = some o) (hb : Below w.heap.size w w') : w'.heap[k]? = some o := (hb.block _ (Array.getElem?_eq_some_iff.1 h).1).trans h

theorem new_cells (w : World) (l : List Value) (t : TypeId) (g : Nat) (hg : g = w.heap.size) : ∀ j u, l[j]? = some u → (w.alloc (.cells l.toArray t)).cell? ((⟨g, 0, none⟩ : Addr).add j) = some u := by
  intro j u hu
  subst hg
  have e : ((⟨w.heap.size, 0, none⟩ : Addr).add j) = ⟨w.heap.size, j, none⟩ := by unfold Addr.add; split <;> simp_all
  rw [e]
  exact alloc_cell w l.toArray t j u (by simpa using hu)

theorem row_shape {w : World} {base e size n : Nat} {v : Value} {xs : List Value} (h : w.ownsRow base e size v n xs) : ∃ og g cap, v = .slice og n cap ∧ (0 < n → og = some ⟨g, 0, none⟩) := by
  rcases h.2 with ⟨rfl, rfl⟩ | ⟨g, cap, cur, rfl, _⟩
  · exact ⟨none, 0, 0, rfl, fun h => absurd h (Nat.lt_irrefl _)⟩
  · exact ⟨_, g, cap, rfl, fun _ => rfl⟩

theorem row_below {base e size n : Nat} {w w' : World} {v : Value} {xs : List Value} (hb : Below w.heap.size w w') (h : w.ownsRow base e size v n xs) : w'.ownsRow base e size v n xs := by
  refine ⟨h.1, ?_⟩
  rcases h.2 with hn | ⟨g, cap, cur, rfl, hbb, hgg, rest⟩
  · exact .inl hn
  · exact .inr ⟨g, cap, cur, rfl, hbb, (hb.block _ (Array.getElem?_eq_some_iff.1 hgg).1).trans hgg, rest⟩

theorem own_cells {w : World} {base e size g cap n : Nat} {xs : List Value} (h : w.ownsRow base e size (.slice (some ⟨g, 0, none⟩) n cap) n xs) : g < w.heap.size ∧ base ≤ g ∧ (∀ i u, xs[i]? = some u → w.cell? ⟨g, i, none⟩ = some u) ∧ ∀ i, w.frozen? ⟨g, i, none⟩ = false := by
  rcases h.2 with ⟨hv, _⟩ | ⟨g', cap', cur, hv, hbb, hgg, h1, h2, h3, h4⟩
  · cases hv
  · cases hv
    refine ⟨(Array.getElem?_eq_some_iff.1 hgg).1, hbb, fun i u hu => ?_, fun i => by simp [World.frozen?, hgg]⟩
    have hi : i < n * size := by have := (List.getElem?_eq_some_iff.1 hu).1; rw [h.1] at this; exact this
    rw [← h4, List.getElem?_take_of_lt hi] at hu
    simp only [World.cell?, hgg]
    simpa using hu

theorem cells4 {w : World} {k : Nat} {v0 v1 v2 v3 : Value} {t : TypeId} (h : w.heap[k]? = some (.cells #[v0, v1, v2, v3] t)) :
    w.cell? ⟨k, 0, none⟩ = some v0 ∧ w.cell? ⟨k, 1, none⟩ = some v1 ∧ w.cell? ⟨k, 2, none⟩ = some v2 ∧ w.cell? ⟨k, 3, none⟩ = some v3 ∧ (∀ j, w.frozen? ⟨k, j, none⟩ = false) ∧ k < w.heap.size := by
  have hl := (Array.getElem?_eq_some_iff.1 h).1
  exact ⟨by simp [World.cell?, h], by simp [World.cell?, h], by simp [World.cell?, h], by simp [World.cell?, h], fun j => by simp [World.frozen?, h], hl⟩

theorem heap_setCell_same (w : World) (b j : Nat) (c : Array Value) (t : TypeId) (v : Value) (h : w.heap[b]? = some (.cells c t)) : (w.setCell ⟨b, j, none⟩ v).heap[b]? = some (.cells (c.setIfInBounds j v) t) := by
  simp [World.setCell, Array.getElem?_modify, h]

theorem set4 {w : World} {k : Nat} {v0 v1 v2 v3 u0 u1 u2 u3 : Value} {t : TypeId} (h : w.heap[k]? = some (.cells #[v0, v1, v2, v3] t)) :
    ((((w.setCell ⟨k, 0, none⟩ u0).setCell ⟨k, 1, none⟩ u1).setCell ⟨k, 2, none⟩ u2).setCell ⟨k, 3, none⟩ u3).heap[k]? = some (.cells #[u0, u1, u2, u3] t) := by
  have h1 := heap_setCell_same w k 0 _ t u0 h
  have h2 := heap_setCell_same _ k 1 _ t u1 h1
  have h3 := heap_setCell_same _ k 2 _ t u2 h2
  have h4 := heap_setCell_same _ k 3 _ t u3 h3
  simpa using h4

theorem set4_below {B k : Nat} {w0 w : World} {u0 u1 u2 u3 : Value} (h : Below B w0 w) (hk : B ≤ k) : Below B w0 ((((w.setCell ⟨k, 0, none⟩ u0).setCell ⟨k, 1, none⟩ u1).setCell ⟨k, 2, none⟩ u2).setCell ⟨k, 3, none⟩ u3) :=
  (((h.setCell hk _).setCell hk _).setCell hk _).setCell hk _

theorem below_undrew {w w' : World} (h : Below w.drew.heap.size w.drew w') : Below w.heap.size w w' := ⟨h.os, h.tape, h.output, h.size, h.block⟩

/-- A piece of a text as a string. -/
def strB (l : List UInt8) : ByteArray := ⟨l.toArray⟩

theorem strB_bs (l : List UInt8) : bs (strB l) = l := by simp [bs, strB]

theorem strB_size (l : List UInt8) : (strB l).size = l.length := by rw [Lib.size_eq]; simp [strB]

theorem strB_of (s : ByteArray) : strB (bs s) = s := by cases s; simp [bs, strB]

theorem extract_strB (s : ByteArray) (a b : Nat) : s.extract a b = strB (((bs s).drop a).take (b - a)) := by
  rw [← strB_of (s.extract a b), bs, Lib.extract_data]

theorem strB_inj {a b : List UInt8} (h : strB a = strB b) : a = b := by
  have := congrArg bs h
  rwa [strB_bs, strB_bs] at this

def resL : List (List UInt8) := [[115, 116, 114, 117, 99, 116], [101, 110, 117, 109], [99, 111], [108, 101, 116], [105, 102], [101, 108, 115, 101], [119, 104, 105, 108, 101], [109, 97, 116, 99, 104], [121, 105, 101, 108, 100], [114, 101, 116, 117, 114, 110], [112, 114, 105, 110, 116], [100, 114, 111, 112], [98, 111, 120], [117, 110, 98, 111, 120], [115, 116, 97, 114, 116], [97, 119, 97, 105, 116], [112, 111, 108, 108], [119, 97, 105, 116], [109, 117, 116], [105, 110, 116]]
end Go.Proofs.YtgogdcpgfmndnaaGreatDoor
