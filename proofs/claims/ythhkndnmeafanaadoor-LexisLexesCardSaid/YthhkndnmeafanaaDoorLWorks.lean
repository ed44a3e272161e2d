/-
  The document's examples of lexis come out. Conditions: the package variables lie as the program's text lays them.
-/
import Derived.Test.YthhkndnmeafanaaDoorLLex
import Derived.Test.YthhkndnmeafanaaDoorLRes
namespace Go.Proofs.YthhkndnmeafanaaDoor
open Go.RowKit

def exToks : List Tok := [⟨1, [120], 0, 0⟩, ⟨3, [46], 0, 1⟩, ⟨3, [42], 0, 2⟩, ⟨3, [61], 0, 3⟩, ⟨3, [45], 0, 4⟩, ⟨2, [49], 1, 5⟩, ⟨3, [59], 0, 6⟩]
theorem ex_good : lexL [120, 46, 42, 61, 45, 49, 59] = .good exToks := by kernel_rfl
theorem ex_bad : lexL [97, 61, 61, 62, 98] = .bad 40 3 := by kernel_rfl

set_option maxRecDepth 100000 in
set_option maxHeartbeats 4000000 in
theorem works_any (w : World) (hV : Vars w) : Calls Tryd.prog 9 #[] w fun e w' => e = .returned (.bool true) ∧ Below w.heap.size w w' := by
  have h1 : ∀ w, Vars w → Calls Tryd.prog 10 #[.string ⟨#[120, 46, 42, 61, 45, 49, 59]⟩] w fun e w' => (∃ g cap, e = .returned (.tuple #[.slice (some ⟨g, 0, none⟩) 8 cap, .int .i64 0, .int .i64 0]) ∧ ToksAt w' g (exToks ++ [⟨0, [], 0, 7⟩])) ∧ Below w.heap.size w w' := fun w hV => (lex_any _ w hV).mono fun e w' h => by
    obtain ⟨h, hb⟩ := h
    rw [LexOut, show bs ⟨#[120, 46, 42, 61, 45, 49, 59]⟩ = [120, 46, 42, 61, 45, 49, 59] from rfl, ex_good] at h
    obtain ⟨g, cap, he, _, ht⟩ := h
    exact ⟨⟨g, cap, he, ht⟩, hb⟩
  have h2 : ∀ w, Vars w → Calls Tryd.prog 10 #[.string ⟨#[97, 61, 61, 62, 98]⟩] w fun e w' => e = .returned (.tuple #[.slice none 0 0, .int .i64 40, .int .i64 3]) ∧ Below w.heap.size w w' := fun w hV => (lex_any _ w hV).mono fun e w' h => by
    obtain ⟨h, hb⟩ := h
    rw [LexOut, show bs ⟨#[97, 61, 61, 62, 98]⟩ = [97, 61, 61, 62, 98] from rfl, ex_bad] at h
    exact ⟨h, hb⟩
  have h3 : ∀ w, Calls Tryd.prog 13 #[.string ⟨#[97, 95, 49]⟩] w fun e w' => e = .returned (.bool true) ∧ w' = w := word_any _
  have h4 : ∀ w, Calls Tryd.prog 15 #[.string ⟨#[65, 98]⟩] w fun e w' => e = .returned (.bool true) ∧ w' = w := upper_any _
  have h5 : ∀ w, Calls Tryd.prog 15 #[.string ⟨#[97, 98]⟩] w fun e w' => e = .returned (.bool false) ∧ w' = w := upper_any _
  have h6 : ∀ w, Vars w → Calls Tryd.prog 17 #[.string ⟨#[99, 111]⟩] w fun e w' => e = .returned (.bool true) ∧ w' = w := reserved_any _
  replace h1 := Lib.hid h1
  replace h2 := Lib.hid h2
  replace h3 := Lib.hid h3
  replace h4 := Lib.hid h4
  replace h5 := Lib.hid h5
  replace h6 := Lib.hid h6
  have HV := Lib.hid hV
  clear hV
  go_enter Tryd.func9, Tryd.ntmps9
  go_wp2_with fail
  refine (h1.out _ HV.out).mono ?_
  rintro e w1 ⟨⟨g, cap, rfl, ht⟩, hb1⟩
  have HV1 := Lib.hid (HV.out.b hb1)
  have HT1 := Lib.hid ht
  have HB1 := Lib.hid hb1
  clear ht hb1
  go_wp2_with fail
  refine (h2.out _ HV1.out).mono ?_
  rintro e w2 ⟨rfl, hb2⟩
  have HV2 := Lib.hid (HV1.out.b hb2)
  have hT2 := HT1.out.below hb2
  have HB2 := Lib.hid (HB1.out.trans (hb2.mono HB1.out.size))
  obtain ⟨-, -, c2, c3⟩ := hT2.2 5 _ rfl
  clear hb2 hT2
  go_wp2_with (first
    | (go_at_call 13; refine (h3.out _).mono ?_; rintro e w3 ⟨rfl, rfl⟩)
    | (go_at_call_of 15 (Value.string ⟨#[65, 98]⟩); refine (h4.out _).mono ?_; rintro e w3 ⟨rfl, rfl⟩)
    | (go_at_call_of 15 (Value.string ⟨#[97, 98]⟩); refine (h5.out _).mono ?_; rintro e w3 ⟨rfl, rfl⟩)
    | (go_at_call 17; refine (h6.out _ HV2.out).mono ?_; rintro e w3 ⟨rfl, rfl⟩))
  go_returns
  exact ⟨rfl, HB2.out⟩
end Go.Proofs.YthhkndnmeafanaaDoor
