/-
  ParseCuts' walk: true of any text. Conditions: the package variables lie as the program's text lays them.
-/
import Derived.Test.YthmiapolpohklaaGreatDoorJPWorks
import Derived.Test.YthmiapolpohklaaGreatDoorJPNz
namespace Go.Proofs.YthmiapolpohklaaGreatDoor
open Go.RowKit

set_option maxRecDepth 100000 in
set_option maxHeartbeats 4000000 in
theorem cuts_long (s : ByteArray) (w : World) (hV : Vars w) (hs : ¬ s.size ≤ 3000) : Calls Tryz.prog 7 #[.string s] w fun e w' => e = .returned (.bool true) ∧ Below w.heap.size w w' := by
  have t1 : decide ((s.size : Int) > 3000) = true := by simp; omega
  have HV := Lib.hid hV
  clear hV hs
  go_enter Tryz.func7, Tryz.ntmps7
  go_wp2_with (go_at_call 8; refine (works_any w HV.out).mono ?_; rintro e W1 ⟨rfl, hb1⟩; have HB1 := Lib.hid hb1; clear hb1)
  go_ret
  exact ⟨rfl, HB1.out⟩
set_option maxRecDepth 100000 in
set_option maxHeartbeats 4000000 in
theorem cuts_bad (s : ByteArray) (w : World) (hV : Vars w) (hs : s.size ≤ 3000) {er : Int} {q : Nat} (hl : lexL (bs s) = .bad er q) : Calls Tryz.prog 7 #[.string s] w fun e w' => e = .returned (.bool true) ∧ Below w.heap.size w w' := by
  have hp : parseR s = .no er q := by unfold parseR; rw [hl]
  have hne : (er != 0) = true := by simpa using lexL_bad hl
  have t1 : decide ((s.size : Int) > 3000) = false := by simp; omega
  have HV := Lib.hid hV
  have HL := Lib.hid hl
  have HP := Lib.hid hp
  clear hV hs hl hp
  go_enter Tryz.func7, Tryz.ntmps7
  go_upto_region 8 with
    (first
      | (go_at_call 8; refine (works_any w HV.out).mono ?_; rintro e W1 ⟨rfl, hb1⟩; have HB1 := Lib.hid hb1; clear hb1)
      | (go_at_call 12; refine (lex_any s W1 (HV.out.b HB1.out)).mono ?_; rintro e W2 ⟨h1, hb1⟩; unfold LexOut at h1; rw [HL.out] at h1; simp only at h1; subst h1; have HB2 := Lib.hid (HB1.out.trans (hb1.mono HB1.out.size)); clear hb1)
      | (go_at_call 9; refine (parse_any s W2 (HV.out.b HB2.out)).mono ?_; rintro e W3 ⟨hb1, h1⟩; unfold ReadOut at h1; rw [HP.out] at h1; simp only at h1; subst h1; have HB3 := Lib.hid (HB2.out.trans (hb1.mono HB2.out.size)); clear hb1)
      | (refine wpList_store_box rfl 27 (.tmp 7) (.tmp 30) rfl W3.heap.size 0 rfl (.agg #[.slice none 0 0, .slice none 0 0, .slice none 0 0]) rfl [.slice none 0 0, .slice none 0 0, .slice none 0 0] rfl [.slice none 0 0, .slice none 0 0, .slice none 0 0] 27 (heap_alloc_new W3 (.cells #[.slice none 0 0, .slice none 0 0, .slice none 0 0] 27)) (Nat.le_refl _) (show (Tryz.prog.info? 27).map (·.size) = some 3 by kernel_rfl) ?c1 W3.heap.size (Nat.le_refl _) (W3.alloc (.cells #[.slice none 0 0, .slice none 0 0, .slice none 0 0] 27)) (Below.refl _ _) ?_; rotate_left; intro W4 hb hbx hoth))
  case c1 => first | exact ⟨rfl, rfl, rfl⟩ | (intro v hv; simp at hv; first | (rcases hv with rfl | rfl | rfl <;> rfl) | (subst hv; rfl))
  have hb4 : Below W3.heap.size W3 W4 := (alloc_below W3 (.cells #[.slice none 0 0, .slice none 0 0, .slice none 0 0] 27)).trans hb
  have HB4 := Lib.hid (HB3.out.trans (hb4.mono HB3.out.size))
  clear hb hbx hoth hb4
  go_wp2
  go_ret
  exact ⟨rfl, HB4.out⟩
set_option maxRecDepth 100000 in
set_option maxHeartbeats 4000000 in
theorem cuts_no (s : ByteArray) (w : World) (hV : Vars w) (hs : s.size ≤ 3000) {ts : List Tok} (hl : lexL (bs s) = .good ts) {er : Int} {q : Nat} (hp : parseR s = .no er q) : Calls Tryz.prog 7 #[.string s] w fun e w' => e = .returned (.bool true) ∧ Below w.heap.size w w' := by
  have hne : (er != 0) = true := by simpa using parse_nz hp
  have t1 : decide ((s.size : Int) > 3000) = false := by simp; omega
  have HV := Lib.hid hV
  have HL := Lib.hid hl
  have HP := Lib.hid hp
  obtain ⟨m, hm⟩ : ∃ m, ts.length + 1 = m := ⟨_, rfl⟩
  have HM := Lib.hid hm
  clear hV hs hl hp hm
  go_enter Tryz.func7, Tryz.ntmps7
  go_upto_region 8 with
    (first
      | (go_at_call 8; refine (works_any w HV.out).mono ?_; rintro e W1 ⟨rfl, hb1⟩; have HB1 := Lib.hid hb1; clear hb1)
      | (go_at_call 12; refine (lex_any s W1 (HV.out.b HB1.out)).mono ?_; rintro e W2 ⟨h1, hb1⟩; unfold LexOut at h1; rw [HL.out] at h1; simp only at h1; obtain ⟨gg, cap, h1, hg, hta⟩ := h1; subst h1; rw [HM.out]; have HTA := Lib.hid hta; have HB2 := Lib.hid (HB1.out.trans (hb1.mono HB1.out.size)); clear hb1 hta hg)
      | (go_at_call 9; refine (parse_any s W2 (HV.out.b HB2.out)).mono ?_; rintro e W3 ⟨hb1, h1⟩; unfold ReadOut at h1; rw [HP.out] at h1; simp only at h1; subst h1; have HB3 := Lib.hid (HB2.out.trans (hb1.mono HB2.out.size)); clear hb1)
      | (refine wpList_store_box rfl 27 (.tmp 7) (.tmp 30) rfl W3.heap.size 0 rfl (.agg #[.slice none 0 0, .slice none 0 0, .slice none 0 0]) rfl [.slice none 0 0, .slice none 0 0, .slice none 0 0] rfl [.slice none 0 0, .slice none 0 0, .slice none 0 0] 27 (heap_alloc_new W3 (.cells #[.slice none 0 0, .slice none 0 0, .slice none 0 0] 27)) (Nat.le_refl _) (show (Tryz.prog.info? 27).map (·.size) = some 3 by kernel_rfl) ?c1 W3.heap.size (Nat.le_refl _) (W3.alloc (.cells #[.slice none 0 0, .slice none 0 0, .slice none 0 0] 27)) (Below.refl _ _) ?_; rotate_left; intro W4 hb hbx hoth))
  case c1 => first | exact ⟨rfl, rfl, rfl⟩ | (intro v hv; simp at hv; first | (rcases hv with rfl | rfl | rfl <;> rfl) | (subst hv; rfl))
  have hb4 : Below W3.heap.size W3 W4 := (alloc_below W3 (.cells #[.slice none 0 0, .slice none 0 0, .slice none 0 0] 27)).trans hb
  have HB4 := Lib.hid (HB3.out.trans (hb4.mono HB3.out.size))
  clear hb hbx hoth hb4
  go_wp2
  go_ret
  exact ⟨rfl, HB4.out⟩
set_option maxRecDepth 100000 in
set_option maxHeartbeats 4000000 in
theorem cuts_none (s : ByteArray) (w : World) (hV : Vars w) (hs : s.size ≤ 3000) (hl : lexL (bs s) = .good []) {x : So5} {r : List Tok} (hp : parseR s = .ok x r) : Calls Tryz.prog 7 #[.string s] w fun e w' => e = .returned (.bool true) ∧ Below w.heap.size w w' := by
  have t1 : decide ((s.size : Int) > 3000) = false := by simp; omega
  have HV := Lib.hid hV
  have HL := Lib.hid hl
  have HP := Lib.hid hp
  clear hV hs hl hp
  go_enter Tryz.func7, Tryz.ntmps7
  go_upto_region 8 with
    (first
      | (go_at_call 8; refine (works_any w HV.out).mono ?_; rintro e W1 ⟨rfl, hb1⟩; have HB1 := Lib.hid hb1; clear hb1)
      | (go_at_call 12; refine (lex_any s W1 (HV.out.b HB1.out)).mono ?_; rintro e W2 ⟨h1, hb1⟩; unfold LexOut at h1; rw [HL.out] at h1; simp only at h1; obtain ⟨gg, cap, h1, hg, hta⟩ := h1; subst h1; simp only [List.length_nil, Nat.zero_add]; have HTA := Lib.hid hta; have HB2 := Lib.hid (HB1.out.trans (hb1.mono HB1.out.size)); clear hb1 hta hg)
      | (go_at_call 9; refine (parse_any s W2 (HV.out.b HB2.out)).mono ?_; rintro e W3 ⟨hb1, h1⟩; unfold ReadOut at h1; rw [HP.out] at h1; simp only at h1; obtain ⟨⟨y1, x1, y2, x2, y3, x3⟩, rfl, -, -⟩ := h1; simp only [soV]; have HB3 := Lib.hid (HB2.out.trans (hb1.mono HB2.out.size)); clear hb1)
      | (refine wpList_store_box rfl 27 (.tmp 7) (.tmp 30) rfl W3.heap.size 0 rfl (.agg #[.slice y1.oa x1.length y1.cap, .slice y2.oa x2.length y2.cap, .slice y3.oa x3.length y3.cap]) rfl [.slice y1.oa x1.length y1.cap, .slice y2.oa x2.length y2.cap, .slice y3.oa x3.length y3.cap] rfl [.slice none 0 0, .slice none 0 0, .slice none 0 0] 27 (heap_alloc_new W3 (.cells #[.slice none 0 0, .slice none 0 0, .slice none 0 0] 27)) (Nat.le_refl _) (show (Tryz.prog.info? 27).map (·.size) = some 3 by kernel_rfl) ?c1 W3.heap.size (Nat.le_refl _) (W3.alloc (.cells #[.slice none 0 0, .slice none 0 0, .slice none 0 0] 27)) (Below.refl _ _) ?_; rotate_left; intro W4 hb hbx hoth))
  case c1 => first | exact ⟨rfl, rfl, rfl⟩ | (intro v hv; simp at hv; first | (rcases hv with rfl | rfl | rfl <;> rfl) | (subst hv; rfl))
  have hb4 : Below W3.heap.size W3 W4 := (alloc_below W3 (.cells #[.slice none 0 0, .slice none 0 0, .slice none 0 0] 27)).trans hb
  have HB4 := Lib.hid (HB3.out.trans (hb4.mono HB3.out.size))
  clear hb hbx hoth hb4
  go_wp2
  go_ret
  exact ⟨rfl, HB4.out⟩
set_option maxRecDepth 100000 in
set_option maxHeartbeats 4000000 in
theorem cuts_main (s : ByteArray) (w : World) (hV : Vars w) (hs : s.size ≤ 3000) {us : List Tok} {t : Tok} (hl : lexL (bs s) = .good (us ++ [t])) {x : So5} {r : List Tok} (hp : parseR s = .ok x r) : Calls Tryz.prog 7 #[.string s] w fun e w' => e = .returned (.bool true) ∧ Below w.heap.size w w' := by
  obtain ⟨hrb, hpos, hcut⟩ := parse_cut hl hp
  have HCUT := Lib.hid hcut
  have hlen : us.length + 1 ≤ 3000 := by
    have h1 := lexT_len (lexL_good hl).2
    rw [bs_size] at h1
    simp at h1
    omega
  have t1 : decide ((s.size : Int) > 3000) = false := by simp; omega
  have HV := Lib.hid hV
  have HL := Lib.hid hl
  have HP := Lib.hid hp
  obtain ⟨k, hk⟩ : ∃ k, us.length = k := ⟨_, rfl⟩
  have HK := Lib.hid hk
  have hk1 : (k : Int) + 2 ≤ 3001 := by omega
  have hk0 : (0 : Int) ≤ k := by omega
  have hk2 : (k : Int) < (k : Int) + 2 := by omega
  have hk3 : decide ((k : Int) + 2 < 2) = false := by simp; omega
  have hlt : (t.pos : Int) ≤ s.size := by omega
  have hl0 : (0 : Int) ≤ t.pos := by omega
  have HRB := Lib.hid hrb
  have HPS := Lib.hid hpos
  clear hV hs hl hp hk hcut hrb hlen hpos
  go_enter Tryz.func7, Tryz.ntmps7
  go_upto_region 8 with
    (first
      | (go_at_call 8; refine (works_any w HV.out).mono ?_; rintro e W1 ⟨rfl, hb1⟩; have HB1 := Lib.hid hb1; clear hb1)
      | (go_at_call 12; refine (lex_any s W1 (HV.out.b HB1.out)).mono ?_; rintro e W2 ⟨h1, hb1⟩; unfold LexOut at h1; rw [HL.out] at h1; simp only at h1; obtain ⟨gg, cap, h1, hg, hta⟩ := h1; subst h1; rw [show (us ++ [t]).length + 1 = k + 2 by rw [← HK.out]; simp]; have HTA := Lib.hid hta; have HB2 := Lib.hid (HB1.out.trans (hb1.mono HB1.out.size)); clear hb1 hta hg)
      | (go_at_call 9; refine (parse_any s W2 (HV.out.b HB2.out)).mono ?_; rintro e W3 ⟨hb1, h1⟩; unfold ReadOut at h1; rw [HP.out] at h1; simp only at h1; obtain ⟨⟨y1, x1, y2, x2, y3, x3⟩, rfl, -, -⟩ := h1; simp only [soV]; have HB3 := Lib.hid (HB2.out.trans (hb1.mono HB2.out.size)); have HTA3 := Lib.hid (HTA.out.below hb1); clear hb1)
      | (refine wpList_store_box rfl 27 (.tmp 7) (.tmp 30) rfl W3.heap.size 0 rfl (.agg #[.slice y1.oa x1.length y1.cap, .slice y2.oa x2.length y2.cap, .slice y3.oa x3.length y3.cap]) rfl [.slice y1.oa x1.length y1.cap, .slice y2.oa x2.length y2.cap, .slice y3.oa x3.length y3.cap] rfl [.slice none 0 0, .slice none 0 0, .slice none 0 0] 27 (heap_alloc_new W3 (.cells #[.slice none 0 0, .slice none 0 0, .slice none 0 0] 27)) (Nat.le_refl _) (show (Tryz.prog.info? 27).map (·.size) = some 3 by kernel_rfl) ?c1 W3.heap.size (Nat.le_refl _) (W3.alloc (.cells #[.slice none 0 0, .slice none 0 0, .slice none 0 0] 27)) (Below.refl _ _) ?_; rotate_left; intro W4 hb hbx hoth))
  case c1 => first | exact ⟨rfl, rfl, rfl⟩ | (intro v hv; simp at hv; first | (rcases hv with rfl | rfl | rfl <;> rfl) | (subst hv; rfl))
  have hb4 : Below W3.heap.size W3 W4 := (alloc_below W3 (.cells #[.slice none 0 0, .slice none 0 0, .slice none 0 0] 27)).trans hb
  have HB4 := Lib.hid (HB3.out.trans (hb4.mono HB3.out.size))
  have HTA4 := Lib.hid (HTA3.out.below hb4)
  clear hb hbx hoth hb4
  obtain ⟨a0, a1, a2, a3⟩ := HTA4.out.2 k t (by rw [← HK.out]; simp)
  go_upto_region 11 with fail
  clear a0 a1 a2 a3
  have hcs : (s.extract 0 t.pos).size = t.pos := by rw [ByteArray.size_extract]; have := HPS.out; omega
  go_upto_region 12 with
    (first
      | (go_at_call 9; refine (parse_any (s.extract 0 t.pos) W4 (HV.out.b HB4.out)).mono ?_; rintro e W5 ⟨hb1, h1⟩; unfold ReadOut at h1; rw [HCUT.out] at h1; simp only at h1; subst h1; have HB5 := Lib.hid (HB4.out.trans (hb1.mono HB4.out.size)); have HTA5 := Lib.hid (HTA4.out.below hb1); clear hb1)
      | (refine wpList_store_box rfl 27 (.tmp 11) (.tmp 57) rfl W5.heap.size 0 rfl (.agg #[.slice none 0 0, .slice none 0 0, .slice none 0 0]) rfl [.slice none 0 0, .slice none 0 0, .slice none 0 0] rfl [.slice none 0 0, .slice none 0 0, .slice none 0 0] 27 (heap_alloc_new W5 (.cells #[.slice none 0 0, .slice none 0 0, .slice none 0 0] 27)) (Nat.le_refl _) (show (Tryz.prog.info? 27).map (·.size) = some 3 by kernel_rfl) ?c2 W5.heap.size (Nat.le_refl _) (W5.alloc (.cells #[.slice none 0 0, .slice none 0 0, .slice none 0 0] 27)) (Below.refl _ _) ?_; rotate_left; intro W6 hb hbx hoth))
  case c2 => first | exact ⟨rfl, rfl, rfl⟩ | (intro v hv; simp at hv; first | (rcases hv with rfl | rfl | rfl <;> rfl) | (subst hv; rfl))
  have hb6 : Below W5.heap.size W5 W6 := (alloc_below W5 (.cells #[.slice none 0 0, .slice none 0 0, .slice none 0 0] 27)).trans hb
  have HB6 := Lib.hid (HB5.out.trans (hb6.mono HB5.out.size))
  obtain ⟨a0, a1, a2, a3⟩ := (HTA5.out.below hb6).2 k t (by rw [← HK.out]; simp)
  have hsx : ((strB t.text).toList == [125]) = true := by rw [HRB.out, strB_toList]; decide
  clear hb hbx hoth hb6
  go_wp2
  go_ret
  exact ⟨by first | rfl | trivial, HB6.out⟩
theorem cuts_walk (s : ByteArray) (w : World) (hV : Vars w) : Calls Tryz.prog 7 #[.string s] w fun e w' => e = .returned (.bool true) ∧ Below w.heap.size w w' := by
  by_cases hs : s.size ≤ 3000
  · cases hl : lexL (bs s) with
    | bad er q => exact cuts_bad s w hV hs hl
    | good ts =>
      cases hp : parseR s with
      | no er q => exact cuts_no s w hV hs hl hp
      | ok x r =>
        rcases List.eq_nil_or_concat ts with rfl | ⟨us, t, rfl⟩
        · exact cuts_none s w hV hs hl hp
        · exact cuts_main s w hV hs (by simpa using hl) hp
  · exact cuts_long s w hV hs
end Go.Proofs.YthmiapolpohklaaGreatDoor
