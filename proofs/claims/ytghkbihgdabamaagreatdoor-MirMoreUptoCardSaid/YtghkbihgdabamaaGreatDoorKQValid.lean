/-
  mir's locals: may all locals be. Conditions: the view, its source and its body lie in the heap; types are not too large.
-/
import Derived.Test.YtghkbihgdabamaaGreatDoorKQAllB
namespace Go.Proofs.YtghkbihgdabamaaGreatDoor
open Go.RowKit

def emB (s : ByteArray) : Bool := s.toList.isEmpty
def lastB (s : So5) (n : Nat) (l : List Lo) : Option Lo → Bool
  | some lo => emB lo.nm && (numB lo.ty && l.all (localB s n))
  | none => false
def localsB (s : So5) (n : Nat) (b : Bo) : Bool := if b.locals.length = 0 ∨ 201 < b.locals.length ∨ plB b.params b.locals.length = false then false else lastB s n b.locals b.locals[b.locals.length - 1]?
theorem info_lo : (Tryz.prog.info? 66).map (·.size) = some 4 := by kernel_rfl
set_option maxRecDepth 100000 in
set_option maxHeartbeats 40000000 in
theorem locals_any (n : Nat) (s : So5) (b : Bo) (v : Nat) (w : World) (hs : SoH n w s) (hv : ViewAt w v s b) (hb : BoH n w b) (hbn : BoN b) :
    Calls Tryz.prog 35 #[.pointer (some ⟨v, 0, none⟩)] w fun e w' => e = .returned (.bool (localsB s n b)) ∧ Below w.heap.size w w' := by
  obtain ⟨R, hR⟩ : ∃ R, localsB s n b = R := ⟨_, rfl⟩
  rw [hR]
  unfold localsB at hR
  have hal := fun W (h1 : Below w.heap.size w W) => allL_any v (localB s n) (fun V x => LoH n V x ∧ tyN x.ty ≤ 1000000) (fun _ _ _ h hb => ⟨LoH.below h.1 hb, h.2⟩) W (fun z V hz hV => local_any n s b v z V (SoH.below hs (h1.trans (hV.mono h1.size))) (hv.below (h1.trans (hV.mono h1.size))) hz.1 hz.2) b.hl b.locals (Row.below hb.2.1 h1 fun x hx h => ⟨LoH.below h h1, hbn x hx⟩)
  have hpl := fun W => isPlace_any b.params (b.locals.length : Int) W
  obtain ⟨AB, hAB⟩ : ∃ R, b.locals.all (localB s n) = R := ⟨_, rfl⟩
  obtain ⟨hl1, hl2, hl3, hl4⟩ := hb.2.1
  obtain ⟨nl, hnl⟩ : ∃ n, b.locals.length = n := ⟨_, rfl⟩
  obtain ⟨o4, c4, hh4⟩ : ∃ o c, b.hl = ⟨o, c⟩ := ⟨_, _, rfl⟩
  obtain ⟨PB, hPB⟩ : ∃ R, plB b.params (nl : Int) = R := ⟨_, rfl⟩
  unfold ViewAt at hv
  simp only [hAB] at hal
  simp only [hnl, hh4, hPB] at hal hpl hv hl1 hl2 hl3 hR
  unfold maxLen at hl2
  have HAL := Lib.hid hal
  have HPL := Lib.hid hpl
  have HR := Lib.hid hR
  have HVW := Lib.hid hv
  have HL := Lib.hid (And.intro hl3 (And.intro hl4 (And.intro hAB (And.intro hh4 hnl))))
  obtain ⟨v0, v1, v2, v3, v4, v5, v6, vl⟩ := cells7 hv
  clear hs hv hb hbn hal hpl hR hAB hPB hl3 hl4 hnl hh4
  go_enter Tryz.func35, Tryz.ntmps35
  by_cases h0 : nl = 0
  · have HF := Lib.hid (show false = R by have h := HR.out; rw [if_pos (Or.inl h0)] at h; exact h)
    subst h0
    go_wp2
    go_ret
    exact ⟨by rw [← HF.out]; first | done | rfl, Below.refl _ _⟩
  have hp0 : 0 < nl := by omega
  by_cases h2 : 201 < nl
  · have HF := Lib.hid (show false = R by have h := HR.out; rw [if_pos (Or.inr (Or.inl h2))] at h; exact h)
    go_wp2
    go_ret
    exact ⟨by rw [← HF.out]; first | done | rfl, Below.refl _ _⟩
  have t0 : ((nl : Int) == 0) = false := by simp; omega
  have t2 : decide ((201 : Int) < nl) = false := by simp; omega
  cases PB with
  | false =>
    have HF := Lib.hid (show false = R by have h := HR.out; rw [if_pos (Or.inr (Or.inr rfl))] at h; exact h)
    go_wp2_with (go_loud (go_at_call 48; refine (HPL.out _).mono ?_; rintro e W1 ⟨rfl, hw1⟩; rw [hw1]; clear hw1))
    go_ret
    exact ⟨by rw [← HF.out]; first | done | rfl, Below.refl _ _⟩
  | true =>
    go_upto_region 4 with (go_loud (go_at_call 48; refine (HPL.out _).mono ?_; rintro e W1 ⟨rfl, hw1⟩; rw [hw1]; clear hw1))
    clear v0 v1 v2 v3 v4 v5 v6 vl
    obtain ⟨j, rfl⟩ : ∃ j, nl = j + 1 := ⟨nl - 1, by omega⟩
    obtain ⟨ba, offa, hoa, hlt, hcell⟩ := HL.out.1 (by omega)
    obtain ⟨lo, hlo⟩ : ∃ x, b.locals[j]? = some x := ⟨_, List.getElem?_eq_getElem (by rw [HL.out.2.2.2.2]; omega)⟩
    have HF := Lib.hid (show lastB s n b.locals (some lo) = R by
      have h := HR.out
      rw [if_neg (by rintro (h | h | h)
                     · exact h0 h
                     · exact h2 h
                     · cases h), show j + 1 - 1 = j by omega, hlo] at h
      exact h)
    obtain ⟨lnm, ⟨lk, ltn, lth, ltl⟩⟩ := lo
    obtain ⟨lnl, hlnl⟩ : ∃ n, ltl.length = n := ⟨_, rfl⟩
    have q0 : w.cell? ⟨ba, offa + j * 4, none⟩ = some (.string lnm) := hcell j _ hlo 0 _ rfl
    have q1 : w.cell? ⟨ba, offa + j * 4 + 1, none⟩ = some (.int .i64 lk) := hcell j _ hlo 1 _ rfl
    have q2 : w.cell? ⟨ba, offa + j * 4 + 2, none⟩ = some (.string ltn) := hcell j _ hlo 2 _ rfl
    have q3 : w.cell? ⟨ba, offa + j * 4 + 3, none⟩ = some (.slice lth.oa lnl lth.cap) := by rw [← hlnl]; exact hcell j _ hlo 3 _ rfl
    try dsimp only at hoa
    clear t0 t2
    subst hoa
    have hnu := fun W => isNumber_any (.mk lk ltn lth ltl) W
    obtain ⟨NB, hNB⟩ : ∃ R, numB (.mk lk ltn lth ltl) = R := ⟨_, rfl⟩
    simp only [tyV, tyC, hlnl, hNB] at hnu
    have HNU := Lib.hid hnu
    have HF2 := Lib.hid (show (emB lnm && (NB && AB)) = R by rw [← HF.out, ← hNB, ← HL.out.2.2.1]; rfl)
    clear hcell hlo hlnl hnu hNB hp0 h0 h2
    have ti0 : (0 : Int) ≤ ((j + 1 : Nat) : Int) - 1 := by omega
    have ti1 : ((j + 1 : Nat) : Int) - 1 < ((j + 1 : Nat) : Int) := by omega
    have HONE := Lib.hid (show ∀ v ∈ ([.string lnm, .int .i64 lk, .string ltn, .slice lth.oa lnl lth.cap] : List Value), v.oneCell' = true from by intro v hv; simp at hv; rcases hv with rfl | rfl | rfl | rfl <;> rfl)
    go_upto_region 5 with (go_loud (refine wpList_store_new2 rfl 66 (.tmp 4) (.tmp 34) rfl w _ _ w.heap.size rfl rfl [.string lnm, .int .i64 lk, .string ltn, .slice lth.oa lnl lth.cap] rfl rfl info_lo HONE.out ?_; intro W1 hb1 hbx1 hs1))
    obtain ⟨M, hM⟩ : ∃ M, M = w.heap.size := ⟨_, rfl⟩
    have hbx2 : W1.heap[M]? = some (.cells #[.string lnm, .int .i64 lk, .string ltn, .slice lth.oa lnl lth.cap] 66) := by rw [hM]; exact hbx1
    have HB1 := Lib.hid hb1
    try simp only [← hM]
    have hq : W1.cell? ⟨M, 0, none⟩ = some (.string lnm) ∧ W1.cell? ⟨M, 1, none⟩ = some (.int .i64 lk) ∧ W1.cell? ⟨M, 1 + 1, none⟩ = some (.string ltn) ∧ W1.cell? ⟨M, 1 + 2, none⟩ = some (.slice lth.oa lnl lth.cap) := by
      refine ⟨?_, ?_, ?_, ?_⟩ <;> simp [World.cell?, hbx2]
    obtain ⟨r0, r1, r2, r3⟩ := hq
    clear hM hbx1 hbx2 hs1 hb1 q0 q1 q2 q3 ti0 ti1
    by_cases he : lnm.toList = []
    · have he2 : lnm.toList.isEmpty = true := by rw [he]; rfl
      cases NB with
      | false =>
        go_wp2_with (go_loud (go_at_call 58; refine (HNU.out W1).mono ?_; rintro e W2 ⟨rfl, hb2⟩; have HB2 := Lib.hid (HB1.out.trans (hb2.mono HB1.out.size)); clear hb2))
        go_ret
        exact ⟨by rw [← HF2.out, emB, he2]; first | done | rfl, HB2.out⟩
      | true =>
        go_wp2_with
          (first
            | (go_loud (go_at_call 58; refine (HNU.out W1).mono ?_; rintro e W2 ⟨rfl, hb2⟩; have HB2 := Lib.hid (HB1.out.trans (hb2.mono HB1.out.size)); clear hb2))
            | (go_loud (go_at_call 59; refine (HAL.out W2 HB2.out).mono ?_; rintro e W3 ⟨rfl, hb3⟩; have HB3 := Lib.hid (HB2.out.trans (hb3.mono HB2.out.size)); clear hb3)))
        go_ret
        exact ⟨by rw [← HF2.out, emB, he2]; first | done | rfl, HB3.out⟩
    · have he2 : lnm.toList.isEmpty = false := by simpa using he
      go_wp2
      go_ret
      exact ⟨by rw [← HF2.out, emB, he2]; first | done | rfl, HB1.out⟩
theorem enOk_of {s : So5} {n : Nat} {b : Bo} (h : localsB s n b = true) : EnOk s n b := by
  intro x r hr hp hk
  have hall : b.locals.all (localB s n) = true := by
    unfold localsB at h
    split at h
    · cases h
    · unfold lastB at h
      split at h
      · simp only [Bool.and_eq_true] at h
        exact h.2.2
      · cases h
  have hlo : ∃ lo, lo ∈ b.locals ∧ erTy lo.ty = r.1 := by
    unfold spotR at hr
    split at hr
    · split at hr
      · rename_i lo hlo
        have hp2 : x.path = [] := by cases hq : x.path with
          | nil => rfl
          | cons a l => rw [hq] at hp; cases hp
        rw [hp2, pathR2] at hr
        have := Option.some.inj hr
        exact ⟨lo, List.mem_of_getElem? hlo, by rw [← this]⟩
      · cases hr
    · cases hr
  obtain ⟨lo, hmem, her⟩ := hlo
  have h1 := List.all_eq_true.1 hall lo hmem
  obtain ⟨nm, ⟨k, tn, th, tl⟩⟩ := lo
  have hk3 : k = 3 := by rw [← her, kdT_er] at hk; exact hk
  have hnm : nmOf r.1 = tn := by rw [← her, nmOf_er]; rfl
  subst hk3
  unfold localB isOfB at h1
  simp only [Bool.and_eq_true, beq_iff_eq] at h1
  have h2 := h1.1.1
  intro hneg
  cases n with
  | zero => exact absurd (show (80 : Int) = 0 from h2) (by decide)
  | succ n =>
    rw [resO_in (by rfl)] at h2
    unfold innerO at h2
    dsimp only at h2
    rw [if_neg (by decide), if_pos (by decide)] at h2
    have hm : meantO s (.mk 3 tn th tl) = (3, placeO s 3 tn) := by
      unfold meantO
      dsimp only
      rw [if_neg (fun h => absurd h.1 (by decide))]
    rw [hm] at h2
    dsimp only at h2
    have hpl : placeO s 3 tn = enPl s r.1 := by
      unfold placeO enPl enAt
      rw [if_neg (by decide), if_pos rfl, hnm]
    rw [hpl, hneg, if_neg (by decide)] at h2
    exact absurd (show (71 : Int) = 0 from h2) (by decide)
def validB (s : So5) (n : Nat) (b : Bo) : Bool := decide (0 < b.blocks.length) && (localsB s n b && b.blocks.all (blockB s n b))
set_option maxRecDepth 100000 in
set_option maxHeartbeats 40000000 in
theorem valid_any (n : Nat) (s : So5) (b : Bo) (w : World) (hs : SoH n w s) (hsn : SoN s) (hb : BoH n w b) (hbn : BoN b) :
    Calls Tryz.prog 16 #[soV s, boV b] w fun e w' => e = .returned (.bool (validB s n b)) ∧ Below w.heap.size w w' := by
  obtain ⟨R, hR⟩ : ∃ R, validB s n b = R := ⟨_, rfl⟩
  rw [hR]
  unfold validB at hR
  have hloc := fun v W (h1 : Below w.heap.size w W) hv => locals_any n s b v W (SoH.below hs h1) hv (BoH.below hb h1) hbn
  have hblk := fun v W (h1 : Below w.heap.size w W) (hv : ViewAt W v s b) (he : localsB s n b = true) => allB_any v (blockB s n b) BlH (fun _ _ _ h hb => BlH.below h hb) W (fun z V hz hV => block_any n s b v z V (SoH.below hs (h1.trans (hV.mono h1.size))) hsn (hv.below hV) (BoH.below hb (h1.trans (hV.mono h1.size))) hz (enOk_of he)) b.hb b.blocks (Row.below hb.2.2 h1 fun _ _ h => BlH.below h h1)
  obtain ⟨L, hL⟩ : ∃ R, localsB s n b = R := ⟨_, rfl⟩
  obtain ⟨A, hA⟩ : ∃ R, b.blocks.all (blockB s n b) = R := ⟨_, rfl⟩
  simp only [hL] at hloc hblk hR
  simp only [hA] at hblk hR
  have hbc := hb.2.2.1
  have hbm := hb.2.2.2.1
  unfold maxLen at hbm
  obtain ⟨nb, hnb⟩ : ∃ n, b.blocks.length = n := ⟨_, rfl⟩
  have hbv : boV b = .agg #[.string b.nm, .int .i64 b.params, .slice b.hl.oa b.locals.length b.hl.cap, .slice b.hb.oa b.blocks.length b.hb.cap] := by cases b; rfl
  rw [soV_hd, hbv]
  obtain ⟨W0, hW⟩ : ∃ W, W = (w.alloc (.cells #[.slice s.hs.oa s.structs.length s.hs.cap, .slice s.he.oa s.enums.length s.he.cap, .slice s.hf.oa s.fns.length s.hf.cap] 26)).alloc (.cells #[.string b.nm, .int .i64 b.params, .slice b.hl.oa b.locals.length b.hl.cap, .slice b.hb.oa b.blocks.length b.hb.cap] 30) := ⟨_, rfl⟩
  obtain ⟨hb0, hx0, hx1⟩ := pal2 w (.cells #[.slice s.hs.oa s.structs.length s.hs.cap, .slice s.he.oa s.enums.length s.he.cap, .slice s.hf.oa s.fns.length s.hf.cap] 26) (.cells #[.string b.nm, .int .i64 b.params, .slice b.hl.oa b.locals.length b.hl.cap, .slice b.hb.oa b.blocks.length b.hb.cap] 30)
  rw [← hW] at hb0 hx0 hx1
  obtain ⟨N, hN⟩ : ∃ N, N = w.heap.size := ⟨_, rfl⟩
  rw [← hN] at hx0 hx1
  obtain ⟨W1, hW1⟩ : ∃ W, W = W0.alloc (.cells #[.slice s.hs.oa s.structs.length s.hs.cap, .slice s.he.oa s.enums.length s.he.cap, .slice s.hf.oa s.fns.length s.hf.cap, .string b.nm, .int .i64 b.params, .slice b.hl.oa b.locals.length b.hl.cap, .slice b.hb.oa b.blocks.length b.hb.cap] 87) := ⟨_, rfl⟩
  obtain ⟨V, hV⟩ : ∃ N, N = W0.heap.size := ⟨_, rfl⟩
  have hb1 : Below W0.heap.size W0 W1 := by rw [hW1]; exact alloc_below _ _
  have hv1 : ViewAt W1 V s b := by rw [hV, hW1]; exact heap_alloc_new _ _
  have hb01 : Below w.heap.size w W1 := hb0.trans (hb1.mono hb0.size)
  have hx1' : W1.heap[N + 1]? = _ := (hb1.block (N + 1) (blk_lt hx1)).trans hx1
  have HLOC := Lib.hid (hloc V W1 hb01 hv1)
  have HBLK := Lib.hid (show ∀ W, Below W1.heap.size W1 W → L = true → _ from fun W h1 he => hblk V W (hb01.trans (h1.mono hb01.size)) (hv1.below h1) he)
  have HX := Lib.hid (And.intro hb01 hx1')
  have HR := Lib.hid hR
  obtain ⟨z0, z1, z2, zf, zl⟩ := cells3p hx0
  obtain ⟨y0, y1, y2, y3, yf, yl⟩ := cells4p hx1
  rw [hnb] at hx1' HX y3 HBLK hW hW1 HR hbc ⊢
  clear hs hsn hb hbn hloc hblk hL hA hbv hx0 hx1 hx1' hb0 hb1 hb01 hv1 hR hnb
  go_enter Tryz.func16, Tryz.ntmps16
  go_upto_region 1 with fail
  rw [← hW]
  clear hW
  try simp only [← hN]
  clear hN
  go_upto_region 2 with fail
  rw [← hW1]
  clear hW1
  try simp only [← hV]
  clear hV z0 z1 z2 zf zl y0 y1 y2 y3 yf yl
  obtain ⟨y0, y1, y2, y3, yf, yl⟩ := cells4p HX.out.2
  by_cases h0 : 0 < nb
  · have t0 : decide ((nb : Int) > 0) = true := by simp; omega
    have HF := Lib.hid (show (L && A) = R by rw [← HR.out, decide_eq_true h0]; rfl)
    cases L with
    | false =>
      go_wp2_with (go_loud (go_at_call 35; refine HLOC.out.mono ?_; rintro e W2 ⟨rfl, hb2⟩; have HB2 := Lib.hid (HX.out.1.trans (hb2.mono HX.out.1.size)); clear hb2))
      go_ret
      exact ⟨by rw [← HF.out]; first | done | rfl, HB2.out⟩
    | true =>
      go_wp2_with
        (first
          | (go_loud (go_at_call 35; refine HLOC.out.mono ?_; rintro e W2 ⟨rfl, hb2⟩; have HB2 := Lib.hid (And.intro hb2 ((hb2.block (N + 1) (blk_lt HX.out.2)).trans HX.out.2)); obtain ⟨u0, u1, u2, u3, uf, ul⟩ := cells4p HB2.out.2; clear hb2))
          | (go_loud (go_at_call 36; refine (HBLK.out W2 HB2.out.1 (by first | trivial | rfl)).mono ?_; rintro e W3 ⟨rfl, hb3⟩; have HB3 := Lib.hid (HX.out.1.trans ((HB2.out.1.trans (hb3.mono HB2.out.1.size)).mono HX.out.1.size)); clear hb3)))
      go_ret
      exact ⟨by rw [← HF.out]; first | done | rfl, HB3.out⟩
  · have t0 : decide ((nb : Int) > 0) = false := by simp; omega
    have HF := Lib.hid (show false = R by rw [← HR.out, decide_eq_false h0]; rfl)
    go_wp2
    go_ret
    exact ⟨by rw [← HF.out]; first | done | rfl, HX.out.1⟩

end Go.Proofs.YtghkbihgdabamaaGreatDoor
