/-
  Several texts of the proof in one: KAppB, PRow, PSoV. No conditions of their own: each lemma states its own.
-/
import Derived.ArgAppend
import Derived.WalkKit
import Derived.Test.YtggdpgaedmegbaaGreatDoorJPTy
import Derived.Test.YtggdpgaedmegbaaGreatDoorJPRepR
namespace Go.Proofs.YtggdpgaedmegbaaGreatDoor
open Go.RowKit

theorem append_block {P : Program} {w : World} (base : Nat) (t ty e : TypeId) (i : TypeInfo) (z : Value) (size bytes : Nat) (ht : P.underlying t = some (.slice e)) (hi : P.info? e = some i) (hz : i.zero = some z)
    (hsize : i.size = size) (hby : i.bytes = bytes) (hzs : z.cells.size = size) (hsz : 0 < size)
    (v : Value) (n : Nat) (xs : List Value) (hown : w.ownsRow base e size v n xs)
    (a : Addr) (m c : Nat) (news : List Value) (hl : news.length = m * size) (hnews : ∀ j u, news[j]? = some u → w.cell? (a.add j) = some u) (h1 : ∀ u ∈ news, u.oneCell' = true)
    (h63 : n + m ≤ maxLen) (hbytes : (n + m) * bytes ≤ 140737488355328) {v' : Value} {w' : World}
    (hr : (Builtin.append_ #[t, t] ty #[v, .slice (some a) m c]).run P w = .ok v' w') (b : Nat) (hb : v'.ownBlock = some b) : v.ownBlock = some b ∨ w.heap.size ≤ b := by
  rcases hown.2 with ⟨rfl, rfl⟩ | ⟨g, cap, cur, rfl, -, hg, hnc, hcm, hcs, htake⟩
  · have hx : xs = [] := List.eq_nil_of_length_eq_zero (by simpa using hown.1)
    subst hx
    obtain ⟨v1, w1, hr1, h2, -⟩ := run_append_own (P := P) w w.heap.size t ty e i z size bytes ht hi hz hsize hby hzs hsz (.slice none 0 0) 0 [] (World.ownsRow_nil w w.heap.size e size) a m c news hl hnews h1 h63 hbytes (Nat.le_refl _)
    rw [hr] at hr1
    cases hr1
    exact .inr (h2.lt b hb).1
  · by_cases hroom : n + m ≤ cap
    · subst hsize
      have hfit : n * i.size + news.length ≤ cur.size := by rw [hl, hcs, ← Nat.add_mul]; exact Nat.mul_le_mul_right _ hroom
      have hr1 := run_append_room (P := P) w t ty e i ht hi g n cap cur hg a m c news hl hnews h1 hroom hfit
      rw [hr] at hr1
      cases hr1
      exact .inl hb
    · have holds : ∀ j u, xs[j]? = some u → w.cell? ((⟨g, 0, none⟩ : Addr).add j) = some u := hown.cells (g := g) rfl
      obtain ⟨v1, w1, hr1, h2, -⟩ := run_append_arg_grows (P := P) w t ty e i z size bytes ht hi hz hsize hby hzs hsz ⟨g, 0, none⟩ n cap xs hown.1 holds a m c news hl hnews (by omega) h63 hbytes
      rw [hr] at hr1
      cases hr1
      exact .inr (h2.lt b hb).1

theorem wpList_append_block {P : Program} {w : World} {ops : Array Oper} {rest : List Oper} {o : Oper} {a : Act} {Q : Exit → Act → World → Prop} (hgd : o.guard = none) (s x : Operand) (t : TypeId)
    (ho : o.op = .call { callee := .builtin .append, args := #[s, x], argTypes := #[t, t] })
    (base : Nat) (e : TypeId) (i : TypeInfo) (z : Value) (size bytes : Nat) (ht : P.underlying t = some (.slice e)) (hi : P.info? e = some i) (hz : i.zero = some z)
    (hsize : i.size = size) (hby : i.bytes = bytes) (hzs : z.cells.size = size) (hsz : 0 < size)
    (v : Value) (n : Nat) (xs : List Value) (hs : a.eval s = v) (hown : w.ownsRow base e size v n xs)
    (ad : Addr) (m c : Nat) (news : List Value) (hx : a.eval x = .slice (some ad) m c) (hl : news.length = m * size) (hnews : ∀ j u, news[j]? = some u → w.cell? (ad.add j) = some u) (h1 : ∀ u ∈ news, u.oneCell' = true)
    (h63 : n + m ≤ maxLen) (hbytes : (n + m) * bytes ≤ 140737488355328) (hbase : base ≤ w.heap.size)
    (h : ∀ v' w', w'.ownsRow base e size v' (n + m) (xs ++ news) → w.grownBy w' v.ownBlock → (v' = .slice none 0 0 ↔ v = .slice none 0 0 ∧ m = 0) →
      (∀ b, v'.ownBlock = some b → v.ownBlock = some b ∨ w.heap.size ≤ b) → wpList P ops Q rest (a.put o.dst v') w') : wpList P ops Q (o :: rest) a w :=
  wpList_plain hgd fun _ hK => by
    obtain ⟨v', w', hr, h2, h3, h4⟩ := run_append_own (P := P) w base t o.type e i z size bytes ht hi hz hsize hby hzs hsz v n xs hown ad m c news hl hnews h1 h63 hbytes hbase
    have h5 := append_block base t o.type e i z size bytes ht hi hz hsize hby hzs hsz v n xs hown ad m c news hl hnews h1 h63 hbytes hr
    unfold Oper.wp execOp
    simp only [ho, resolve, invoke, builtin, Sem.run_bind, Sem.run_pure, Result.andThen_ok, List.map_toArray, List.map_cons, List.map_nil, hs, hx, hr]
    exact hK _ _ (h v' w' h2 h3 h4 h5)
end Go.Proofs.YtggdpgaedmegbaaGreatDoor

namespace Go.Proofs.YtggdpgaedmegbaaGreatDoor
open Go.RowKit

/-- what a call leaves alone: all blocks that were there but for one, and perhaps another one -/
structure Ko (b : Nat) (o : Option Nat) (w w' : World) : Prop where
  os : w'.os = w.os
  tape : w'.tape = w.tape
  output : w'.output = w.output
  size : w.heap.size ≤ w'.heap.size
  block : ∀ x, x < w.heap.size → x ≠ b → o ≠ some x → w'.heap[x]? = w.heap[x]?
theorem Ko.of {b : Nat} {o : Option Nat} {w w' : World} (h : Kb b w w') : Ko b o w w' := ⟨h.os, h.tape, h.output, h.size, fun x hx hn _ => h.block x hx hn⟩
theorem Ko.kb {b : Nat} {w w' : World} (h : Ko b none w w') : Kb b w w' := ⟨h.os, h.tape, h.output, h.size, fun x hx hn => h.block x hx hn (by simp)⟩
theorem Ko.refl (b : Nat) (o : Option Nat) (w : World) : Ko b o w w := .of (Kb.refl b w)
theorem Ko.trans {b : Nat} {o : Option Nat} {w w1 w2 : World} (h : Ko b o w w1) (h' : Ko b o w1 w2) : Ko b o w w2 :=
  ⟨h'.os.trans h.os, h'.tape.trans h.tape, h'.output.trans h.output, Nat.le_trans h.size h'.size, fun x hx hn ho => (h'.block x (Nat.lt_of_lt_of_le hx h.size) hn ho).trans (h.block x hx hn ho)⟩
/-- blocks from a number on may have grown -/
theorem Ko.grown {b : Nat} {o : Option Nat} {w w1 w2 : World} {ob : Option Nat} (h : Ko b o w w1) (hg : w1.grownBy w2 ob) (ho : ∀ x, ob = some x → w.heap.size ≤ x) : Ko b o w w2 :=
  ⟨hg.os.trans h.os, hg.tape.trans h.tape, hg.output.trans h.output, Nat.le_trans h.size hg.size, fun x hx hn hno => (hg.block x (Nat.lt_of_lt_of_le hx h.size) fun e => by have := ho x e.symm; omega).trans (h.block x hx hn hno)⟩
theorem RowV.keepG {α : Type} {w w' : World} {B e sz : Nat} {v : Value} {C : α → List Value} {P : World → α → Prop} {xs : List α} (h : RowV w B e sz v C P xs) (hP : Mono P) (hs : w.heap.size ≤ w'.heap.size) (hk : ∀ x, B ≤ x → x < w.heap.size → w'.heap[x]? = w.heap[x]?) : RowV w' B e sz v C P xs :=
  ⟨own_keep h.own fun x hx => hk x (own_lt h.own hx).1 (own_lt h.own hx).2, fun x hx => hP _ _ x (eb_und hs fun y hy h1 h2 => ⟨h1, h2, hk y h1 hy⟩) (h.all x hx)⟩
def preR {α : Type} (l : List α) : Rs (List α) → Rs (List α)
  | .ok m r => .ok (l ++ m) r
  | .no e p => .no e p
theorem preR_nil {α : Type} (r : Rs (List α)) : preR [] r = r := by cases r <;> rfl
/-- what the reading of a thing comes to: f tells how, by whether it is the first one; S what holds ahead of it -/
def ThC {α : Type} (F : Nat) (args : Array Value) (b g cap : Nat) (ts : List Tok) (dp : Nat) (o : Option Nat) (S : Bool → World → Prop) (f : Bool → Rd α) (val : α → Value) (er : α → α) (P : World → α → Prop) : Prop :=
  ∀ (fl : Bool) (w : World) (i : Nat), RdAt w b g cap ts i dp → S fl w → Calls Tryz.prog F args w fun e w' => Ko b o w w' ∧ match f fl (ts.drop i) with
    | .ok a l => ∃ j v, e = .returned v ∧ l = ts.drop j ∧ RdAt w' b g cap ts j dp ∧ S false w' ∧ VOf val er P w' w.heap.size v a
    | .no er p => e = faultE er p
theorem RdAt.grown {w w' : World} {b g cap : Nat} {ts : List Tok} {i dp N : Nat} {ob : Option Nat} (h : RdAt w b g cap ts i dp) (hg : w.grownBy w' ob) (ho : ∀ x, ob = some x → N ≤ x) (hb : b < N) (hgN : g < N) (h9 : nG ≤ N) (hN : N ≤ w.heap.size) : RdAt w' b g cap ts i dp := by
  have hn : ∀ x, x < N → w'.heap[x]? = w.heap[x]? := fun x hx => hg.block x (by omega) fun e => by have := ho x e.symm; omega
  refine ⟨(hn b hb).trans h.at_, ⟨Nat.lt_of_lt_of_le h.toks.1 hg.size, fun i t ht => ?_⟩, h.lt, h.ne, h.ok, ?_, h.b4⟩
  · obtain ⟨a, c, d, e⟩ := h.toks.2 i t ht
    have hc : ∀ o, w'.cell? ⟨g, o, none⟩ = w.cell? ⟨g, o, none⟩ := fun o => World.cell?_of_block (hn g hgN)
    exact ⟨(hc _).trans a, (hc _).trans c, (hc _).trans d, (hc _).trans e⟩
  · exact h.vars.below ⟨hg.os, hg.tape, hg.output, hg.size, fun x hx => hn x (by omega)⟩ (Nat.le_refl _)
/-- what a row's reading comes to -/
def RowPost {α : Type} (w : World) (b g cap : Nat) (ts : List Tok) (dp : Nat) (o : Option Nat) (S : Bool → World → Prop) (sz : Nat) (C : α → List Value) (er : α → α) (P : World → α → Prop) (r : Rs (List α)) (e : Ending) (w' : World) : Prop :=
  Ko b o w w' ∧ match r with
    | .ok a l => ∃ j v fl, e = .returned v ∧ l = ts.drop j ∧ RdAt w' b g cap ts j dp ∧ S fl w' ∧ VRow sz C er P w' w.heap.size v a
    | .no er p => e = faultE er p
theorem row_open {w : World} {base e size n : Nat} {v : Value} {xs : List Value} (h : w.ownsRow base e size v n xs) : ∃ oo cc, v = .slice oo n cc := by
  obtain ⟨og, g, cap, rfl, _⟩ := row_shape h
  exact ⟨og, cap, rfl⟩
theorem info_Oper : (Tryz.prog.info? 105).map (fun i => (i.zero, i.size, i.bytes)) = some (some (.agg #[.bool false, .int .i64 0, .string ⟨#[]⟩, .slice none 0 0]), 4, 56) := by kernel_rfl
set_option maxRecDepth 100000 in
set_option maxHeartbeats 4000000 in
theorem row_Oper {w : World} {b g cap : Nat} {ts : List Tok} {i dp : Nat} (H : RdAt w b g cap ts i dp) (e : List UInt8) (he : e ≠ []) {o : Option Nat} {S : Bool → World → Prop} (pa pb pc : Value) (f : Bool → Rd _)
    (hTh : ThC 346 #[pa, pb, pc] b g cap ts dp o S f opV erOp OpH) (hS : S true w) (ho : ∀ x, o = some x → x < w.heap.size)
    (hSk : ∀ fl w1 w2, S fl w1 → w1.heap.size ≤ w2.heap.size → (∀ x, x < w.heap.size → x ≠ b → w2.heap[x]? = w1.heap[x]?) → S fl w2) (hcon : ∀ fl, Con (f fl)) :
    Calls Tryz.prog 345 #[.pointer (some ⟨b, 0, none⟩), .string (strB e), (.func (.func 346) #[] #[pa, pb, pc])] w (RowPost w b g cap ts dp o S 4 opC erOp OpH (rowL e f (ts.drop i))) := by
  obtain ⟨r, hQ⟩ : ∃ r, rowL e f (ts.drop i) = r := ⟨_, rfl⟩
  rw [hQ]
  have HQ := Lib.hid (show preR ([].map erOp) (rowR e f (ts.drop i).length true (ts.drop i)) = r by rw [List.map_nil, preR_nil]; exact hQ)
  have HH := Lib.hid H
  have HE := Lib.hid he
  have HT := Lib.hid hTh
  have HS := Lib.hid hS
  have HO := Lib.hid ho
  have HSK := Lib.hid hSk
  have HC := Lib.hid hcon
  have HGB := Lib.hid (And.intro H.toks.1 (And.intro H.vars.size (show b < w.heap.size from (Array.getElem?_eq_some_iff.1 H.at_).1)))
  obtain ⟨ii, hi1, hi2, hi3, hi4⟩ := info_parts info_Oper
  have HI := Lib.hid (And.intro hi1 (And.intro hi2 (And.intro hi3 hi4)))
  clear hQ hTh hS ho hSk hcon he hi1 hi2 hi3 hi4 H
  obtain ⟨z, hz⟩ : ∃ z, strB e = z := ⟨_, rfl⟩
  rw [hz]
  have HZ := Lib.hid hz
  clear hz
  go_enter Tryz.func345, Tryz.ntmps345
  go_wp2_with fail
  go_loopw [7] (fun u7 wr => ∃ (j k : Nat) (fl : Bool) (xs : List _) (oo : Option Addr) (cc : Nat), u7 = .slice oo xs.length cc ∧ RowV wr w.heap.size 105 4 (.slice oo xs.length cc) opC OpH xs ∧ RdAt wr b g cap ts j dp ∧ Ko b o w wr ∧ S fl wr ∧ (ts.drop j).length ≤ k ∧ xs.length ≤ j ∧ preR (xs.map erOp) (rowR e f k fl (ts.drop j)) = r) (fun _ wr => match wr.cell? ⟨b, 1, none⟩ with | some (.int _ q) => ts.length - q.toNat | _ => 0)
  case atStart => exact ⟨i, _, true, [], none, 0, rfl, RowV.nil, HH.out, Ko.refl _ _ _, HS.out, Nat.le_refl _, Nat.zero_le _, HQ.out⟩
  case round =>
    obtain ⟨j, k, fl, xs, oo, cc, rfl, hrow, hrd, hko, hs, hk, hxj, hr⟩ := hrel
    obtain ⟨t, ht, hh, -⟩ := hrd.tok
    have hlt := hrd.lt
    obtain ⟨k', rfl⟩ : ∃ k', k = k' + 1 := ⟨k - 1, by rw [List.length_drop] at hk; omega⟩
    obtain ⟨m, hm⟩ : ∃ m, xs.length = m := ⟨_, rfl⟩
    have HRO := Lib.hid hrow
    have HRD := Lib.hid hrd
    have HKO := Lib.hid hko
    have HSS := Lib.hid hs
    have HR := Lib.hid (And.intro hr (And.intro hk (And.intro hxj (And.intro ht (And.intro hh hm)))))
    have htk := takes_any hrd ht e HE.out
    rw [HZ.out] at htk
    have HTK := Lib.hid htk
    rw [hm]
    have hrc : rowR e f (k' + 1) fl (ts.drop j) = if t.text = e then .ok [] (ts.drop (j + 1)) else bindR (f fl) (fun a => mapR (rowR e f k' false) fun r => a :: r) (ts.drop j) := by
      rw [rowR]
      unfold optR
      rw [hh, drop_tail]
      rfl
    have HRC := Lib.hid hrc
    by_cases hts : t.text = e
    · have HTS := Lib.hid hts
      clear hrow hrd hko hs hk hxj hr ht hh hlt htk hm hrc hts
      go_wp2_with (go_at_call 172; refine HTK.out.mono ?_; rintro e1 w1 ⟨h1, -⟩; obtain ⟨rfl, hk1, hrd1⟩ := h1 HTS.out; have HK1 := Lib.hid hk1; have HH1 := Lib.hid hrd1; clear h1 hk1 hrd1 HTK)
      go_ret
      have hr := HR.out.1
      rw [HRC.out, if_pos HTS.out] at hr
      rw [← hr, ← HR.out.2.2.2.2.2]
      refine ⟨HKO.out.trans (Ko.of HK1.out), j + 1, _, fl, rfl, rfl, HH1.out, HSK.out fl _ _ HSS.out HK1.out.size fun x hx hn => HK1.out.block x (Nat.lt_of_lt_of_le hx HKO.out.size) hn, ?_⟩
      have hrv := HRO.out.keepG OpH.und HK1.out.size fun x h1 h2 => HK1.out.block x h2 (by have := HGB.out.2.2; omega)
      simpa using hrv.row opC_len OpH.und erOp
    · have HTS := Lib.hid hts
      clear hrow hrd hko hs hk hxj hr ht hh hlt htk hm hrc hts
      go_upto_region 3 with (go_at_call 172; refine HTK.out.mono ?_; rintro e1 w1 ⟨-, h1⟩; obtain ⟨rfl, hb1⟩ := h1 HTS.out; have HB1 := Lib.hid hb1; clear h1 hb1 HTK)
      have hs1 := HSK.out fl _ _ HSS.out HB1.out.size fun x hx _ => HB1.out.block x (Nat.lt_of_lt_of_le hx HKO.out.size)
      have hth := HT.out fl w1 j (HRD.out.under HB1.out) hs1
      have HTH := Lib.hid hth
      clear hs1 hth
      rcases hf : f fl (ts.drop j) with ⟨a, l⟩ | ⟨er, p⟩
      rotate_left
      · have HF := Lib.hid hf
        clear hf
        go_wp2_with (go_at_call 346; refine HTH.out.mono ?_; rintro e1 w2 ⟨hk2, h2⟩; rw [HF.out] at h2; simp only at h2; unfold faultE at h2; subst h2; have HK2 := Lib.hid hk2; clear hk2 HTH)
        refine ⟨rfl, ?_⟩
        have hr := HR.out.1
        rw [HRC.out, if_neg HTS.out, bind_no HF.out] at hr
        rw [← hr]
        exact ⟨(HKO.out.trans (Ko.of (Kb.of_below HB1.out))).trans HK2.out, rfl⟩
      · have HF := Lib.hid hf
        clear hf
        obtain ⟨hi1, hi2, hi3, hi4⟩ := HI.out
        go_wp2_with
          (first
            | (go_at_call 346; refine HTH.out.mono ?_; rintro e1 w2 ⟨hk2, h2⟩; rw [HF.out] at h2; simp only at h2; obtain ⟨j2, v2, rfl, hl, hrd2, hs2, ⟨xnum, xn, ⟨xnm, xh, xp⟩⟩, rfl, rfl, hp⟩ := h2; subst hl; simp only [opV, opC, plC, List.cons_append, List.nil_append]; have HK2 := Lib.hid hk2; have HH2 := Lib.hid hrd2; have HS2 := Lib.hid hs2; have HP2 := Lib.hid hp; clear hk2 hrd2 hs2 hp HTH)
            | (at_builtin; refine wpList_append_block rfl (.tmp 12) (.tmp 15) 101 rfl w.heap.size 105 ii _ 4 56 Tryz.underlying101 hi1 hi2 hi3 hi4 rfl (by decide) (.slice oo m cc) m (xs.flatMap opC) rfl ?c0 ⟨w2.heap.size, 0, none⟩ 1 1 [.bool xnum, .int .i64 xn, .string xnm, .slice xh.oa xp.length xh.cap] rfl rfl ?c1 ?c2 ?c3 ?c4 ?c5 ?_))
        case c0 =>
          have hm := HR.out.2.2.2.2.2
          have h1 := (HRO.out.keepG OpH.und HB1.out.size fun x _ h2 => HB1.out.block x h2).keepG OpH.und HK2.out.size fun x h1 h2 => HK2.out.block x h2 (by have := HGB.out.2.2; omega) fun e => by have := HO.out x e; omega
          have h2 := own_keep (w' := w2.alloc (.cells #[.bool xnum, .int .i64 xn, .string xnm, .slice xh.oa xp.length xh.cap] 105)) h1.own fun x hx => (alloc_below w2 (.cells #[.bool xnum, .int .i64 xn, .string xnm, .slice xh.oa xp.length xh.cap] 105)).block x (own_lt h1.own hx).2
          rw [hm] at h2
          exact h2
        case c1 => exact new_cells w2 [.bool xnum, .int .i64 xn, .string xnm, .slice xh.oa xp.length xh.cap] 105 _ rfl
        case c2 => first | exact ⟨rfl, rfl, rfl⟩ | exact ⟨rfl, rfl, rfl, rfl⟩ | (intro u hu; simp at hu; first | (rcases hu with rfl | rfl | rfl | rfl <;> rfl) | (rcases hu with rfl | rfl | rfl | rfl <;> rfl) | (rcases hu with rfl | rfl | rfl <;> rfl))
        case c3 => have := HR.out.2.2.1; have := HR.out.2.2.2.2.2; have := HH.out.ok.small; have := HRD.out.lt; unfold maxLen; omega
        case c4 => have := HR.out.2.2.1; have := HR.out.2.2.2.2.2; have := HH.out.ok.small; have := HRD.out.lt; omega
        case c5 => have := HKO.out.size; have := HB1.out.size; have := HK2.out.size; simp; omega
        intro v4 w4 hown hg _ hnew
        have hm := HR.out.2.2.2.2.2
        have hal := alloc_below w2 (.cells #[.bool xnum, .int .i64 xn, .string xnm, .slice xh.oa xp.length xh.cap] 105)
        have h1 := ((HRO.out.keepG OpH.und HB1.out.size fun x _ h2 => HB1.out.block x h2).keepG OpH.und HK2.out.size fun x h1 h2 => HK2.out.block x h2 (by have := HGB.out.2.2; omega) fun e => by have := HO.out x e; omega).keepG (w' := w2.alloc (.cells #[.bool xnum, .int .i64 xn, .string xnm, .slice xh.oa xp.length xh.cap] 105)) OpH.und hal.size fun x _ h2 => hal.block x h2
        have hge : ∀ x, (Value.slice oo m cc).ownBlock = some x → w.heap.size ≤ x := fun x hx => by rw [← hm] at hx; exact (own_lt h1.own hx).1
        have hlt1 : ∀ x, (Value.slice oo xs.length cc).ownBlock = some x → x < w1.heap.size := fun x hx => Nat.lt_of_lt_of_le (own_lt HRO.out.own hx).2 HB1.out.size
        have hp3 := OpH.und _ _ _ (eb_und (B := w1.heap.size) (B' := w1.heap.size) (og := none) (og' := none) hal.size fun x hx h1 h2 => ⟨h1, h2, hal.block x hx⟩) HP2.out
        rw [← hm] at hown hg hnew
        have hpush := h1.push (x := (⟨xnum, xn, ⟨xnm, xh, xp⟩⟩ : Op5)) OpH.und (Nat.le_trans HKO.out.size HB1.out.size) hp3 hlt1 hown hg (fun x hx => by simpa using hnew x hx)
        rw [hm] at hg
        have hrd4 := (HH2.out.under hal).grown hg hge HGB.out.2.2 HGB.out.1 HGB.out.2.1 (Nat.le_trans (Nat.le_trans (Nat.le_trans HKO.out.size HB1.out.size) HK2.out.size) hal.size)
        have hko4 := (((HKO.out.trans (Ko.of (Kb.of_below HB1.out))).trans HK2.out).trans (Ko.of (Kb.of_below hal))).grown hg hge
        have hs4 := HSK.out false _ _ HS2.out (Nat.le_trans hal.size hg.size) fun x hx hn => (hg.block x (Nat.lt_of_lt_of_le hx (Nat.le_trans (Nat.le_trans (Nat.le_trans HKO.out.size HB1.out.size) HK2.out.size) hal.size)) fun e => by have := hge x e.symm; omega).trans (hal.block x (Nat.lt_of_lt_of_le hx (Nat.le_trans (Nat.le_trans HKO.out.size HB1.out.size) HK2.out.size)))
        obtain ⟨o4, c4, rfl⟩ := row_open hown
        have hjj : j < j2 := by
          have := HC.out fl _ _ _ HF.out
          rw [List.length_drop, List.length_drop] at this
          have := hrd4.lt
          omega
        have hfin : preR ((xs ++ [(⟨xnum, xn, ⟨xnm, xh, xp⟩⟩ : Op5)]).map erOp) (rowR e f k' false (ts.drop j2)) = r := by
          have hr := HR.out.1
          rw [HRC.out, if_neg HTS.out, bind_ok HF.out] at hr
          rw [← hr, List.map_append]
          unfold mapR bindR
          cases rowR e f k' false (ts.drop j2) <;> simp [preR, pureR]
        have hst := And.intro hpush (And.intro hrd4 (And.intro hko4 (And.intro hs4 (And.intro hjj hfin))))
        have HST := Lib.hid hst
        clear hm hal h1 hge hlt1 hp3 hown hg hnew hpush hrd4 hko4 hs4 hjj hfin hst hi1 hi2 hi3 hi4
        go_wp2_with fail
        go_roundw
        case rel =>
          obtain ⟨g1, g2, g3, g4, g5, g6⟩ := HST.out
          have hm := HR.out.2.2.2.2.2
          refine ⟨j2, k', false, xs ++ [(⟨xnum, xn, ⟨xnm, xh, xp⟩⟩ : Op5)], o4, c4, by simp [hm], ?_, g2, g3, g4, ?_, ?_, g6⟩
          · simpa using g1
          · have := HR.out.2.1; rw [List.length_drop] at this ⊢; omega
          · have := HR.out.2.2.1; simp; omega
        case measure =>
          obtain ⟨g1, g2, g3, g4, g5, g6⟩ := HST.out
          have e1 := (cells3p g2.at_).2.1
          have e2 := (cells3p HRD.out.at_).2.1
          simp only [e1, e2]
          have := g2.lt
          simp only [Int.toNat_natCast]
          omega
end Go.Proofs.YtggdpgaedmegbaaGreatDoor

namespace Go.Proofs.YtggdpgaedmegbaaGreatDoor
open Go.RowKit

/-- the world with some blocks alone -/
def ebp (w : World) (f : Nat → Bool) : World := { w with heap := w.heap.mapIdx fun i o => if f i = true then o else .cells #[] 0 }
theorem ebp_heap {w : World} {f : Nat → Bool} {b : Nat} (h : f b = true) : (ebp w f).heap[b]? = w.heap[b]? := by
  simp only [ebp, Array.getElem?_mapIdx]
  cases w.heap[b]? with
  | none => rfl
  | some o => simp [h]
theorem ebp_none {w : World} {f : Nat → Bool} {p : Addr} (h : ¬ f p.block = true) : (ebp w f).cell? p = none := by
  unfold World.cell?
  simp only [ebp, Array.getElem?_mapIdx]
  cases w.heap[p.block]? with
  | none => rfl
  | some o =>
    rw [Option.map_some, if_neg h]
    cases p with
    | mk blk off bytes => cases bytes <;> simp
theorem ebp_cell {w : World} {f : Nat → Bool} {p : Addr} {v : Value} (h : (ebp w f).cell? p = some v) : f p.block = true ∧ w.cell? p = some v := by
  by_cases hc : f p.block = true
  · exact ⟨hc, by rw [← h]; exact (World.cell?_of_block (ebp_heap hc)).symm⟩
  · rw [ebp_none hc] at h; cases h
theorem ebp_size (w : World) (f : Nat → Bool) : (ebp w f).heap.size = w.heap.size := by simp [ebp]
theorem ebp_und {w w' : World} {f f' : Nat → Bool} (hs : w.heap.size ≤ w'.heap.size) (h : ∀ b, b < w.heap.size → f b = true → f' b = true ∧ w'.heap[b]? = w.heap[b]?) : Und (ebp w f) (ebp w' f') := by
  refine ⟨by rw [ebp_size, ebp_size]; exact hs, fun p v hv => ?_⟩
  obtain ⟨h1, h3⟩ := ebp_cell hv
  obtain ⟨h4, h6⟩ := h p.block (World.block_lt_of_cell? w p h3) h1
  exact (World.cell?_of_block (ebp_heap h4)).trans ((World.cell?_of_block h6).trans h3)
theorem eb_ebp (w : World) (B : Nat) (og : Option Nat) : eb w B og = ebp w (fun i => decide (B ≤ i ∧ og ≠ some i)) := by
  unfold eb ebp
  simp
def keepF (B : Nat) (vs ve vf : Value) : Nat → Bool := fun i => decide (B ≤ i ∧ vs.ownBlock ≠ some i ∧ ve.ownBlock ≠ some i ∧ vf.ownBlock ≠ some i)
structure SoV (w : World) (B : Nat) (vs ve vf : Value) (ss : List Su5) (es : List En5) (fs : List Fn5) : Prop where
  o1 : w.ownsRow B 47 4 vs ss.length (ss.flatMap suC)
  o2 : w.ownsRow B 62 3 ve es.length (es.flatMap enC)
  o3 : w.ownsRow B 68 4 vf fs.length (fs.flatMap fnC)
  a1 : ∀ x ∈ ss, SuH 62 (ebp w (keepF B vs ve vf)) x
  a2 : ∀ x ∈ es, EnH 62 (ebp w (keepF B vs ve vf)) x
  a3 : ∀ x ∈ fs, FnH 181 (ebp w (keepF B vs ve vf)) x
section
variable {w w' : World} {B : Nat} {vs ve vf v' : Value} {ss : List Su5} {es : List En5} {fs : List Fn5}
theorem SoV.nil (w : World) (B : Nat) : SoV w B (.slice none 0 0) (.slice none 0 0) (.slice none 0 0) [] [] [] :=
  ⟨World.ownsRow_nil _ _ _ _, World.ownsRow_nil _ _ _ _, World.ownsRow_nil _ _ _ _, fun _ h => (by cases h), fun _ h => (by cases h), fun _ h => (by cases h)⟩
theorem SoV.keep (h : SoV w B vs ve vf ss es fs) (hs : w.heap.size ≤ w'.heap.size) (hk : ∀ x, B ≤ x → x < w.heap.size → w'.heap[x]? = w.heap[x]?) : SoV w' B vs ve vf ss es fs := by
  have hu : Und (ebp w (keepF B vs ve vf)) (ebp w' (keepF B vs ve vf)) := ebp_und hs fun b hb hf => ⟨hf, hk b (by simp [keepF] at hf; exact hf.1) hb⟩
  exact ⟨own_keep h.o1 fun x hx => hk x (own_lt h.o1 hx).1 (own_lt h.o1 hx).2, own_keep h.o2 fun x hx => hk x (own_lt h.o2 hx).1 (own_lt h.o2 hx).2, own_keep h.o3 fun x hx => hk x (own_lt h.o3 hx).1 (own_lt h.o3 hx).2,
    fun x hx => SuH.und 62 _ _ x hu (h.a1 x hx), fun x hx => EnH.und 62 _ _ x hu (h.a2 x hx), fun x hx => FnH.und 181 _ _ x hu (h.a3 x hx)⟩
theorem type_ne {a b : Value} {e e' n n' s s' : Nat} {xs ys : List Value} (h : w.ownsRow B e s a n xs) (h' : w.ownsRow B e' s' b n' ys) (hne : e ≠ e') {x : Nat} (hx : a.ownBlock = some x) : b.ownBlock ≠ some x := fun hy => by
  obtain ⟨c1, h1⟩ := own_blk h hx
  obtain ⟨c2, h2⟩ := own_blk h' hy
  rw [h1] at h2
  simp only [Option.some.injEq, Obj.cells.injEq] at h2
  exact hne h2.2.1
theorem SoV.rows (h : SoV w B vs ve vf ss es fs) : VRow 4 suC erSu (SuH 62) w B vs (ss.map erSu) ∧ VRow 3 enC erEn (EnH 62) w B ve (es.map erEn) ∧ VRow 4 fnC erFn (FnH 181) w B vf (fs.map erFn) := by
  refine ⟨RowV.row ⟨h.o1, fun x hx => ?_⟩ suC_len (SuH.und 62) erSu, RowV.row ⟨h.o2, fun x hx => ?_⟩ enC_len (EnH.und 62) erEn, RowV.row ⟨h.o3, fun x hx => ?_⟩ fnC_len (FnH.und 181) erFn⟩
  · refine SuH.und 62 _ _ x ?_ (h.a1 x hx)
    rw [eb_ebp]
    exact ebp_und (Nat.le_refl _) fun b _ hf => by simp [keepF] at hf; simp [hf]
  · refine EnH.und 62 _ _ x ?_ (h.a2 x hx)
    rw [eb_ebp]
    exact ebp_und (Nat.le_refl _) fun b _ hf => by simp [keepF] at hf; simp [hf]
  · refine FnH.und 181 _ _ x ?_ (h.a3 x hx)
    rw [eb_ebp]
    exact ebp_und (Nat.le_refl _) fun b _ hf => by simp [keepF] at hf; simp [hf]
theorem SoV.pushS (h : SoV w B vs ve vf ss es fs) {x : Su5} {B1 : Nat} (hB : B ≤ B1) (hlt : ∀ b, (vs.ownBlock = some b ∨ ve.ownBlock = some b ∨ vf.ownBlock = some b) → b < B1) (hx : SuH 62 (eb w B1 none) x)
    (hr : w'.ownsRow B 47 4 v' (ss.length + 1) (ss.flatMap suC ++ suC x)) (hg : w.grownBy w' vs.ownBlock) (hv : ∀ b, v'.ownBlock = some b → vs.ownBlock = some b ∨ w.heap.size ≤ b) : SoV w' B v' ve vf (ss ++ [x]) es fs := by
  have hne : ∀ b, b < w.heap.size → vs.ownBlock ≠ some b → v'.ownBlock ≠ some b := fun b hl hn e => by
    rcases hv b e with h1 | h1
    · exact hn h1
    · omega
  have hu : Und (ebp w (keepF B vs ve vf)) (ebp w' (keepF B v' ve vf)) := ebp_und hg.size fun b hl hf => by
    simp only [keepF, decide_eq_true_eq] at hf ⊢
    obtain ⟨f1, f2, f3, f4⟩ := hf
    exact ⟨⟨f1, hne b hl f2, f3, f4⟩, hg.block b hl fun e => f2 e.symm⟩
  have hux : Und (eb w B1 none) (ebp w' (keepF B v' ve vf)) := by
    rw [eb_ebp]
    refine ebp_und hg.size fun b hl hf => ?_
    simp only [keepF, decide_eq_true_eq] at hf ⊢
    have n1 : vs.ownBlock ≠ some b := fun e => by have := hlt b (.inl e); omega
    have n2 : ve.ownBlock ≠ some b := fun e => by have := hlt b (.inr (.inl e)); omega
    have n3 : vf.ownBlock ≠ some b := fun e => by have := hlt b (.inr (.inr e)); omega
    exact ⟨⟨by omega, hne b hl n1, n2, n3⟩, hg.block b hl fun e => n1 e.symm⟩
  refine ⟨by simpa [List.flatMap_append] using hr, own_keep h.o2 fun b hb => hg.block b (own_lt h.o2 hb).2 fun e => type_ne h.o2 h.o1 (by decide) hb e.symm, own_keep h.o3 fun b hb => hg.block b (own_lt h.o3 hb).2 fun e => type_ne h.o3 h.o1 (by decide) hb e.symm, fun y hy => by
    rcases List.mem_append.1 hy with hy | hy
    · exact SuH.und 62 _ _ y hu (h.a1 y hy)
    · obtain rfl : y = x := by simpa using hy
      exact SuH.und 62 _ _ y hux hx, fun y hy => EnH.und 62 _ _ y hu (h.a2 y hy), fun y hy => FnH.und 181 _ _ y hu (h.a3 y hy)⟩
theorem SoV.pushE (h : SoV w B vs ve vf ss es fs) {x : En5} {B1 : Nat} (hB : B ≤ B1) (hlt : ∀ b, (vs.ownBlock = some b ∨ ve.ownBlock = some b ∨ vf.ownBlock = some b) → b < B1) (hx : EnH 62 (eb w B1 none) x)
    (hr : w'.ownsRow B 62 3 v' (es.length + 1) (es.flatMap enC ++ enC x)) (hg : w.grownBy w' ve.ownBlock) (hv : ∀ b, v'.ownBlock = some b → ve.ownBlock = some b ∨ w.heap.size ≤ b) : SoV w' B vs v' vf ss (es ++ [x]) fs := by
  have hne : ∀ b, b < w.heap.size → ve.ownBlock ≠ some b → v'.ownBlock ≠ some b := fun b hl hn e => by
    rcases hv b e with h1 | h1
    · exact hn h1
    · omega
  have hu : Und (ebp w (keepF B vs ve vf)) (ebp w' (keepF B vs v' vf)) := ebp_und hg.size fun b hl hf => by
    simp only [keepF, decide_eq_true_eq] at hf ⊢
    obtain ⟨f1, f2, f3, f4⟩ := hf
    exact ⟨⟨f1, f2, hne b hl f3, f4⟩, hg.block b hl fun e => f3 e.symm⟩
  have hux : Und (eb w B1 none) (ebp w' (keepF B vs v' vf)) := by
    rw [eb_ebp]
    refine ebp_und hg.size fun b hl hf => ?_
    simp only [keepF, decide_eq_true_eq] at hf ⊢
    have n1 : vs.ownBlock ≠ some b := fun e => by have := hlt b (.inl e); omega
    have n2 : ve.ownBlock ≠ some b := fun e => by have := hlt b (.inr (.inl e)); omega
    have n3 : vf.ownBlock ≠ some b := fun e => by have := hlt b (.inr (.inr e)); omega
    exact ⟨⟨by omega, n1, hne b hl n2, n3⟩, hg.block b hl fun e => n2 e.symm⟩
  refine ⟨own_keep h.o1 fun b hb => hg.block b (own_lt h.o1 hb).2 fun e => type_ne h.o1 h.o2 (by decide) hb e.symm, by simpa [List.flatMap_append] using hr, own_keep h.o3 fun b hb => hg.block b (own_lt h.o3 hb).2 fun e => type_ne h.o3 h.o2 (by decide) hb e.symm, fun y hy => SuH.und 62 _ _ y hu (h.a1 y hy), fun y hy => by
    rcases List.mem_append.1 hy with hy | hy
    · exact EnH.und 62 _ _ y hu (h.a2 y hy)
    · obtain rfl : y = x := by simpa using hy
      exact EnH.und 62 _ _ y hux hx, fun y hy => FnH.und 181 _ _ y hu (h.a3 y hy)⟩
theorem SoV.pushF (h : SoV w B vs ve vf ss es fs) {x : Fn5} {B1 : Nat} (hB : B ≤ B1) (hlt : ∀ b, (vs.ownBlock = some b ∨ ve.ownBlock = some b ∨ vf.ownBlock = some b) → b < B1) (hx : FnH 181 (eb w B1 none) x)
    (hr : w'.ownsRow B 68 4 v' (fs.length + 1) (fs.flatMap fnC ++ fnC x)) (hg : w.grownBy w' vf.ownBlock) (hv : ∀ b, v'.ownBlock = some b → vf.ownBlock = some b ∨ w.heap.size ≤ b) : SoV w' B vs ve v' ss es (fs ++ [x]) := by
  have hne : ∀ b, b < w.heap.size → vf.ownBlock ≠ some b → v'.ownBlock ≠ some b := fun b hl hn e => by
    rcases hv b e with h1 | h1
    · exact hn h1
    · omega
  have hu : Und (ebp w (keepF B vs ve vf)) (ebp w' (keepF B vs ve v')) := ebp_und hg.size fun b hl hf => by
    simp only [keepF, decide_eq_true_eq] at hf ⊢
    obtain ⟨f1, f2, f3, f4⟩ := hf
    exact ⟨⟨f1, f2, f3, hne b hl f4⟩, hg.block b hl fun e => f4 e.symm⟩
  have hux : Und (eb w B1 none) (ebp w' (keepF B vs ve v')) := by
    rw [eb_ebp]
    refine ebp_und hg.size fun b hl hf => ?_
    simp only [keepF, decide_eq_true_eq] at hf ⊢
    have n1 : vs.ownBlock ≠ some b := fun e => by have := hlt b (.inl e); omega
    have n2 : ve.ownBlock ≠ some b := fun e => by have := hlt b (.inr (.inl e)); omega
    have n3 : vf.ownBlock ≠ some b := fun e => by have := hlt b (.inr (.inr e)); omega
    exact ⟨⟨by omega, n1, n2, hne b hl n3⟩, hg.block b hl fun e => n3 e.symm⟩
  refine ⟨own_keep h.o1 fun b hb => hg.block b (own_lt h.o1 hb).2 fun e => type_ne h.o1 h.o3 (by decide) hb e.symm, own_keep h.o2 fun b hb => hg.block b (own_lt h.o2 hb).2 fun e => type_ne h.o2 h.o3 (by decide) hb e.symm, by simpa [List.flatMap_append] using hr, fun y hy => SuH.und 62 _ _ y hu (h.a1 y hy), fun y hy => EnH.und 62 _ _ y hu (h.a2 y hy), fun y hy => by
    rcases List.mem_append.1 hy with hy | hy
    · exact FnH.und 181 _ _ y hu (h.a3 y hy)
    · obtain rfl : y = x := by simpa using hy
      exact FnH.und 181 _ _ y hux hx⟩
end
/-- items that were read, ahead of those that are read -/
def joinR (ss : List Su5) (es : List En5) (fs : List Fn5) : Rs So5 → Rs So5
  | .ok s l => .ok ⟨h0, ss ++ s.structs, h0, es ++ s.enums, h0, fs ++ s.fns⟩ l
  | .no e p => .no e p
end Go.Proofs.YtggdpgaedmegbaaGreatDoor
