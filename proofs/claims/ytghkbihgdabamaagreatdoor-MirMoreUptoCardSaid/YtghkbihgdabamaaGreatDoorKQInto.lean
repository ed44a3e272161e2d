/-
  What a step from a type comes to, whatever it is. Conditions: the view, its source and the type lie in the heap; types are not too large.
-/
import Derived.Test.YtghkbihgdabamaaGreatDoorKQIntoC
namespace Go.Proofs.YtghkbihgdabamaaGreatDoor
open Go.RowKit

theorem into_any (n m : Nat) (s : So5) (b : Bo) (v : Nat) (x : Ty5) (step : Int) (w : World) (hs : SoH n w s) (hsn : SoN s) (hv : ViewAt w v s b) (kf : Nat → Bool) (hkf : ∀ b, w.heap.size ≤ b → kf b = true) (hx : TyH m (ebp w kf) x) :
    Calls Tryz.prog 49 #[.pointer (some ⟨v, 0, none⟩), tyV x, .int .i64 step] w fun e w' => Below w.heap.size w w' ∧ ∃ y ok, e = .returned (.tuple #[tyV y, .bool ok]) ∧ intoR s n x step = (if ok then some (erTy y) else none) ∧ ∃ f, TyH f (ebp w' kf) y := by
  obtain ⟨k, nm, h, l⟩ := x
  cases ha : addrB (.mk k nm h l) with
  | true =>
    refine (into_addr n m s b v (.mk k nm h l) step w kf hx ha).mono ?_
    rintro e w' ⟨h1, y, ok, h2, h3, h4⟩
    exact ⟨h1, y, ok, h2, h3, m, h4⟩
  | false =>
    by_cases hk : k = 2
    · rcases su_at s nm with hi | ⟨i, z, hi, hz⟩
      · exact into_none n m s b v k nm h l step w hs hsn hv ha kf hkf hk hi
      · cases hp : plB step z.fields.length with
        | false => exact into_nofld n m s b v k nm h l step w hs hsn hv ha kf hkf hk i z hi hz hp
        | true =>
          obtain ⟨j, f, hj, _, hf⟩ := plB_at hp
          exact into_fld n m s b v k nm h l step w hs hsn hv ha kf hkf hk i z hi hz j f hj hf
    · exact into_nostr n m s b v k nm h l step w hs hsn hv ha kf hkf hk

end Go.Proofs.YtghkbihgdabamaaGreatDoor
