/- SizeMatchesReference, for all sizes, pitches and integers. -/
import Derived.Test.YtdlfnonlalkjdaaDoorSLR
namespace Go.Proofs.YtdlfnonlalkjdaaDoor
open Go.RowKit M
theorem sref_all (a0 a1 b0 b1 : Int) (p q : Nat → Int) (n m : Int) (w : World) (hl : Lm w) :
    Calls Tryd.prog 3 #[SV a0 a1, SV b0 b1, PV p, PV q, .int .i64 n, .int .i64 m] w fun e w' => e = .returned (.bool true) ∧ Below w.heap.size w w' := by
  obtain ⟨o0, o1, oc, ho⟩ : ∃ x y k, ofR p = (x, y, k) := ⟨_, _, _, rfl⟩
  obtain ⟨g0, g1, gc, hg⟩ : ∃ x y k, gpR p q = (x, y, k) := ⟨_, _, _, rfl⟩
  obtain ⟨s0, s1, sc, hs⟩ : ∃ x y k, opR (szB a0 a1 && szB b0 b1) (a0 + b0) (a1 + b1) = (x, y, k) := ⟨_, _, _, rfl⟩
  obtain ⟨d0, d1, dc, hd⟩ : ∃ x y k, opR (szB a0 a1 && szB b0 b1) (a0 - b1) (a1 - b0) = (x, y, k) := ⟨_, _, _, rfl⟩
  obtain ⟨t0, t1, tc, ht⟩ : ∃ x y k, tmR a0 a1 n = (x, y, k) := ⟨_, _, _, rfl⟩
  obtain ⟨u0, u1, uc, hu⟩ : ∃ x y k, meR a0 a1 b0 b1 = (x, y, k) := ⟨_, _, _, rfl⟩
  obtain ⟨i0, ic, hi⟩ : ∃ x k, cmR a0 a1 b0 b1 = (x, k) := ⟨_, _, rfl⟩
  obtain ⟨j0, jc, hj⟩ : ∃ x k, wiR a0 a1 n m = (x, k) := ⟨_, _, rfl⟩
  obtain ⟨k0, kc, hk⟩ : ∃ x k, neR p q n = (x, k) := ⟨_, _, rfl⟩
  exact sref_ok a0 a1 b0 b1 p q n m w hl (szB a0 a1) ⟨fun w => svalid_any a0 a1 w _ rfl⟩ ⟨fun w => rvalid_any a0 a1 w _ rfl⟩
    o0 o1 oc ⟨sof_any p _ _ _ ho⟩ ⟨rof_any p _ _ _ ho⟩ g0 g1 gc ⟨sgap_any p q _ _ _ hg⟩ ⟨rgap_any p q _ _ _ hg⟩
    s0 s1 sc ⟨sadd_any _ _ _ _ _ _ _ hs⟩ ⟨radd_any _ _ _ _ _ _ _ hs⟩ d0 d1 dc ⟨ssub_any _ _ _ _ _ _ _ hd⟩ ⟨rsub_any _ _ _ _ _ _ _ hd⟩
    t0 t1 tc ⟨stimes_any _ _ _ _ _ _ ht⟩ ⟨rtimes_any _ _ _ _ _ _ ht⟩ u0 u1 uc ⟨smeet_any _ _ _ _ _ _ _ hu⟩ ⟨rmeet_any _ _ _ _ _ _ _ hu⟩
    i0 ic ⟨scmp_any _ _ _ _ _ _ hi⟩ ⟨rcmp_any _ _ _ _ _ _ hi⟩ j0 jc ⟨swithin_any _ _ _ _ _ _ hj⟩ ⟨rwithin_any _ _ _ _ _ _ hj⟩ k0 kc ⟨snear_any p q n _ _ hk⟩ ⟨rnear_any p q n _ _ hk⟩
end Go.Proofs.YtdlfnonlalkjdaaDoor
