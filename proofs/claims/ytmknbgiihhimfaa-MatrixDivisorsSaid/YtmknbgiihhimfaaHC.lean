/- The chapter's examples: head of the laws. -/
import Derived.Test.YtmknbgiihhimfaaHB
namespace Go.Proofs.Ytmknbgiihhimfaa
open Go.RowKit D
set_option maxRecDepth 100000 in
set_option maxHeartbeats 16000000 in
theorem head_any (w : World) : Calls Try.prog 10 #[] w fun e w' => e = .returned (.bool true) ∧ Below w.heap.size w w' := by
  have M1 : Bx True := ⟨trivial⟩
  have M2 : Bx True := ⟨trivial⟩
  have M3 : Bx True := ⟨trivial⟩
  have M4 : Bx True := ⟨trivial⟩
  have M5 : Bx True := ⟨trivial⟩
  have M6 : Bx True := ⟨trivial⟩
  have M7 : Bx True := ⟨trivial⟩
  have M8 : Bx True := ⟨trivial⟩
  have M9 : Bx True := ⟨trivial⟩
  have M10 : Bx True := ⟨trivial⟩
  go_enter Try.func10, Try.ntmps10
  go_wp2_with (first
    | (clear M1; go_at_call 13; refine (hermM_any _ _ (cv_lit w exM 2 37 rfl)).mono ?_; rintro e w1 ⟨h1, c1, rfl, H1, B1⟩
       have HM1 := (cv_lit w exM 2 37 rfl).keep B1.out
       have K1 := below_new B1.out)
    | (clear M2; go_at_call 16; refine (kerM_any _ _ HM1).mono ?_; rintro e w2 ⟨h2, c2, rfl, H2, B2⟩
       have H12 := H1.out.1.keep B2.out)
    | (clear M3; go_at_call 18; refine (divD_any _ _ (cv_lit w2 exD 2 37 rfl)).mono ?_; rintro e w3 ⟨h3, c3, rfl, H3, B3⟩
       have K3 := below_new B3.out
       have H13 := H12.keep K3
       have H23 := H2.out.1.keep K3)
    | (clear M4; go_at_call 13; refine (hermT_any _ _ (cv_lit w3 exT 2 37 rfl)).mono ?_; rintro e w4 ⟨h4, c4, rfl, H4, B4⟩
       have K4 := below_new B4.out
       have H14 := H13.keep K4
       have H24 := H23.keep K4
       have H34 := H3.out.1.keep K4)
    | (clear M5; go_at_call 21; refine (rankR_any _ _ (cv_lit w4 exR 2 37 rfl)).mono ?_; rintro e w5 ⟨rfl, B5⟩
       have K5 := below_new B5.out
       have H15 := H14.keep K5
       have H25 := H24.keep K5
       have H35 := H34.keep K5
       have H45 := H4.out.1.keep K5)
    | (clear M6; go_at_call 21; refine (rankB_any _ _ (cv_lit w5 exB 1 37 rfl)).mono ?_; rintro e w6 ⟨rfl, B6⟩
       have K6 := below_new B6.out
       have H16 := H15.keep K6
       have H26 := H25.keep K6
       have H36 := H35.keep K6
       have H46 := H45.keep K6)
    | (clear M7; go_at_call 15; refine (same_any _ _ _ _ 2 2 (lm exH) (lm exH) _ H1.out.2.1 H1.out.2.2 (Nat.le_refl _) (by decide) (H16.keep ((Below.refl _ w6).alloc (Nat.le_refl _) _)) (cv_lit w6 exH 2 37 rfl) true (by simp)).mono ?_; rintro e w7 ⟨rfl, B7⟩
       have K7 := below_new B7
       have H27 := H26.keep K7
       have H37 := H36.keep K7
       have H47 := H46.keep K7)
    | (clear M8; go_at_call 15; refine (same_any _ _ _ _ 4 4 (lm exK) (lm exK) _ H2.out.2.1 H2.out.2.2 (Nat.le_refl _) (by decide) (H27.keep ((Below.refl _ w7).alloc (Nat.le_refl _) _)) (cv_lit w7 exK 4 37 rfl) true (by simp)).mono ?_; rintro e w8 ⟨rfl, B8⟩
       have K8 := below_new B8
       have H38 := H37.keep K8
       have H48 := H47.keep K8)
    | (clear M9; go_at_call 20; refine (ints_any _ _ _ _ 2 2 [2, 12] [2, 12] _ rfl rfl H3.out.2.1 H3.out.2.2 (Nat.le_refl _) (by decide) (H38.keep ((Below.refl _ w8).alloc (Nat.le_refl _) _)) (ci_lit w8 [2, 12] 3) true (by simp)).mono ?_; rintro e w9 ⟨rfl, B9⟩
       have K9 := below_new B9
       have H49 := H48.keep K9)
    | (clear M10; go_at_call 15; refine (same_any _ _ _ _ 1 1 (lm exU) (lm exU) _ H4.out.2.1 H4.out.2.2 (Nat.le_refl _) (by decide) (H49.keep ((Below.refl _ w9).alloc (Nat.le_refl _) _)) (cv_lit w9 exU 1 37 rfl) true (by simp)).mono ?_; rintro e w10 ⟨rfl, B10⟩
       have K10 := below_new B10))
  go_ret
  refine ⟨rfl, ?_⟩
  have B2' := B2.out
  have J2 := K1.trans (B2'.mono K1.size)
  have J3 := J2.trans (K3.mono J2.size)
  have J4 := J3.trans (K4.mono J3.size)
  have J5 := J4.trans (K5.mono J4.size)
  have J6 := J5.trans (K6.mono J5.size)
  have J7 := J6.trans (K7.mono J6.size)
  have J8 := J7.trans (K8.mono J7.size)
  have J9 := J8.trans (K9.mono J8.size)
  exact J9.trans (K10.mono J9.size)
end Go.Proofs.Ytmknbgiihhimfaa
