/- The head of the laws of scale. -/
import Derived.Test.YtomgihlkbmaleaaDoorQW
namespace Go.Proofs.YtomgihlkbmaleaaDoor
open Go.RowKit M
set_option maxRecDepth 100000 in
set_option maxHeartbeats 16000000 in
theorem shead_any (w : World) (hs : Sm w) : Calls Tryd.prog 9 #[] w fun e w' => e = .returned (.bool true) ∧ Below w.heap.size w w' := by
  have M1 : Bx True := ⟨trivial⟩
  have M2 : Bx True := ⟨trivial⟩
  have M3 : Bx True := ⟨trivial⟩
  have M4 : Bx True := ⟨trivial⟩
  have M5 : Bx True := ⟨trivial⟩
  have M6 : Bx True := ⟨trivial⟩
  have M7 : Bx True := ⟨trivial⟩
  have M8 : Bx True := ⟨trivial⟩
  have M9 : Bx True := ⟨trivial⟩
  have M10 : Bx True := ⟨trivial⟩
  have M11 : Bx True := ⟨trivial⟩
  have M12 : Bx True := ⟨trivial⟩
  have M13 : Bx True := ⟨trivial⟩
  have M14 : Bx True := ⟨trivial⟩
  have M15 : Bx True := ⟨trivial⟩
  have M16 : Bx True := ⟨trivial⟩
  have S : Bx (SS w w []) := ⟨SS.start w hs⟩
  have E1 : ∀ w, (Op.equalIn 10000 23 (.agg #[.int .i64 (-12), .int .i64 12, .int .i64 0, .int .i64 0, .int .i64 0, .int .i64 0]) (.agg #[.int .i64 (-12), .int .i64 12, .int .i64 0, .int .i64 0, .int .i64 0, .int .i64 0])).run Tryd.prog w = .ok true w := eq6_is 23 und_pitch (pv [-12, 12]) (pv [-12, 12]) true (by simp)
  have E2 : ∀ w, (Op.equalIn 10000 23 (.agg #[.int .i64 24, .int .i64 (-12), .int .i64 0, .int .i64 0, .int .i64 0, .int .i64 0]) (.agg #[.int .i64 24, .int .i64 (-12), .int .i64 0, .int .i64 0, .int .i64 0, .int .i64 0])).run Tryd.prog w = .ok true w := eq6_is 23 und_pitch (pv [24, -12]) (pv [24, -12]) true (by simp)
  go_enter Tryd.func9, Tryd.ntmps9
  go_wp2_with (first
    | (clear M1; go_at_call 10; refine (octA _ S.out.sm).mono ?_; rintro e w1 ⟨rfl, B⟩
       replace S := Bx.mk ((S.out.call B.out).push #[.int .i64 (-12), .int .i64 12, .int .i64 0, .int .i64 0, .int .i64 0, .int .i64 0] 23)
       clear B)
    | (clear M2; go_at_call 10; refine (octB _ S.out.sm).mono ?_; rintro e w2 ⟨rfl, B⟩
       replace S := Bx.mk ((S.out.call B.out).push #[.int .i64 24, .int .i64 (-12), .int .i64 0, .int .i64 0, .int .i64 0, .int .i64 0] 23)
       clear B)
    | (clear M3; go_at_call 13; refine (chain3 _ S.out.sm).mono ?_; rintro e w3 ⟨g, cap, rfl, k1, k2, C, B⟩
       replace S := Bx.mk (S.out.call B.out)
       obtain ⟨a0, a1, a2, a3, a4, a5, az⟩ := S.out.six w1.heap.size 23 (.int .i64 (-12)) (.int .i64 12) (.int .i64 0) (.int .i64 0) (.int .i64 0) (.int .i64 0) (List.mem_cons_of_mem _ List.mem_cons_self)
       obtain ⟨b0, b1, b2, b3, b4, b5, bz⟩ := S.out.six w2.heap.size 23 (.int .i64 24) (.int .i64 (-12)) (.int .i64 0) (.int .i64 0) (.int .i64 0) (.int .i64 0) List.mem_cons_self
       clear B)
    | (clear M4; go_at_call 18; refine (same3 _ _ _ hs3 (lm xA) eA _ k1 (C.out.keep (above_new w3 _)) (cv_lit w3 xA 3 rfl)).mono ?_; rintro e w4 ⟨rfl, B⟩
       clear a0 a1 a2 a3 a4 a5 az b0 b1 b2 b3 b4 b5 bz
       replace S := Bx.mk (S.out.call (below_new B.out))
       replace C := Bx.mk (C.out.keep (below_new B.out))
       clear B)
    | (clear M5; go_at_call 19; refine (valid3 _ _ _ k1 C.out S.out.sm).mono ?_; rintro e w5 ⟨rfl, B⟩
       replace S := Bx.mk (S.out.call B.out)
       replace C := Bx.mk (C.out.keep B.out)
       clear B)
    | (clear M6; go_at_call 19; refine (valid0 _).mono ?_; rintro e w6 ⟨rfl, B⟩
       replace S := Bx.mk (S.out.call B.out)
       replace C := Bx.mk (C.out.keep B.out)
       clear B)
    | (clear M7; go_at_call 19; refine (validO _ _ (cv_lit w6 xO 2 rfl) (S.out.sm.keep (above_new w6 _))).mono ?_; rintro e w7 ⟨rfl, B⟩
       replace S := Bx.mk (S.out.call (below_new B.out))
       replace C := Bx.mk (C.out.keep (below_new B.out))
       clear B)
    | (clear M8; go_at_call 14; refine (steps3 _ _ _ k1 C.out S.out.sm).mono ?_; rintro e w8 ⟨g8, c8, rfl, k8, D, B⟩
       replace S := Bx.mk (S.out.call B.out)
       replace C := Bx.mk (C.out.keep B.out)
       clear B)
    | (clear M9; go_at_call 17; refine (mode3 _ _ _ k1 k2 C.out S.out.sm).mono ?_; rintro e w9 ⟨g9, c9, rfl, k9, E, B⟩
       replace S := Bx.mk (S.out.call B.out)
       replace C := Bx.mk (C.out.keep B.out)
       replace D := Bx.mk (D.out.keep B.out)
       clear B)
    | (clear M10; go_at_call 18; refine (same3 _ _ _ (stp hs3 3) (lm xB) eB _ k8 (D.out.keep (above_new w9 _)) (cv_lit w9 xB 3 rfl)).mono ?_; rintro e w10 ⟨rfl, B⟩
       replace S := Bx.mk (S.out.call (below_new B.out))
       replace C := Bx.mk (C.out.keep (below_new B.out))
       replace E := Bx.mk (E.out.keep (below_new B.out))
       clear B)
    | (clear M11; go_at_call 18; refine (same3 _ _ _ (md hs3 1 2) (lm xC) eC _ k9 (E.out.keep (above_new w10 _)) (cv_lit w10 xC 3 rfl)).mono ?_; rintro e w11 ⟨rfl, B⟩
       replace S := Bx.mk (S.out.call (below_new B.out))
       replace C := Bx.mk (C.out.keep (below_new B.out))
       clear B)
    | (clear M12; go_at_call 21; refine (near1 _ _ _ k1 C.out S.out.sm).mono ?_; rintro e w12 ⟨rfl, B⟩
       replace S := Bx.mk (S.out.call B.out)
       replace C := Bx.mk (C.out.keep B.out)
       clear B)
    | (clear M13; go_at_call 21; refine (near2 _ _ _ k1 C.out S.out.sm).mono ?_; rintro e w13 ⟨rfl, B⟩
       replace S := Bx.mk (S.out.call B.out)
       replace C := Bx.mk (C.out.keep B.out)
       clear B)
    | (clear M14; go_at_call 20; refine (degr1 _ _ _ k1 C.out S.out.sm).mono ?_; rintro e w14 ⟨rfl, B⟩
       replace S := Bx.mk (S.out.call B.out)
       replace C := Bx.mk (C.out.keep B.out)
       clear B)
    | (clear M15; go_at_call 20; refine (degr2 _ _ _ k1 C.out S.out.sm).mono ?_; rintro e w15 ⟨rfl, B⟩
       replace S := Bx.mk (S.out.call B.out)
       replace C := Bx.mk (C.out.keep B.out)
       clear B)
    | (clear M16; go_at_call 13; refine (chain12 _ S.out.sm).mono ?_; rintro e w16 ⟨rfl, B⟩
       replace S := Bx.mk (S.out.call B)
       clear B))
  go_ret
  exact ⟨rfl, S.out.bl⟩
end Go.Proofs.YtomgihlkbmaleaaDoor
