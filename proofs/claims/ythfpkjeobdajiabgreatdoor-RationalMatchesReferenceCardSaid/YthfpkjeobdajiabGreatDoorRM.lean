/- RationalMatchesReference: for all arguments. -/
import Derived.Test.YthfpkjeobdajiabGreatDoorRL
namespace Go.Proofs.YthfpkjeobdajiabGreatDoor
open Go.RowKit M
theorem matches_all (a1 a2 b1 b2 n d : Int) (s : ByteArray) (w : World) (tv : Tv w) (i1 : I64 a1) (i2 : I64 a2) (i3 : I64 b1) (i4 : I64 b2) (i5 : I64 n) (i6 : I64 d) (hs : s.size ≤ 281474976710656) :
    Calls Tryz.prog 3 #[RV a1 a2, RV b1 b2, .int .i64 n, .int .i64 d, .string s] w fun e w' => e = .returned (.bool true) ∧ Below w.heap.size w w' := by
  obtain ⟨x0, y0, e0, h0⟩ := res_mk (makeQ n d)
  obtain ⟨x1, y1, e1, h1⟩ := res_mk (addQ a1 a2 b1 b2)
  obtain ⟨x2, y2, e2, h2⟩ := res_mk (subQ a1 a2 b1 b2)
  obtain ⟨x3, y3, e3, h3⟩ := res_mk (mulQ a1 a2 b1 b2)
  obtain ⟨x4, y4, e4, h4⟩ := res_mk (divQ a1 a2 b1 b2)
  obtain ⟨x5, y5, e5, h5⟩ := near_some a1 a2 n i1 i2 w
  obtain ⟨x6, y6, e6, h6⟩ := simple_some a1 a2 b1 b2 i1 i2 i3 i4 w
  obtain ⟨x7, y7, e7, h7⟩ := res_mk (readQ s.data.toList)
  exact matches_walk a1 a2 b1 b2 n d s w tv x0 y0 e0 x1 y1 e1 x2 y2 e2 x3 y3 e3 x4 y4 e4 x5 y5 e5 x6 y6 e6 x7 y7 e7 _ _ _ _ _ _ _
    ⟨fun w => valid_any a1 a2 w i1 i2⟩ ⟨fun w => refValid_any a1 a2 w i1 i2⟩
    ⟨fun w => make_any n d _ w i5 i6 h0⟩ ⟨fun w => refMake_any n d _ w i5 i6 h0⟩
    ⟨fun w => add_any a1 a2 b1 b2 _ w i1 i2 i3 i4 h1⟩ ⟨fun w => refAdd_any a1 a2 b1 b2 _ w i1 i2 i3 i4 h1⟩
    ⟨fun w => sub_any a1 a2 b1 b2 _ w i1 i2 i3 i4 h2⟩ ⟨fun w => refSub_any a1 a2 b1 b2 _ w i1 i2 i3 i4 h2⟩
    ⟨fun w => mul_any a1 a2 b1 b2 _ w i1 i2 i3 i4 h3⟩ ⟨fun w => refMul_any a1 a2 b1 b2 _ w i1 i2 i3 i4 h3⟩
    ⟨fun w => div_any a1 a2 b1 b2 _ w i1 i2 i3 i4 h4⟩ ⟨fun w => refDiv_any a1 a2 b1 b2 _ w i1 i2 i3 i4 h4⟩
    ⟨fun w => near_any a1 a2 n _ _ _ w i1 i2 h5⟩ ⟨fun w => refNear_any a1 a2 n _ _ _ w i1 i2 h5⟩
    ⟨fun w => simple_any a1 a2 b1 b2 _ _ _ w i1 i2 i3 i4 h6⟩ ⟨fun w => refSimple_any a1 a2 b1 b2 _ _ _ w i1 i2 i3 i4 h6⟩
    ⟨fun w tv => by have := parse_any s w hs tv; rwa [h7] at this⟩ ⟨fun w => by have := refParse_any s w hs; rwa [h7] at this⟩
    ⟨fun w => cmpF_any a1 a2 b1 b2 w i1 i2 i3 i4⟩ ⟨fun w => refCmp_any a1 a2 b1 b2 w i1 i2 i3 i4⟩
    ⟨fun w => floorF_any a1 a2 w i1 i2⟩ ⟨fun w => refFloor_any a1 a2 w i1 i2⟩
    ⟨fun w ht => textF_any a1 a2 w i1 i2 ht⟩ ⟨fun w => refText_any a1 a2 w i1 i2⟩
end Go.Proofs.YthfpkjeobdajiabGreatDoor
