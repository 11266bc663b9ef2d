/- NaturalMatchesReference, walked. -/
import Derived.Test.YthfpkjeobdajiaaDoorFS
namespace Go.Proofs.YthfpkjeobdajiaaDoor
open Go.RowKit M
theorem St.add {w0 w w' : World} {L : List (Value × Nat)} {v : Value} {s : Nat} (S : St w0 w L) (hs : Fits s) (hr : Rd w' v (limbs s)) (hb : Below w.heap.size w w') : St w0 w' ((v, s) :: L) := S.next ((S.live.keep hb).cons ⟨hs, hr⟩) hb
theorem St.add2 {w0 w w' : World} {L : List (Value × Nat)} {v u : Value} {s r : Nat} (S : St w0 w L) (hs : Fits s) (hq : Fits r) (hr : Rd w' v (limbs s)) (hu : Rd w' u (limbs r)) (hb : Below w.heap.size w w') : St w0 w' ((v, s) :: (u, r) :: L) := S.next (((S.live.keep hb).cons ⟨hq, hu⟩).cons ⟨hs, hr⟩) hb
theorem St.bare {w0 w : World} {L : List (Value × Nat)} (S : St w0 w L) : St w0 w [] := ⟨S.below, fun p hp => by cases hp⟩
set_option maxRecDepth 100000 in
set_option maxHeartbeats 8000000 in
theorem matches_walk (ao bo : Option Addr) (n1 m1 ca cb mm s1 s2 s3 s4 r4 s5 s6 : Nat) (x c1 c2 c3 c4 c5 c6 k kc tc : Int) (v : Bool) (s t : ByteArray) (w : World) (ht : t.size ≤ 6401)
    (f1 : Fits s1) (f2 : Fits s2) (f3 : Fits s3) (f4 : Fits s4) (g4 : Fits r4) (f5 : Fits s5) (f6 : Fits s6) (fm : Fits mm)
    (H1 : Bx (∀ w', Below w.heap.size w w' → Calls Tryd.prog 10 #[.slice ao n1 ca, .slice bo m1 cb] w' (OutN w' s1 c1)))
    (G1 : Bx (∀ w', Below w.heap.size w w' → Calls Tryd.prog 11 #[.slice ao n1 ca, .slice bo m1 cb] w' (OutN w' s1 c1)))
    (H2 : Bx (∀ w', Below w.heap.size w w' → Calls Tryd.prog 12 #[.slice ao n1 ca, .slice bo m1 cb] w' (OutN w' s2 c2)))
    (G2 : Bx (∀ w', Below w.heap.size w w' → Calls Tryd.prog 13 #[.slice ao n1 ca, .slice bo m1 cb] w' (OutN w' s2 c2)))
    (H3 : Bx (∀ w', Below w.heap.size w w' → Calls Tryd.prog 14 #[.slice ao n1 ca, .slice bo m1 cb] w' (OutN w' s3 c3)))
    (G3 : Bx (∀ w', Below w.heap.size w w' → Calls Tryd.prog 15 #[.slice ao n1 ca, .slice bo m1 cb] w' (OutN w' s3 c3)))
    (H5 : Bx (∀ w', Below w.heap.size w w' → Calls Tryd.prog 18 #[.slice ao n1 ca, .int .i64 x] w' (OutN w' s5 c5)))
    (G5 : Bx (∀ w', Below w.heap.size w w' → Calls Tryd.prog 19 #[.slice ao n1 ca, .int .i64 x] w' (OutN w' s5 c5)))
    (H6 : Bx (∀ w', Below w.heap.size w w' → Calls Tryd.prog 24 #[.string s] w' (OutN w' s6 c6)))
    (G6 : Bx (∀ w', Below w.heap.size w w' → Calls Tryd.prog 25 #[.string s] w' (OutN w' s6 c6)))
    (H4 : Bx (∀ w', Below w.heap.size w w' → Calls Tryd.prog 16 #[.slice ao n1 ca, .slice bo m1 cb] w' (OutD w' s4 r4 c4)))
    (HC : Bx (∀ w', Below w.heap.size w w' → Calls Tryd.prog 20 #[.slice ao n1 ca, .slice bo m1 cb] w' fun e w2 => e = .returned (.tuple #[.int .i64 k, .int .i64 kc]) ∧ Below w'.heap.size w' w2))
    (HT : Bx (∀ w', Below w.heap.size w w' → Calls Tryd.prog 22 #[.slice ao n1 ca] w' fun e w2 => e = .returned (.tuple #[.string t, .int .i64 tc]) ∧ Below w'.heap.size w' w2))
    (HV : Bx (∀ w', Below w.heap.size w w' → Calls Tryd.prog 5 #[.slice ao n1 ca] w' fun e w2 => e = .returned (.bool v) ∧ w' = w2))
    (HM : Bx (∀ w', Below w.heap.size w w' → Calls Tryd.prog 8 #[.int .u64 mm] w' (RetNat w' mm)))
    (G4 : Bx (∀ w', Below w.heap.size w w' → Calls Tryd.prog 17 #[.slice ao n1 ca, .slice bo m1 cb] w' (OutD w' s4 r4 c4)))
    (GC : Bx (∀ w', Below w.heap.size w w' → Calls Tryd.prog 21 #[.slice ao n1 ca, .slice bo m1 cb] w' fun e w2 => e = .returned (.tuple #[.int .i64 k, .int .i64 kc]) ∧ Below w'.heap.size w' w2))
    (GT : Bx (∀ w', Below w.heap.size w w' → Calls Tryd.prog 23 #[.slice ao n1 ca] w' fun e w2 => e = .returned (.tuple #[.string t, .int .i64 tc]) ∧ Below w'.heap.size w' w2))
    (GV : Bx (∀ w', Below w.heap.size w w' → Calls Tryd.prog 6 #[.slice ao n1 ca] w' fun e w2 => e = .returned (.bool v) ∧ w' = w2))
    (GM : Bx (∀ w', Below w.heap.size w w' → Calls Tryd.prog 9 #[.int .u64 mm] w' (RetNat w' mm))) :
    Calls Tryd.prog 3 #[.slice ao n1 ca, .slice bo m1 cb, .int .i64 x, .int .u64 mm, .string s] w fun e w' => e = .returned (.bool true) ∧ Below w.heap.size w w' := by
  have S : St w w [] := ⟨Below.refl _ _, fun p hp => by cases hp⟩
  go_enter Tryd.func3, Tryd.ntmps3
  go_wp2_with fail
  refine (head_any _).mono ?_
  rintro e w1 ⟨rfl, hb⟩
  replace S := S.on hb
  clear hb
  have SB := Bx.mk S.below
  go_wp2_with fail
  refine (HV.out _ SB.out).mono ?_
  rintro e w2 ⟨rfl, rfl⟩
  go_wp2_with fail
  refine (GV.out _ SB.out).mono ?_
  rintro e w2 ⟨rfl, rfl⟩
  clear SB
  go_wp2_with fail
  refine (HM.out _ S.below).mono ?_
  rintro e w2 ⟨v2, rfl, hr, hb⟩
  replace S := S.add fm hr hb
  clear hr hb
  go_wp2_with fail
  refine (GM.out _ S.below).mono ?_
  rintro e w3 ⟨v3, rfl, hr, hb⟩
  replace S := S.add fm hr hb
  clear hr hb
  go_wp2_with fail
  refine (same_yes (a := mm) (b := mm) S.live (by simp) (by simp) rfl).mono ?_
  rintro e w4 ⟨rfl, hl, hb⟩
  replace S := S.next hl hb
  clear hl hb
  replace S := S.bare
  go_wp2_with fail
  refine (H1.out _ S.below).mono ?_
  rintro e w5 ⟨v5, rfl, hr, hb⟩
  replace S := S.add f1 hr hb
  clear hr hb
  go_wp2_with fail
  refine (G1.out _ S.below).mono ?_
  rintro e w6 ⟨v6, rfl, hr, hb⟩
  replace S := S.add f1 hr hb
  clear hr hb
  go_wp2_with fail
  refine (same_yes (a := s1) (b := s1) S.live (by simp) (by simp) rfl).mono ?_
  rintro e w7 ⟨rfl, hl, hb⟩
  replace S := S.next hl hb
  clear hl hb
  replace S := S.bare
  go_wp2_with fail
  refine (H2.out _ S.below).mono ?_
  rintro e w8 ⟨v8, rfl, hr, hb⟩
  replace S := S.add f2 hr hb
  clear hr hb
  go_wp2_with fail
  refine (G2.out _ S.below).mono ?_
  rintro e w9 ⟨v9, rfl, hr, hb⟩
  replace S := S.add f2 hr hb
  clear hr hb
  go_wp2_with fail
  refine (same_yes (a := s2) (b := s2) S.live (by simp) (by simp) rfl).mono ?_
  rintro e w10 ⟨rfl, hl, hb⟩
  replace S := S.next hl hb
  clear hl hb
  replace S := S.bare
  go_wp2_with fail
  refine (H3.out _ S.below).mono ?_
  rintro e w11 ⟨v11, rfl, hr, hb⟩
  replace S := S.add f3 hr hb
  clear hr hb
  go_wp2_with fail
  refine (G3.out _ S.below).mono ?_
  rintro e w12 ⟨v12, rfl, hr, hb⟩
  replace S := S.add f3 hr hb
  clear hr hb
  go_wp2_with fail
  refine (same_yes (a := s3) (b := s3) S.live (by simp) (by simp) rfl).mono ?_
  rintro e w13 ⟨rfl, hl, hb⟩
  replace S := S.next hl hb
  clear hl hb
  replace S := S.bare
  go_wp2_with fail
  refine (H4.out _ S.below).mono ?_
  rintro e w14 ⟨v14, u14, rfl, hr, hu, hb⟩
  replace S := S.add2 f4 g4 hr hu hb
  clear hr hu hb
  go_wp2_with fail
  refine (G4.out _ S.below).mono ?_
  rintro e w15 ⟨v15, u15, rfl, hr, hu, hb⟩
  replace S := S.add2 f4 g4 hr hu hb
  clear hr hu hb
  go_wp2_with fail
  refine (same_yes (va := v14) (vb := v15) (a := s4) (b := s4) S.live (by simp) (by simp) rfl).mono ?_
  rintro e w16 ⟨rfl, hl, hb⟩
  replace S := S.next hl hb
  clear hl hb
  go_wp2_with fail
  refine (same_yes (va := u14) (vb := u15) (a := r4) (b := r4) S.live (by simp) (by simp) rfl).mono ?_
  rintro e w17 ⟨rfl, hl, hb⟩
  replace S := S.next hl hb
  clear hl hb
  replace S := S.bare
  go_wp2_with fail
  refine (H5.out _ S.below).mono ?_
  rintro e w18 ⟨v18, rfl, hr, hb⟩
  replace S := S.add f5 hr hb
  clear hr hb
  go_wp2_with fail
  refine (G5.out _ S.below).mono ?_
  rintro e w19 ⟨v19, rfl, hr, hb⟩
  replace S := S.add f5 hr hb
  clear hr hb
  go_wp2_with fail
  refine (same_yes (a := s5) (b := s5) S.live (by simp) (by simp) rfl).mono ?_
  rintro e w20 ⟨rfl, hl, hb⟩
  replace S := S.next hl hb
  clear hl hb
  replace S := S.bare
  go_wp2_with fail
  refine (HC.out _ S.below).mono ?_
  rintro e w21 ⟨rfl, hb⟩
  replace S := S.on hb
  clear hb
  go_wp2_with fail
  refine (GC.out _ S.below).mono ?_
  rintro e w22 ⟨rfl, hb⟩
  replace S := S.on hb
  clear hb
  go_wp2_with fail
  refine (HT.out _ S.below).mono ?_
  rintro e w23 ⟨rfl, hb⟩
  replace S := S.on hb
  clear hb
  go_wp2_with fail
  refine (GT.out _ S.below).mono ?_
  rintro e w24 ⟨rfl, hb⟩
  replace S := S.on hb
  clear hb
  go_wp2_with fail
  refine (H6.out _ S.below).mono ?_
  rintro e w25 ⟨v25, rfl, hr, hb⟩
  replace S := S.add f6 hr hb
  clear hr hb
  go_wp2_with fail
  refine (G6.out _ S.below).mono ?_
  rintro e w26 ⟨v26, rfl, hr, hb⟩
  replace S := S.add f6 hr hb
  clear hr hb
  go_wp2_with fail
  refine (same_yes (a := s6) (b := s6) S.live (by simp) (by simp) rfl).mono ?_
  rintro e w27 ⟨rfl, hl, hb⟩
  replace S := S.next hl hb
  clear hl hb
  go_wp2
  go_ret
  exact ⟨rfl, S.below⟩
theorem matches_all (ao bo : Option Addr) (A B : List Int) (n1 m1 ca cb mm : Nat) (x : Int) (s : ByteArray) (w : World) (hA : Row w ao A n1 ca) (hB : Row w bo B m1 cb) (hx0 : -9223372036854775808 ≤ x) (hx1 : x ≤ 9223372036854775807) (hm : mm < 18446744073709551616) (hs : s.size ≤ maxLen) :
    Calls Tryd.prog 3 #[.slice ao n1 ca, .slice bo m1 cb, .int .i64 x, .int .u64 mm, .string s] w fun e w' => e = .returned (.bool true) ∧ Below w.heap.size w w' := by
  obtain ⟨s1, c1, f1, h1, g1⟩ := add_pair hA hB
  obtain ⟨s2, c2, f2, h2, g2⟩ := sub_pair hA hB
  obtain ⟨s3, c3, f3, h3, g3⟩ := mul_pair hA hB
  obtain ⟨s4, r4, c4, f4, q4, h4, g4⟩ := div_pair hA hB
  obtain ⟨s5, c5, f5, h5, g5⟩ := pow_pair x hx0 hx1 hA
  obtain ⟨k, kc, hC, gC⟩ := cmp_pair hA hB
  obtain ⟨t, tc, ht, hT, gT⟩ := text_pair hA
  obtain ⟨s6, c6, f6, h6, g6⟩ := parse_pair s hs
  exact matches_walk ao bo n1 m1 ca cb mm s1 s2 s3 s4 r4 s5 s6 x c1 c2 c3 c4 c5 c6 k kc tc (isNat A) s t w ht f1 f2 f3 f4 q4 f5 f6 (fits_u64 hm)
    (H1 := ⟨h1⟩) (G1 := ⟨g1⟩) (H2 := ⟨h2⟩) (G2 := ⟨g2⟩) (H3 := ⟨h3⟩) (G3 := ⟨g3⟩) (H5 := ⟨h5⟩) (G5 := ⟨g5⟩) (H6 := ⟨fun w' _ => h6 w'⟩) (G6 := ⟨fun w' _ => g6 w'⟩)
    (H4 := ⟨h4⟩) (G4 := ⟨g4⟩) (HC := ⟨hC⟩) (GC := ⟨gC⟩) (HT := ⟨hT⟩) (GT := ⟨gT⟩)
    (HV := ⟨fun w' hb => valid_any ao A n1 ca w' hA.len (hA.keep hb).cells⟩) (GV := ⟨fun w' hb => refValid_any ao A n1 ca w' hA.len (hA.keep hb).cells⟩)
    (HM := ⟨fun w' _ => make_any mm w' hm⟩) (GM := ⟨fun w' _ => refMake_any mm w' hm⟩)
end Go.Proofs.YthfpkjeobdajiaaDoor
