/- the reference's Text of rational numbers. -/
import Derived.Test.YthfpkjeobdajiabGreatDoorRG
import Derived.Test.YthfpkjeobdajiabGreatDoorRB
namespace Go.Proofs.YthfpkjeobdajiabGreatDoor
open Go.RowKit M
/-- What stays while the reference's text is put together. -/
structure TyS (k : Nat) (w0 : World) (n d : Int) (w : World) : Prop where
  c0 : w.cell? ⟨k, 0, none⟩ = some (.int .i64 n)
  c1 : w.cell? ⟨k, 1, none⟩ = some (.int .i64 d)
  sz : k < w.heap.size
  bl : Below k w0 w
theorem TyS.call {k : Nat} {w0 : World} {n d : Int} {w w' : World} (hb : Below w.heap.size w w') (h : TyS k w0 n d w) : TyS k w0 n d w' := by
  have hs := h.sz
  have h2 := hb.size
  exact ⟨kc hb h.c0 hs, kc hb h.c1 hs, by omega, h.bl.trans (hb.mono (by omega))⟩
theorem TyS.drew {k : Nat} {w0 : World} {n d : Int} {w : World} (h : TyS k w0 n d w) : TyS k w0 n d w.drew := TyS.call (Below.refl _ _).drew h
theorem TyS.all {k : Nat} {w0 : World} {n d : Int} {w : World} (h : TyS k w0 n d w) : TyS k w0 n d w ∧ w.cell? ⟨k, 0, none⟩ = some (.int .i64 n) ∧ w.cell? ⟨k, 1, none⟩ = some (.int .i64 d) := ⟨h, h.c0, h.c1⟩
theorem TyS.allX {k : Nat} {w0 : World} {n d : Int} {w : World} {X : Prop} (h : TyS k w0 n d w ∧ X) : TyS k w0 n d w ∧ w.cell? ⟨k, 0, none⟩ = some (.int .i64 n) ∧ w.cell? ⟨k, 1, none⟩ = some (.int .i64 d) := h.1.all
theorem TyS.start (w : World) (n d : Int) : TyS w.heap.size w n d (w.alloc (.cells #[.int .i64 n, .int .i64 d] 23)) :=
  ⟨by simp [go_sem], by simp [go_sem], by simp, (Below.refl _ _).alloc (Nat.le_refl _) _⟩
theorem refText_bad (n d : Int) (w : World) (i1 : I64 n) (i2 : I64 d) (hv : ¬ validQ n d = true) :
    Calls Tryz.prog 28 #[RV n d] w fun e w' => e = .returned (.tuple #[.string (txQ n d), .int .i64 (txC n d)]) ∧ Below w.heap.size w w' := by
  have e1 : txQ n d = ByteArray.empty := by simp [txQ, hv]
  have e2 : txC n d = 1 := by simp [txC, hv]
  rw [e1, e2]
  have HV := Bx.mk (fun w => refValid_any n d w i1 i2)
  rw [show validQ n d = false by simpa using hv] at HV
  have S := Bx.mk (TyS.start w n d)
  clear e1 e2 hv i1 i2
  go_enter Tryz.func28, Tryz.ntmps28
  go_wp2_with fail
  refine (HV.out _).mono ?_
  rintro e w2 ⟨rfl, hb⟩
  have S := Bx.mk (TyS.call hb S.out)
  clear hb
  go_wp2
  go_ret2
  exact ⟨rfl, S.out.bl⟩
set_option maxRecDepth 20000 in
theorem refText_pos1 (n : Int) (w : World) (hv : validQ n 1 = true) (hn : 0 ≤ n) :
    Calls Tryz.prog 28 #[RV n 1] w fun e w' => e = .returned (.tuple #[.string (strL (textL n 1)), .int .i64 0]) ∧ Below w.heap.size w w' := by
  have B := validQ_bd _ _ hv
  have l1 := B.lo
  have l2 := B.hi
  have l3 := B.pos
  have l4 := B.top
  have HV := Bx.mk (fun w => refValid_any n 1 w ⟨by omega, by omega⟩ ⟨by omega, by omega⟩)
  rw [hv] at HV
  have HD := Bx.mk (fun w => refDigits_any n.natAbs w (by omega))
  obtain ⟨m, hm⟩ : ∃ m, max n (-n) = m := ⟨_, rfl⟩
  have hm2 : (n.natAbs : Int) = m := by omega
  rw [hm2] at HD
  have z1 := digits_len n.natAbs (by omega)
  obtain ⟨s1, h1⟩ : ∃ s, strL (Lib.decDigits n.natAbs) = s := ⟨_, rfl⟩
  have z2 : s1.size ≤ 10 := by rw [← h1, strL_size]; exact z1
  rw [h1] at HD
  have H1 := Bx.mk h1
  have HT : Bx (textL n 1 = Lib.decDigits n.natAbs) := ⟨by
    rw [textL_parts]; unfold bodyL
    rw [if_neg (show ¬ n < 0 by omega), if_pos rfl, List.append_nil]
    
    rfl⟩
  have S := Bx.mk (TyS.start w n 1)
  clear B hv z1  h1 hm2
  go_enter Tryz.func28, Tryz.ntmps28
  go_wp2_with fail
  refine (HV.out _).mono ?_
  rintro e w2 ⟨rfl, hb⟩
  have S := Bx.mk (TyS.call hb S.out)
  obtain ⟨c0, c1, cs, cb⟩ := S.out
  clear hb cb
  go_wp2_with fail
  refine (HD.out _).mono ?_
  rintro e w3 ⟨rfl, hb⟩
  have S := Bx.mk (TyS.call hb S.out)
  clear c0 c1 cs
  obtain ⟨c0, c1, cs, cb⟩ := S.out
  clear hb cb
  have y1 : ¬ 9223372036854775807 < 1 + s1.size := by omega
  go_wp2
  go_ret2
  refine ⟨?_, S.out.bl⟩
  rw [HT.out, H1.out]
  rfl
set_option maxRecDepth 20000 in
theorem refText_posd (n d : Int) (w : World) (hv : validQ n d = true) (hn : 0 ≤ n) (hd : ¬ d = 1) :
    Calls Tryz.prog 28 #[RV n d] w fun e w' => e = .returned (.tuple #[.string (strL (textL n d)), .int .i64 0]) ∧ Below w.heap.size w w' := by
  have B := validQ_bd _ _ hv
  have l1 := B.lo
  have l2 := B.hi
  have l3 := B.pos
  have l4 := B.top
  have HV := Bx.mk (fun w => refValid_any n d w ⟨by omega, by omega⟩ ⟨by omega, by omega⟩)
  rw [hv] at HV
  have HD := Bx.mk (fun w => refDigits_any n.natAbs w (by omega))
  obtain ⟨m, hm⟩ : ∃ m, max n (-n) = m := ⟨_, rfl⟩
  have hm2 : (n.natAbs : Int) = m := by omega
  rw [hm2] at HD
  have z1 := digits_len n.natAbs (by omega)
  obtain ⟨s1, h1⟩ : ∃ s, strL (Lib.decDigits n.natAbs) = s := ⟨_, rfl⟩
  have z2 : s1.size ≤ 10 := by rw [← h1, strL_size]; exact z1
  rw [h1] at HD
  have H1 := Bx.mk h1
  have HE := Bx.mk (fun w => refDigits_any d.toNat w (by omega))
  rw [show (d.toNat : Int) = d by omega] at HE
  have z3 := digits_len d.toNat (by omega)
  obtain ⟨s2, h2⟩ : ∃ s, strL (Lib.decDigits d.toNat) = s := ⟨_, rfl⟩
  have z4 : s2.size ≤ 10 := by rw [← h2, strL_size]; exact z3
  rw [h2] at HE
  have H2 := Bx.mk h2
  have hd1 : (d == 1) = false := by simpa using hd
  have hd2 : (d != 1) = true := by simpa using hd
  have HT : Bx (textL n d = Lib.decDigits n.natAbs ++ (47 :: Lib.decDigits d.toNat)) := ⟨by
    rw [textL_parts]; unfold bodyL
    rw [if_neg (show ¬ n < 0 by omega), if_neg hd]
    rw [show Lib.itoa d = Lib.decDigits d.toNat by unfold Lib.itoa; rw [if_neg (by omega)]]
    rfl⟩
  have S := Bx.mk (TyS.start w n d)
  clear B hv z1 z3 h2 h1 hm2
  go_enter Tryz.func28, Tryz.ntmps28
  go_wp2_with fail
  refine (HV.out _).mono ?_
  rintro e w2 ⟨rfl, hb⟩
  have S := Bx.mk (TyS.call hb S.out)
  obtain ⟨c0, c1, cs, cb⟩ := S.out
  clear hb cb
  go_wp2_with fail
  refine (HD.out _).mono ?_
  rintro e w3 ⟨rfl, hb⟩
  have S := Bx.mk (TyS.call hb S.out)
  clear c0 c1 cs
  obtain ⟨c0, c1, cs, cb⟩ := S.out
  clear hb cb
  have y1 : ¬ 9223372036854775807 < 1 + s1.size := by omega
  have y2 : ¬ 9223372036854775807 < s1.size + 1 := by omega
  have y3 : ¬ 9223372036854775807 < s1.size + 1 + s2.size := by omega
  go_wp2_with fail
  refine (HE.out _).mono ?_
  rintro e w4 ⟨rfl, hb⟩
  have S := Bx.mk (TyS.call hb S.out)
  clear c0 c1 cs hb
  go_wp2
  go_ret2
  refine ⟨?_, S.out.bl⟩
  rw [HT.out, ← H1.out, ← H2.out]
  rw [show strL (Lib.decDigits n.natAbs ++ 47 :: Lib.decDigits d.toNat) = strL (Lib.decDigits n.natAbs) ++ strL [47] ++ strL (Lib.decDigits d.toNat) by simp only [strL_append]; congr 1; simp]
  rfl
set_option maxRecDepth 20000 in
theorem refText_neg1 (n : Int) (w : World) (hv : validQ n 1 = true) (hn : n < 0) :
    Calls Tryz.prog 28 #[RV n 1] w fun e w' => e = .returned (.tuple #[.string (strL (textL n 1)), .int .i64 0]) ∧ Below w.heap.size w w' := by
  have B := validQ_bd _ _ hv
  have l1 := B.lo
  have l2 := B.hi
  have l3 := B.pos
  have l4 := B.top
  have HV := Bx.mk (fun w => refValid_any n 1 w ⟨by omega, by omega⟩ ⟨by omega, by omega⟩)
  rw [hv] at HV
  have HD := Bx.mk (fun w => refDigits_any n.natAbs w (by omega))
  obtain ⟨m, hm⟩ : ∃ m, max n (-n) = m := ⟨_, rfl⟩
  have hm2 : (n.natAbs : Int) = m := by omega
  rw [hm2] at HD
  have z1 := digits_len n.natAbs (by omega)
  obtain ⟨s1, h1⟩ : ∃ s, strL (Lib.decDigits n.natAbs) = s := ⟨_, rfl⟩
  have z2 : s1.size ≤ 10 := by rw [← h1, strL_size]; exact z1
  rw [h1] at HD
  have H1 := Bx.mk h1
  have HT : Bx (textL n 1 = [45] ++ Lib.decDigits n.natAbs) := ⟨by
    rw [textL_parts]; unfold bodyL
    rw [if_pos hn, if_pos rfl, List.append_nil]
    
    ⟩
  have S := Bx.mk (TyS.start w n 1)
  clear B hv z1  h1 hm2
  go_enter Tryz.func28, Tryz.ntmps28
  go_wp2_with fail
  refine (HV.out _).mono ?_
  rintro e w2 ⟨rfl, hb⟩
  have S := Bx.mk (TyS.call hb S.out)
  obtain ⟨c0, c1, cs, cb⟩ := S.out
  clear hb cb
  go_wp2_with fail
  refine (HD.out _).mono ?_
  rintro e w3 ⟨rfl, hb⟩
  have S := Bx.mk (TyS.call hb S.out)
  clear c0 c1 cs
  obtain ⟨c0, c1, cs, cb⟩ := S.out
  clear hb cb
  have y1 : ¬ 9223372036854775807 < 1 + s1.size := by omega
  go_wp2
  go_ret2
  refine ⟨?_, S.out.bl⟩
  rw [HT.out, ← strL_append, H1.out]
  rfl
set_option maxRecDepth 20000 in
theorem refText_negd (n d : Int) (w : World) (hv : validQ n d = true) (hn : n < 0) (hd : ¬ d = 1) :
    Calls Tryz.prog 28 #[RV n d] w fun e w' => e = .returned (.tuple #[.string (strL (textL n d)), .int .i64 0]) ∧ Below w.heap.size w w' := by
  have B := validQ_bd _ _ hv
  have l1 := B.lo
  have l2 := B.hi
  have l3 := B.pos
  have l4 := B.top
  have HV := Bx.mk (fun w => refValid_any n d w ⟨by omega, by omega⟩ ⟨by omega, by omega⟩)
  rw [hv] at HV
  have HD := Bx.mk (fun w => refDigits_any n.natAbs w (by omega))
  obtain ⟨m, hm⟩ : ∃ m, max n (-n) = m := ⟨_, rfl⟩
  have hm2 : (n.natAbs : Int) = m := by omega
  rw [hm2] at HD
  have z1 := digits_len n.natAbs (by omega)
  obtain ⟨s1, h1⟩ : ∃ s, strL (Lib.decDigits n.natAbs) = s := ⟨_, rfl⟩
  have z2 : s1.size ≤ 10 := by rw [← h1, strL_size]; exact z1
  rw [h1] at HD
  have H1 := Bx.mk h1
  have HE := Bx.mk (fun w => refDigits_any d.toNat w (by omega))
  rw [show (d.toNat : Int) = d by omega] at HE
  have z3 := digits_len d.toNat (by omega)
  obtain ⟨s2, h2⟩ : ∃ s, strL (Lib.decDigits d.toNat) = s := ⟨_, rfl⟩
  have z4 : s2.size ≤ 10 := by rw [← h2, strL_size]; exact z3
  rw [h2] at HE
  have H2 := Bx.mk h2
  have hd1 : (d == 1) = false := by simpa using hd
  have hd2 : (d != 1) = true := by simpa using hd
  have HT : Bx (textL n d = [45] ++ Lib.decDigits n.natAbs ++ (47 :: Lib.decDigits d.toNat)) := ⟨by
    rw [textL_parts]; unfold bodyL
    rw [if_pos hn, if_neg hd]
    rw [show Lib.itoa d = Lib.decDigits d.toNat by unfold Lib.itoa; rw [if_neg (by omega)]]
    simp only [List.append_assoc]⟩
  have S := Bx.mk (TyS.start w n d)
  clear B hv z1 z3 h2 h1 hm2
  go_enter Tryz.func28, Tryz.ntmps28
  go_wp2_with fail
  refine (HV.out _).mono ?_
  rintro e w2 ⟨rfl, hb⟩
  have S := Bx.mk (TyS.call hb S.out)
  obtain ⟨c0, c1, cs, cb⟩ := S.out
  clear hb cb
  go_wp2_with fail
  refine (HD.out _).mono ?_
  rintro e w3 ⟨rfl, hb⟩
  have S := Bx.mk (TyS.call hb S.out)
  clear c0 c1 cs
  obtain ⟨c0, c1, cs, cb⟩ := S.out
  clear hb cb
  have y1 : ¬ 9223372036854775807 < 1 + s1.size := by omega
  have y2 : ¬ 9223372036854775807 < 1 + s1.size + 1 := by omega
  have y3 : ¬ 9223372036854775807 < 1 + s1.size + 1 + s2.size := by omega
  go_wp2_with fail
  refine (HE.out _).mono ?_
  rintro e w4 ⟨rfl, hb⟩
  have S := Bx.mk (TyS.call hb S.out)
  clear c0 c1 cs hb
  go_wp2
  go_ret2
  refine ⟨?_, S.out.bl⟩
  rw [HT.out, ← H1.out, ← H2.out]
  rw [show strL ([45] ++ Lib.decDigits n.natAbs ++ 47 :: Lib.decDigits d.toNat) = strL [45] ++ strL (Lib.decDigits n.natAbs) ++ strL [47] ++ strL (Lib.decDigits d.toNat) by simp only [strL_append]; congr 1; simp]
  rfl
/-- The reference's Text: the same string and error as the package's. -/
theorem refText_any (n d : Int) (w : World) (i1 : I64 n) (i2 : I64 d) :
    Calls Tryz.prog 28 #[RV n d] w fun e w' => e = .returned (.tuple #[.string (txQ n d), .int .i64 (txC n d)]) ∧ Below w.heap.size w w' := by
  by_cases hv : validQ n d = true
  · have e1 : txQ n d = strL (textL n d) := by simp [txQ, hv]
    have e2 : txC n d = 0 := by simp [txC, hv]
    rw [e1, e2]
    by_cases hn : n < 0
    · by_cases hd : d = 1
      · subst hd; exact refText_neg1 n w hv hn
      · exact refText_negd n d w hv hn hd
    · by_cases hd : d = 1
      · subst hd; exact refText_pos1 n w hv (by omega)
      · exact refText_posd n d w hv (by omega) hd
  · exact refText_bad n d w i1 i2 hv
end Go.Proofs.YthfpkjeobdajiabGreatDoor
