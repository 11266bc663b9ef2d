/- the reference's Parse. -/
import Derived.Test.YthfpkjeobdajiabGreatDoorRI
namespace Go.Proofs.YthfpkjeobdajiabGreatDoor
open Go.RowKit M
theorem plc_start (w : World) : Plc (w.alloc (.cells #[.int .i64 0, .int .i64 0] 23)) w.heap.size := ⟨by simp, by simp [go_sem], by simp [go_sem], by simp [go_sem], by simp [go_sem]⟩
theorem extract_list (s : ByteArray) (a b : Nat) (hb : b ≤ s.size) : (s.extract a b).data.toList = (s.data.toList.take b).drop a := by
  simp [ByteArray.data_extract, Array.toList_extract, List.drop_take]
theorem sl_eq (a b : ByteArray) : (a.toList == b.toList) = decide (a = b) := by
  rw [ByteArray.toList_eq, ByteArray.toList_eq]
  by_cases h : a = b
  · subst h; simp
  · rw [decide_eq_false h]
    simp only [beq_eq_false_iff_ne, ne_eq]
    intro h'; exact h (ByteArray.ext (Array.toList_inj.1 h'))
set_option maxRecDepth 20000 in
set_option maxHeartbeats 1000000 in
theorem refParse_po (s t : ByteArray) (N : Int) (w : World) (hs : s.size ≤ 281474976710656) (hp : 0 < s.size) (hq : ((s[0].toNat : Int) == 45) = false) (ht : s = t) (hbef : Bx (∀ j (h : j < t.size), t[j].toNat ≠ 47)) (hN : numR t.data.toList = N) (q : ByteArray) (c : Int) (HT : Bx (∀ w, Calls Tryz.prog 28 #[RV N 1] w fun e w' => e = .returned (.tuple #[.string q, .int .i64 c]) ∧ Below w.heap.size w w')) (r : Res)
    (ho : N < 0 ∧ r = ⟨0, 0, 8⟩ ∨ 0 ≤ N ∧ False ∧ r = ⟨0, 0, 8⟩ ∨ 0 ≤ N ∧ True ∧ ¬ c = 0 ∧ r = ⟨0, 0, 8⟩ ∨ 0 ≤ N ∧ True ∧ c = 0 ∧ ¬ q = s ∧ r = ⟨0, 0, 8⟩ ∨ 0 ≤ N ∧ True ∧ c = 0 ∧ q = s ∧ r = ⟨N, 1, 0⟩) :
    Calls Tryz.prog 22 #[.string s] w (OutR r w) := by
  have nb := numR_bounds t.data.toList
  rw [hN] at nb
  obtain ⟨n0, n1⟩ := nb
  have n1 : N ≤ 9999999999 := by omega
  have HN := Bx.mk (refNumber_any t)
  rw [hN] at HN
  subst ht
  have HO := Bx.mk ho
  have hB := Bx.mk (show Below w.heap.size w (w.alloc (.cells #[.int .i64 0, .int .i64 0] 23)) from (Below.refl _ _).alloc (Nat.le_refl _) _)
  have P := Bx.mk (plc_start w)
  clear ho hN 
  go_enter Tryz.func22, Tryz.ntmps22
  go_wp2_with fail
  go_loop [5, 6] (fun av iv => ∃ k : Nat, k ≤ s.size ∧ iv = .int .i64 k ∧ av = .int .i64 s.size) (fun _ iv => s.size - (intOf iv).toNat)
  case atStart => exact ⟨0, Nat.zero_le _, rfl, rfl⟩
  case round =>
    obtain ⟨k, hk', rfl, rfl⟩ := hrel
    by_cases hlt : k < s.size
    · have hkt : k < s.size := by omega
      have hne : ((s[k].toNat : Int) == 47) = false := by
        have := hbef.out k hkt 
        simp; omega
      go_wp2
      go_round
      case rel => exact ⟨k + 1, by omega, by go_num, rfl⟩
      case measure => simp [intOf]; omega
    · obtain rfl : k = s.size := by omega
      clear hbef
      go_wp2_with fail
      with_reducible refine (HN.out _).mono ?_
      rintro e w1 ⟨rfl, rfl⟩
      rcases HO.out with ⟨g, rfl⟩ | ⟨g, g2, rfl⟩ | ⟨g, g2, g3, rfl⟩ | ⟨g, g2, g3, g4, rfl⟩ | ⟨g, g2, g3, g4, rfl⟩
      · clear HO
        obtain ⟨p0, p1, p2, p3, p4⟩ := P.out
        go_wp2_with fail
        (try simp only [Exit.inBlock, Exit.then])
        refine bodyPost_ret_by (v := .tuple #[RV 0 0, .int .i64 8]) (by simp [results, Tryz.results22, go_sem, p0, p1, p2]) rfl ?_
        exact ⟨rfl, by repeat (first | exact hB.out | apply below_drewN | refine Below.setCell ?_ (by first | omega | (simp <;> omega)) _ | refine Below.alloc ?_ (by first | omega | (simp <;> omega)) _)⟩

      · exact g2.elim
      · have hc1 : (c != 0) = true := by simpa using g3
        have hc2 : (c == 0) = false := by simpa using g3
        have K1 : Cap ((w.alloc (.cells #[.int .i64 0, .int .i64 0] 23)).alloc (.cells #[.int .i64 N, .int .i64 1] 23)) (w.heap.size + 1) N 1 := ⟨by simp, by simp [go_sem], by simp [go_sem]⟩
        have P2 : Plc ((w.alloc (.cells #[.int .i64 0, .int .i64 0] 23)).alloc (.cells #[.int .i64 N, .int .i64 1] 23)) w.heap.size := ⟨by simp <;> omega, by simp [go_sem], by simp [go_sem], by simp [go_sem], by simp [go_sem]⟩
        have hB2 : Below w.heap.size w ((w.alloc (.cells #[.int .i64 0, .int .i64 0] 23)).alloc (.cells #[.int .i64 N, .int .i64 1] 23)) := hB.out.alloc hB.out.size _
        have hK1 := Bx.mk K1
        have hP2 := Bx.mk P2
        have hB2 := Bx.mk hB2
        clear HO K1 P2
        go_wp2_with fail
        refine (HT.out _).mono ?_
        rintro e w4 ⟨rfl, hb⟩
        have hB := Bx.mk (hB2.out.trans (hb.mono hB2.out.size))
        obtain ⟨k0, k1, k2⟩ := hK1.out.keep hb
        obtain ⟨p0, p1, p2, p3, p4⟩ := hP2.out.keep hb
        clear hb hK1 hP2 hB2
        go_wp2_with fail
        (try simp only [Exit.inBlock, Exit.then])
        refine bodyPost_ret_by (v := .tuple #[RV 0 0, .int .i64 8]) (by simp [results, Tryz.results22, go_sem, p0, p1, p2]) rfl ?_
        exact ⟨rfl, by repeat (first | exact hB.out | apply below_drewN | refine Below.setCell ?_ (by first | omega | (simp <;> omega)) _ | refine Below.alloc ?_ (by first | omega | (simp <;> omega)) _)⟩
      · subst g3
        have hq1 : (q.toList == s.toList) = false := by rw [sl_eq]; simp [g4]
        have hq2 : (q.toList != s.toList) = true := by simp only [bne, hq1]; rfl
        clear g4
        have K1 : Cap ((w.alloc (.cells #[.int .i64 0, .int .i64 0] 23)).alloc (.cells #[.int .i64 N, .int .i64 1] 23)) (w.heap.size + 1) N 1 := ⟨by simp, by simp [go_sem], by simp [go_sem]⟩
        have P2 : Plc ((w.alloc (.cells #[.int .i64 0, .int .i64 0] 23)).alloc (.cells #[.int .i64 N, .int .i64 1] 23)) w.heap.size := ⟨by simp <;> omega, by simp [go_sem], by simp [go_sem], by simp [go_sem], by simp [go_sem]⟩
        have hB2 : Below w.heap.size w ((w.alloc (.cells #[.int .i64 0, .int .i64 0] 23)).alloc (.cells #[.int .i64 N, .int .i64 1] 23)) := hB.out.alloc hB.out.size _
        have hK1 := Bx.mk K1
        have hP2 := Bx.mk P2
        have hB2 := Bx.mk hB2
        clear HO K1 P2
        go_wp2_with fail
        refine (HT.out _).mono ?_
        rintro e w4 ⟨rfl, hb⟩
        have hB := Bx.mk (hB2.out.trans (hb.mono hB2.out.size))
        obtain ⟨k0, k1, k2⟩ := hK1.out.keep hb
        obtain ⟨p0, p1, p2, p3, p4⟩ := hP2.out.keep hb
        clear hb hK1 hP2 hB2
        go_wp2_with fail
        (try simp only [Exit.inBlock, Exit.then])
        refine bodyPost_ret_by (v := .tuple #[RV 0 0, .int .i64 8]) (by simp [results, Tryz.results22, go_sem, p0, p1, p2]) rfl ?_
        exact ⟨rfl, by repeat (first | exact hB.out | apply below_drewN | refine Below.setCell ?_ (by first | omega | (simp <;> omega)) _ | refine Below.alloc ?_ (by first | omega | (simp <;> omega)) _)⟩
      · subst g3
        have hq1 : (q.toList == s.toList) = true := by rw [sl_eq]; simp [g4]
        have hq2 : (q.toList != s.toList) = false := by simp only [bne, hq1]; rfl
        clear g4
        have K1 : Cap ((w.alloc (.cells #[.int .i64 0, .int .i64 0] 23)).alloc (.cells #[.int .i64 N, .int .i64 1] 23)) (w.heap.size + 1) N 1 := ⟨by simp, by simp [go_sem], by simp [go_sem]⟩
        have P2 : Plc ((w.alloc (.cells #[.int .i64 0, .int .i64 0] 23)).alloc (.cells #[.int .i64 N, .int .i64 1] 23)) w.heap.size := ⟨by simp <;> omega, by simp [go_sem], by simp [go_sem], by simp [go_sem], by simp [go_sem]⟩
        have hB2 : Below w.heap.size w ((w.alloc (.cells #[.int .i64 0, .int .i64 0] 23)).alloc (.cells #[.int .i64 N, .int .i64 1] 23)) := hB.out.alloc hB.out.size _
        have hK1 := Bx.mk K1
        have hP2 := Bx.mk P2
        have hB2 := Bx.mk hB2
        clear HO K1 P2
        go_wp2_with fail
        refine (HT.out _).mono ?_
        rintro e w4 ⟨rfl, hb⟩
        have hB := Bx.mk (hB2.out.trans (hb.mono hB2.out.size))
        obtain ⟨k0, k1, k2⟩ := hK1.out.keep hb
        obtain ⟨p0, p1, p2, p3, p4⟩ := hP2.out.keep hb
        clear hb hK1 hP2 hB2
        go_wp2_with fail
        (try simp only [Exit.inBlock, Exit.then])
        refine bodyPost_ret_by (v := .tuple #[RV N 1, .int .i64 0]) (by simp [results, Tryz.results22, go_sem, p0, p1, p2]) rfl ?_
        exact ⟨rfl, by repeat (first | exact hB.out | apply below_drewN | refine Below.setCell ?_ (by first | omega | (simp <;> omega)) _ | refine Below.alloc ?_ (by first | omega | (simp <;> omega)) _)⟩
set_option maxRecDepth 20000 in
set_option maxHeartbeats 1000000 in
theorem refParse_ps (s t : ByteArray) (N D : Int) (w : World) (hs : s.size ≤ 281474976710656) (hp : 0 < s.size) (hq : ((s[0].toNat : Int) == 45) = false) (ht : s = t) (K : Nat) (hK : K < t.size) (hk : t[K].toNat = 47) (hbef : Bx (∀ j (h : j < t.size), j < K → t[j].toNat ≠ 47)) (hN : numR (t.data.toList.take K) = N) (hD : numR (t.data.toList.drop (K + 1)) = D) (q : ByteArray) (c : Int) (HT : Bx (∀ w, Calls Tryz.prog 28 #[RV N D] w fun e w' => e = .returned (.tuple #[.string q, .int .i64 c]) ∧ Below w.heap.size w w')) (r : Res)
    (ho : N < 0 ∧ r = ⟨0, 0, 8⟩ ∨ 0 ≤ N ∧ D < 0 ∧ r = ⟨0, 0, 8⟩ ∨ 0 ≤ N ∧ 0 ≤ D ∧ ¬ c = 0 ∧ r = ⟨0, 0, 8⟩ ∨ 0 ≤ N ∧ 0 ≤ D ∧ c = 0 ∧ ¬ q = s ∧ r = ⟨0, 0, 8⟩ ∨ 0 ≤ N ∧ 0 ≤ D ∧ c = 0 ∧ q = s ∧ r = ⟨N, D, 0⟩) :
    Calls Tryz.prog 22 #[.string s] w (OutR r w) := by
  have nb := numR_bounds (t.data.toList.take K)
  rw [hN] at nb
  obtain ⟨n0, n1⟩ := nb
  have n1 : N ≤ 9999999999 := by omega
  have db := numR_bounds (t.data.toList.drop (K + 1))
  rw [hD] at db
  obtain ⟨d0, d1⟩ := db
  have d1 : D ≤ 9999999999 := by omega
  have HN := Bx.mk (refNumber_any (t.extract 0 K))
  have HD := Bx.mk (refNumber_any (t.extract (K + 1) t.size))
  rw [extract_list _ _ _ (by omega), List.drop_zero, hN] at HN
  rw [extract_list _ _ _ (Nat.le_refl _), List.take_of_length_le (by simp), hD] at HD
  subst ht
  have HO := Bx.mk ho
  have hB := Bx.mk (show Below w.heap.size w (w.alloc (.cells #[.int .i64 0, .int .i64 0] 23)) from (Below.refl _ _).alloc (Nat.le_refl _) _)
  have P := Bx.mk (plc_start w)
  clear ho hN hD
  go_enter Tryz.func22, Tryz.ntmps22
  go_wp2_with fail
  go_loop [5, 6] (fun av iv => ∃ k : Nat, k ≤ K ∧ iv = .int .i64 k ∧ av = .int .i64 s.size) (fun _ iv => s.size - (intOf iv).toNat)
  case atStart => exact ⟨0, Nat.zero_le _, rfl, rfl⟩
  case round =>
    obtain ⟨k, hk', rfl, rfl⟩ := hrel
    by_cases hlt : k < K
    · have hkt : k < s.size := by omega
      have hne : ((s[k].toNat : Int) == 47) = false := by
        have := hbef.out k hkt hlt
        simp; omega
      go_wp2
      go_round
      case rel => exact ⟨k + 1, by omega, by go_num, rfl⟩
      case measure => simp [intOf]; omega
    · obtain rfl : k = K := by omega
      have heq : ((s[k].toNat : Int) == 47) = true := by simp [hk]
      clear hbef
      go_wp2_with fail
      with_reducible refine (HN.out _).mono ?_
      rintro e w1 ⟨rfl, rfl⟩
      go_wp2_with fail
      with_reducible refine (HD.out _).mono ?_
      rintro e w1 ⟨rfl, rfl⟩
      rcases HO.out with ⟨g, rfl⟩ | ⟨g, g2, rfl⟩ | ⟨g, g2, g3, rfl⟩ | ⟨g, g2, g3, g4, rfl⟩ | ⟨g, g2, g3, g4, rfl⟩
      · clear HO
        obtain ⟨p0, p1, p2, p3, p4⟩ := P.out
        go_wp2_with fail
        (try simp only [Exit.inBlock, Exit.then])
        refine bodyPost_ret_by (v := .tuple #[RV 0 0, .int .i64 8]) (by simp [results, Tryz.results22, go_sem, p0, p1, p2]) rfl ?_
        exact ⟨rfl, by repeat (first | exact hB.out | apply below_drewN | refine Below.setCell ?_ (by first | omega | (simp <;> omega)) _ | refine Below.alloc ?_ (by first | omega | (simp <;> omega)) _)⟩

      · clear HO
        obtain ⟨p0, p1, p2, p3, p4⟩ := P.out
        go_wp2_with fail
        (try simp only [Exit.inBlock, Exit.then])
        refine bodyPost_ret_by (v := .tuple #[RV 0 0, .int .i64 8]) (by simp [results, Tryz.results22, go_sem, p0, p1, p2]) rfl ?_
        exact ⟨rfl, by repeat (first | exact hB.out | apply below_drewN | refine Below.setCell ?_ (by first | omega | (simp <;> omega)) _ | refine Below.alloc ?_ (by first | omega | (simp <;> omega)) _)⟩
      · have hc1 : (c != 0) = true := by simpa using g3
        have hc2 : (c == 0) = false := by simpa using g3
        have K1 : Cap ((w.alloc (.cells #[.int .i64 0, .int .i64 0] 23)).alloc (.cells #[.int .i64 N, .int .i64 D] 23)) (w.heap.size + 1) N D := ⟨by simp, by simp [go_sem], by simp [go_sem]⟩
        have P2 : Plc ((w.alloc (.cells #[.int .i64 0, .int .i64 0] 23)).alloc (.cells #[.int .i64 N, .int .i64 D] 23)) w.heap.size := ⟨by simp <;> omega, by simp [go_sem], by simp [go_sem], by simp [go_sem], by simp [go_sem]⟩
        have hB2 : Below w.heap.size w ((w.alloc (.cells #[.int .i64 0, .int .i64 0] 23)).alloc (.cells #[.int .i64 N, .int .i64 D] 23)) := hB.out.alloc hB.out.size _
        have hK1 := Bx.mk K1
        have hP2 := Bx.mk P2
        have hB2 := Bx.mk hB2
        clear HO K1 P2
        go_wp2_with fail
        refine (HT.out _).mono ?_
        rintro e w4 ⟨rfl, hb⟩
        have hB := Bx.mk (hB2.out.trans (hb.mono hB2.out.size))
        obtain ⟨k0, k1, k2⟩ := hK1.out.keep hb
        obtain ⟨p0, p1, p2, p3, p4⟩ := hP2.out.keep hb
        clear hb hK1 hP2 hB2
        go_wp2_with fail
        (try simp only [Exit.inBlock, Exit.then])
        refine bodyPost_ret_by (v := .tuple #[RV 0 0, .int .i64 8]) (by simp [results, Tryz.results22, go_sem, p0, p1, p2]) rfl ?_
        exact ⟨rfl, by repeat (first | exact hB.out | apply below_drewN | refine Below.setCell ?_ (by first | omega | (simp <;> omega)) _ | refine Below.alloc ?_ (by first | omega | (simp <;> omega)) _)⟩
      · subst g3
        have hq1 : (q.toList == s.toList) = false := by rw [sl_eq]; simp [g4]
        have hq2 : (q.toList != s.toList) = true := by simp only [bne, hq1]; rfl
        clear g4
        have K1 : Cap ((w.alloc (.cells #[.int .i64 0, .int .i64 0] 23)).alloc (.cells #[.int .i64 N, .int .i64 D] 23)) (w.heap.size + 1) N D := ⟨by simp, by simp [go_sem], by simp [go_sem]⟩
        have P2 : Plc ((w.alloc (.cells #[.int .i64 0, .int .i64 0] 23)).alloc (.cells #[.int .i64 N, .int .i64 D] 23)) w.heap.size := ⟨by simp <;> omega, by simp [go_sem], by simp [go_sem], by simp [go_sem], by simp [go_sem]⟩
        have hB2 : Below w.heap.size w ((w.alloc (.cells #[.int .i64 0, .int .i64 0] 23)).alloc (.cells #[.int .i64 N, .int .i64 D] 23)) := hB.out.alloc hB.out.size _
        have hK1 := Bx.mk K1
        have hP2 := Bx.mk P2
        have hB2 := Bx.mk hB2
        clear HO K1 P2
        go_wp2_with fail
        refine (HT.out _).mono ?_
        rintro e w4 ⟨rfl, hb⟩
        have hB := Bx.mk (hB2.out.trans (hb.mono hB2.out.size))
        obtain ⟨k0, k1, k2⟩ := hK1.out.keep hb
        obtain ⟨p0, p1, p2, p3, p4⟩ := hP2.out.keep hb
        clear hb hK1 hP2 hB2
        go_wp2_with fail
        (try simp only [Exit.inBlock, Exit.then])
        refine bodyPost_ret_by (v := .tuple #[RV 0 0, .int .i64 8]) (by simp [results, Tryz.results22, go_sem, p0, p1, p2]) rfl ?_
        exact ⟨rfl, by repeat (first | exact hB.out | apply below_drewN | refine Below.setCell ?_ (by first | omega | (simp <;> omega)) _ | refine Below.alloc ?_ (by first | omega | (simp <;> omega)) _)⟩
      · subst g3
        have hq1 : (q.toList == s.toList) = true := by rw [sl_eq]; simp [g4]
        have hq2 : (q.toList != s.toList) = false := by simp only [bne, hq1]; rfl
        clear g4
        have K1 : Cap ((w.alloc (.cells #[.int .i64 0, .int .i64 0] 23)).alloc (.cells #[.int .i64 N, .int .i64 D] 23)) (w.heap.size + 1) N D := ⟨by simp, by simp [go_sem], by simp [go_sem]⟩
        have P2 : Plc ((w.alloc (.cells #[.int .i64 0, .int .i64 0] 23)).alloc (.cells #[.int .i64 N, .int .i64 D] 23)) w.heap.size := ⟨by simp <;> omega, by simp [go_sem], by simp [go_sem], by simp [go_sem], by simp [go_sem]⟩
        have hB2 : Below w.heap.size w ((w.alloc (.cells #[.int .i64 0, .int .i64 0] 23)).alloc (.cells #[.int .i64 N, .int .i64 D] 23)) := hB.out.alloc hB.out.size _
        have hK1 := Bx.mk K1
        have hP2 := Bx.mk P2
        have hB2 := Bx.mk hB2
        clear HO K1 P2
        go_wp2_with fail
        refine (HT.out _).mono ?_
        rintro e w4 ⟨rfl, hb⟩
        have hB := Bx.mk (hB2.out.trans (hb.mono hB2.out.size))
        obtain ⟨k0, k1, k2⟩ := hK1.out.keep hb
        obtain ⟨p0, p1, p2, p3, p4⟩ := hP2.out.keep hb
        clear hb hK1 hP2 hB2
        go_wp2_with fail
        (try simp only [Exit.inBlock, Exit.then])
        refine bodyPost_ret_by (v := .tuple #[RV N D, .int .i64 0]) (by simp [results, Tryz.results22, go_sem, p0, p1, p2]) rfl ?_
        exact ⟨rfl, by repeat (first | exact hB.out | apply below_drewN | refine Below.setCell ?_ (by first | omega | (simp <;> omega)) _ | refine Below.alloc ?_ (by first | omega | (simp <;> omega)) _)⟩
set_option maxRecDepth 20000 in
set_option maxHeartbeats 1000000 in
theorem refParse_no (s t : ByteArray) (N : Int) (w : World) (hs : s.size ≤ 281474976710656) (hp : 0 < s.size) (hq : ((s[0].toNat : Int) == 45) = true) (ht : s.extract 1 s.size = t) (hbef : Bx (∀ j (h : j < t.size), t[j].toNat ≠ 47)) (hN : numR t.data.toList = N) (q : ByteArray) (c : Int) (HT : Bx (∀ w, Calls Tryz.prog 28 #[RV (-N) 1] w fun e w' => e = .returned (.tuple #[.string q, .int .i64 c]) ∧ Below w.heap.size w w')) (r : Res)
    (ho : N < 0 ∧ r = ⟨0, 0, 8⟩ ∨ 0 ≤ N ∧ False ∧ r = ⟨0, 0, 8⟩ ∨ 0 ≤ N ∧ True ∧ ¬ c = 0 ∧ r = ⟨0, 0, 8⟩ ∨ 0 ≤ N ∧ True ∧ c = 0 ∧ ¬ q = s ∧ r = ⟨0, 0, 8⟩ ∨ 0 ≤ N ∧ True ∧ c = 0 ∧ q = s ∧ r = ⟨(-N), 1, 0⟩) :
    Calls Tryz.prog 22 #[.string s] w (OutR r w) := by
  have nb := numR_bounds t.data.toList
  rw [hN] at nb
  obtain ⟨n0, n1⟩ := nb
  have n1 : N ≤ 9999999999 := by omega
  have HN := Bx.mk (refNumber_any t)
  rw [hN] at HN
  have hz : t.size + 1 = s.size := by rw [← ht]; simp; omega
  have hz2 : t.size < s.size := by omega
  have HO := Bx.mk ho
  have hB := Bx.mk (show Below w.heap.size w (w.alloc (.cells #[.int .i64 0, .int .i64 0] 23)) from (Below.refl _ _).alloc (Nat.le_refl _) _)
  have P := Bx.mk (plc_start w)
  clear ho hN 
  go_enter Tryz.func22, Tryz.ntmps22
  go_wp2_with fail
  go_loop [5, 6] (fun av iv => ∃ k : Nat, k ≤ t.size ∧ iv = .int .i64 k ∧ av = .int .i64 t.size) (fun _ iv => t.size - (intOf iv).toNat)
  case atStart => exact ⟨0, Nat.zero_le _, rfl, rfl⟩
  case round =>
    obtain ⟨k, hk', rfl, rfl⟩ := hrel
    by_cases hlt : k < t.size
    · have hkt : k < t.size := by omega
      have hne : ((t[k].toNat : Int) == 47) = false := by
        have := hbef.out k hkt 
        simp; omega
      go_wp2
      go_round
      case rel => exact ⟨k + 1, by omega, by go_num, rfl⟩
      case measure => simp [intOf]; omega
    · obtain rfl : k = t.size := by omega
      clear hbef
      go_wp2_with fail
      with_reducible refine (HN.out _).mono ?_
      rintro e w1 ⟨rfl, rfl⟩
      rcases HO.out with ⟨g, rfl⟩ | ⟨g, g2, rfl⟩ | ⟨g, g2, g3, rfl⟩ | ⟨g, g2, g3, g4, rfl⟩ | ⟨g, g2, g3, g4, rfl⟩
      · clear HO
        obtain ⟨p0, p1, p2, p3, p4⟩ := P.out
        go_wp2_with fail
        (try simp only [Exit.inBlock, Exit.then])
        refine bodyPost_ret_by (v := .tuple #[RV 0 0, .int .i64 8]) (by simp [results, Tryz.results22, go_sem, p0, p1, p2]) rfl ?_
        exact ⟨rfl, by repeat (first | exact hB.out | apply below_drewN | refine Below.setCell ?_ (by first | omega | (simp <;> omega)) _ | refine Below.alloc ?_ (by first | omega | (simp <;> omega)) _)⟩

      · exact g2.elim
      · have hc1 : (c != 0) = true := by simpa using g3
        have hc2 : (c == 0) = false := by simpa using g3
        have K1 : Cap ((w.alloc (.cells #[.int .i64 0, .int .i64 0] 23)).alloc (.cells #[.int .i64 (-N), .int .i64 1] 23)) (w.heap.size + 1) (-N) 1 := ⟨by simp, by simp [go_sem], by simp [go_sem]⟩
        have P2 : Plc ((w.alloc (.cells #[.int .i64 0, .int .i64 0] 23)).alloc (.cells #[.int .i64 (-N), .int .i64 1] 23)) w.heap.size := ⟨by simp <;> omega, by simp [go_sem], by simp [go_sem], by simp [go_sem], by simp [go_sem]⟩
        have hB2 : Below w.heap.size w ((w.alloc (.cells #[.int .i64 0, .int .i64 0] 23)).alloc (.cells #[.int .i64 (-N), .int .i64 1] 23)) := hB.out.alloc hB.out.size _
        have hK1 := Bx.mk K1
        have hP2 := Bx.mk P2
        have hB2 := Bx.mk hB2
        clear HO K1 P2
        go_wp2_with fail
        refine (HT.out _).mono ?_
        rintro e w4 ⟨rfl, hb⟩
        have hB := Bx.mk (hB2.out.trans (hb.mono hB2.out.size))
        obtain ⟨k0, k1, k2⟩ := hK1.out.keep hb
        obtain ⟨p0, p1, p2, p3, p4⟩ := hP2.out.keep hb
        clear hb hK1 hP2 hB2
        go_wp2_with fail
        (try simp only [Exit.inBlock, Exit.then])
        refine bodyPost_ret_by (v := .tuple #[RV 0 0, .int .i64 8]) (by simp [results, Tryz.results22, go_sem, p0, p1, p2]) rfl ?_
        exact ⟨rfl, by repeat (first | exact hB.out | apply below_drewN | refine Below.setCell ?_ (by first | omega | (simp <;> omega)) _ | refine Below.alloc ?_ (by first | omega | (simp <;> omega)) _)⟩
      · subst g3
        have hq1 : (q.toList == s.toList) = false := by rw [sl_eq]; simp [g4]
        have hq2 : (q.toList != s.toList) = true := by simp only [bne, hq1]; rfl
        clear g4
        have K1 : Cap ((w.alloc (.cells #[.int .i64 0, .int .i64 0] 23)).alloc (.cells #[.int .i64 (-N), .int .i64 1] 23)) (w.heap.size + 1) (-N) 1 := ⟨by simp, by simp [go_sem], by simp [go_sem]⟩
        have P2 : Plc ((w.alloc (.cells #[.int .i64 0, .int .i64 0] 23)).alloc (.cells #[.int .i64 (-N), .int .i64 1] 23)) w.heap.size := ⟨by simp <;> omega, by simp [go_sem], by simp [go_sem], by simp [go_sem], by simp [go_sem]⟩
        have hB2 : Below w.heap.size w ((w.alloc (.cells #[.int .i64 0, .int .i64 0] 23)).alloc (.cells #[.int .i64 (-N), .int .i64 1] 23)) := hB.out.alloc hB.out.size _
        have hK1 := Bx.mk K1
        have hP2 := Bx.mk P2
        have hB2 := Bx.mk hB2
        clear HO K1 P2
        go_wp2_with fail
        refine (HT.out _).mono ?_
        rintro e w4 ⟨rfl, hb⟩
        have hB := Bx.mk (hB2.out.trans (hb.mono hB2.out.size))
        obtain ⟨k0, k1, k2⟩ := hK1.out.keep hb
        obtain ⟨p0, p1, p2, p3, p4⟩ := hP2.out.keep hb
        clear hb hK1 hP2 hB2
        go_wp2_with fail
        (try simp only [Exit.inBlock, Exit.then])
        refine bodyPost_ret_by (v := .tuple #[RV 0 0, .int .i64 8]) (by simp [results, Tryz.results22, go_sem, p0, p1, p2]) rfl ?_
        exact ⟨rfl, by repeat (first | exact hB.out | apply below_drewN | refine Below.setCell ?_ (by first | omega | (simp <;> omega)) _ | refine Below.alloc ?_ (by first | omega | (simp <;> omega)) _)⟩
      · subst g3
        have hq1 : (q.toList == s.toList) = true := by rw [sl_eq]; simp [g4]
        have hq2 : (q.toList != s.toList) = false := by simp only [bne, hq1]; rfl
        clear g4
        have K1 : Cap ((w.alloc (.cells #[.int .i64 0, .int .i64 0] 23)).alloc (.cells #[.int .i64 (-N), .int .i64 1] 23)) (w.heap.size + 1) (-N) 1 := ⟨by simp, by simp [go_sem], by simp [go_sem]⟩
        have P2 : Plc ((w.alloc (.cells #[.int .i64 0, .int .i64 0] 23)).alloc (.cells #[.int .i64 (-N), .int .i64 1] 23)) w.heap.size := ⟨by simp <;> omega, by simp [go_sem], by simp [go_sem], by simp [go_sem], by simp [go_sem]⟩
        have hB2 : Below w.heap.size w ((w.alloc (.cells #[.int .i64 0, .int .i64 0] 23)).alloc (.cells #[.int .i64 (-N), .int .i64 1] 23)) := hB.out.alloc hB.out.size _
        have hK1 := Bx.mk K1
        have hP2 := Bx.mk P2
        have hB2 := Bx.mk hB2
        clear HO K1 P2
        go_wp2_with fail
        refine (HT.out _).mono ?_
        rintro e w4 ⟨rfl, hb⟩
        have hB := Bx.mk (hB2.out.trans (hb.mono hB2.out.size))
        obtain ⟨k0, k1, k2⟩ := hK1.out.keep hb
        obtain ⟨p0, p1, p2, p3, p4⟩ := hP2.out.keep hb
        clear hb hK1 hP2 hB2
        go_wp2_with fail
        (try simp only [Exit.inBlock, Exit.then])
        refine bodyPost_ret_by (v := .tuple #[RV (-N) 1, .int .i64 0]) (by simp [results, Tryz.results22, go_sem, p0, p1, p2]) rfl ?_
        exact ⟨rfl, by repeat (first | exact hB.out | apply below_drewN | refine Below.setCell ?_ (by first | omega | (simp <;> omega)) _ | refine Below.alloc ?_ (by first | omega | (simp <;> omega)) _)⟩
set_option maxRecDepth 20000 in
set_option maxHeartbeats 1000000 in
theorem refParse_ns (s t : ByteArray) (N D : Int) (w : World) (hs : s.size ≤ 281474976710656) (hp : 0 < s.size) (hq : ((s[0].toNat : Int) == 45) = true) (ht : s.extract 1 s.size = t) (K : Nat) (hK : K < t.size) (hk : t[K].toNat = 47) (hbef : Bx (∀ j (h : j < t.size), j < K → t[j].toNat ≠ 47)) (hN : numR (t.data.toList.take K) = N) (hD : numR (t.data.toList.drop (K + 1)) = D) (q : ByteArray) (c : Int) (HT : Bx (∀ w, Calls Tryz.prog 28 #[RV (-N) D] w fun e w' => e = .returned (.tuple #[.string q, .int .i64 c]) ∧ Below w.heap.size w w')) (r : Res)
    (ho : N < 0 ∧ r = ⟨0, 0, 8⟩ ∨ 0 ≤ N ∧ D < 0 ∧ r = ⟨0, 0, 8⟩ ∨ 0 ≤ N ∧ 0 ≤ D ∧ ¬ c = 0 ∧ r = ⟨0, 0, 8⟩ ∨ 0 ≤ N ∧ 0 ≤ D ∧ c = 0 ∧ ¬ q = s ∧ r = ⟨0, 0, 8⟩ ∨ 0 ≤ N ∧ 0 ≤ D ∧ c = 0 ∧ q = s ∧ r = ⟨(-N), D, 0⟩) :
    Calls Tryz.prog 22 #[.string s] w (OutR r w) := by
  have nb := numR_bounds (t.data.toList.take K)
  rw [hN] at nb
  obtain ⟨n0, n1⟩ := nb
  have n1 : N ≤ 9999999999 := by omega
  have db := numR_bounds (t.data.toList.drop (K + 1))
  rw [hD] at db
  obtain ⟨d0, d1⟩ := db
  have d1 : D ≤ 9999999999 := by omega
  have HN := Bx.mk (refNumber_any (t.extract 0 K))
  have HD := Bx.mk (refNumber_any (t.extract (K + 1) t.size))
  rw [extract_list _ _ _ (by omega), List.drop_zero, hN] at HN
  rw [extract_list _ _ _ (Nat.le_refl _), List.take_of_length_le (by simp), hD] at HD
  have hz : t.size + 1 = s.size := by rw [← ht]; simp; omega
  have hz2 : t.size < s.size := by omega
  have HO := Bx.mk ho
  have hB := Bx.mk (show Below w.heap.size w (w.alloc (.cells #[.int .i64 0, .int .i64 0] 23)) from (Below.refl _ _).alloc (Nat.le_refl _) _)
  have P := Bx.mk (plc_start w)
  clear ho hN hD
  go_enter Tryz.func22, Tryz.ntmps22
  go_wp2_with fail
  go_loop [5, 6] (fun av iv => ∃ k : Nat, k ≤ K ∧ iv = .int .i64 k ∧ av = .int .i64 t.size) (fun _ iv => t.size - (intOf iv).toNat)
  case atStart => exact ⟨0, Nat.zero_le _, rfl, rfl⟩
  case round =>
    obtain ⟨k, hk', rfl, rfl⟩ := hrel
    by_cases hlt : k < K
    · have hkt : k < t.size := by omega
      have hne : ((t[k].toNat : Int) == 47) = false := by
        have := hbef.out k hkt hlt
        simp; omega
      go_wp2
      go_round
      case rel => exact ⟨k + 1, by omega, by go_num, rfl⟩
      case measure => simp [intOf]; omega
    · obtain rfl : k = K := by omega
      have heq : ((t[k].toNat : Int) == 47) = true := by simp [hk]
      clear hbef
      go_wp2_with fail
      with_reducible refine (HN.out _).mono ?_
      rintro e w1 ⟨rfl, rfl⟩
      go_wp2_with fail
      with_reducible refine (HD.out _).mono ?_
      rintro e w1 ⟨rfl, rfl⟩
      rcases HO.out with ⟨g, rfl⟩ | ⟨g, g2, rfl⟩ | ⟨g, g2, g3, rfl⟩ | ⟨g, g2, g3, g4, rfl⟩ | ⟨g, g2, g3, g4, rfl⟩
      · clear HO
        obtain ⟨p0, p1, p2, p3, p4⟩ := P.out
        go_wp2_with fail
        (try simp only [Exit.inBlock, Exit.then])
        refine bodyPost_ret_by (v := .tuple #[RV 0 0, .int .i64 8]) (by simp [results, Tryz.results22, go_sem, p0, p1, p2]) rfl ?_
        exact ⟨rfl, by repeat (first | exact hB.out | apply below_drewN | refine Below.setCell ?_ (by first | omega | (simp <;> omega)) _ | refine Below.alloc ?_ (by first | omega | (simp <;> omega)) _)⟩

      · clear HO
        obtain ⟨p0, p1, p2, p3, p4⟩ := P.out
        go_wp2_with fail
        (try simp only [Exit.inBlock, Exit.then])
        refine bodyPost_ret_by (v := .tuple #[RV 0 0, .int .i64 8]) (by simp [results, Tryz.results22, go_sem, p0, p1, p2]) rfl ?_
        exact ⟨rfl, by repeat (first | exact hB.out | apply below_drewN | refine Below.setCell ?_ (by first | omega | (simp <;> omega)) _ | refine Below.alloc ?_ (by first | omega | (simp <;> omega)) _)⟩
      · have hc1 : (c != 0) = true := by simpa using g3
        have hc2 : (c == 0) = false := by simpa using g3
        have K1 : Cap ((w.alloc (.cells #[.int .i64 0, .int .i64 0] 23)).alloc (.cells #[.int .i64 (-N), .int .i64 D] 23)) (w.heap.size + 1) (-N) D := ⟨by simp, by simp [go_sem], by simp [go_sem]⟩
        have P2 : Plc ((w.alloc (.cells #[.int .i64 0, .int .i64 0] 23)).alloc (.cells #[.int .i64 (-N), .int .i64 D] 23)) w.heap.size := ⟨by simp <;> omega, by simp [go_sem], by simp [go_sem], by simp [go_sem], by simp [go_sem]⟩
        have hB2 : Below w.heap.size w ((w.alloc (.cells #[.int .i64 0, .int .i64 0] 23)).alloc (.cells #[.int .i64 (-N), .int .i64 D] 23)) := hB.out.alloc hB.out.size _
        have hK1 := Bx.mk K1
        have hP2 := Bx.mk P2
        have hB2 := Bx.mk hB2
        clear HO K1 P2
        go_wp2_with fail
        refine (HT.out _).mono ?_
        rintro e w4 ⟨rfl, hb⟩
        have hB := Bx.mk (hB2.out.trans (hb.mono hB2.out.size))
        obtain ⟨k0, k1, k2⟩ := hK1.out.keep hb
        obtain ⟨p0, p1, p2, p3, p4⟩ := hP2.out.keep hb
        clear hb hK1 hP2 hB2
        go_wp2_with fail
        (try simp only [Exit.inBlock, Exit.then])
        refine bodyPost_ret_by (v := .tuple #[RV 0 0, .int .i64 8]) (by simp [results, Tryz.results22, go_sem, p0, p1, p2]) rfl ?_
        exact ⟨rfl, by repeat (first | exact hB.out | apply below_drewN | refine Below.setCell ?_ (by first | omega | (simp <;> omega)) _ | refine Below.alloc ?_ (by first | omega | (simp <;> omega)) _)⟩
      · subst g3
        have hq1 : (q.toList == s.toList) = false := by rw [sl_eq]; simp [g4]
        have hq2 : (q.toList != s.toList) = true := by simp only [bne, hq1]; rfl
        clear g4
        have K1 : Cap ((w.alloc (.cells #[.int .i64 0, .int .i64 0] 23)).alloc (.cells #[.int .i64 (-N), .int .i64 D] 23)) (w.heap.size + 1) (-N) D := ⟨by simp, by simp [go_sem], by simp [go_sem]⟩
        have P2 : Plc ((w.alloc (.cells #[.int .i64 0, .int .i64 0] 23)).alloc (.cells #[.int .i64 (-N), .int .i64 D] 23)) w.heap.size := ⟨by simp <;> omega, by simp [go_sem], by simp [go_sem], by simp [go_sem], by simp [go_sem]⟩
        have hB2 : Below w.heap.size w ((w.alloc (.cells #[.int .i64 0, .int .i64 0] 23)).alloc (.cells #[.int .i64 (-N), .int .i64 D] 23)) := hB.out.alloc hB.out.size _
        have hK1 := Bx.mk K1
        have hP2 := Bx.mk P2
        have hB2 := Bx.mk hB2
        clear HO K1 P2
        go_wp2_with fail
        refine (HT.out _).mono ?_
        rintro e w4 ⟨rfl, hb⟩
        have hB := Bx.mk (hB2.out.trans (hb.mono hB2.out.size))
        obtain ⟨k0, k1, k2⟩ := hK1.out.keep hb
        obtain ⟨p0, p1, p2, p3, p4⟩ := hP2.out.keep hb
        clear hb hK1 hP2 hB2
        go_wp2_with fail
        (try simp only [Exit.inBlock, Exit.then])
        refine bodyPost_ret_by (v := .tuple #[RV 0 0, .int .i64 8]) (by simp [results, Tryz.results22, go_sem, p0, p1, p2]) rfl ?_
        exact ⟨rfl, by repeat (first | exact hB.out | apply below_drewN | refine Below.setCell ?_ (by first | omega | (simp <;> omega)) _ | refine Below.alloc ?_ (by first | omega | (simp <;> omega)) _)⟩
      · subst g3
        have hq1 : (q.toList == s.toList) = true := by rw [sl_eq]; simp [g4]
        have hq2 : (q.toList != s.toList) = false := by simp only [bne, hq1]; rfl
        clear g4
        have K1 : Cap ((w.alloc (.cells #[.int .i64 0, .int .i64 0] 23)).alloc (.cells #[.int .i64 (-N), .int .i64 D] 23)) (w.heap.size + 1) (-N) D := ⟨by simp, by simp [go_sem], by simp [go_sem]⟩
        have P2 : Plc ((w.alloc (.cells #[.int .i64 0, .int .i64 0] 23)).alloc (.cells #[.int .i64 (-N), .int .i64 D] 23)) w.heap.size := ⟨by simp <;> omega, by simp [go_sem], by simp [go_sem], by simp [go_sem], by simp [go_sem]⟩
        have hB2 : Below w.heap.size w ((w.alloc (.cells #[.int .i64 0, .int .i64 0] 23)).alloc (.cells #[.int .i64 (-N), .int .i64 D] 23)) := hB.out.alloc hB.out.size _
        have hK1 := Bx.mk K1
        have hP2 := Bx.mk P2
        have hB2 := Bx.mk hB2
        clear HO K1 P2
        go_wp2_with fail
        refine (HT.out _).mono ?_
        rintro e w4 ⟨rfl, hb⟩
        have hB := Bx.mk (hB2.out.trans (hb.mono hB2.out.size))
        obtain ⟨k0, k1, k2⟩ := hK1.out.keep hb
        obtain ⟨p0, p1, p2, p3, p4⟩ := hP2.out.keep hb
        clear hb hK1 hP2 hB2
        go_wp2_with fail
        (try simp only [Exit.inBlock, Exit.then])
        refine bodyPost_ret_by (v := .tuple #[RV (-N) D, .int .i64 0]) (by simp [results, Tryz.results22, go_sem, p0, p1, p2]) rfl ?_
        exact ⟨rfl, by repeat (first | exact hB.out | apply below_drewN | refine Below.setCell ?_ (by first | omega | (simp <;> omega)) _ | refine Below.alloc ?_ (by first | omega | (simp <;> omega)) _)⟩
end Go.Proofs.YthfpkjeobdajiabGreatDoor
