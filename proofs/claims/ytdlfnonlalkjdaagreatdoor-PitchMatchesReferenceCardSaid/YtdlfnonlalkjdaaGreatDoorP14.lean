/- pitch.term. -/
import Derived.Test.YtdlfnonlalkjdaaGreatDoorPT
import Derived.Test.YtdlfnonlalkjdaaGreatDoorP13
import Derived.Test.YtdlfnonlalkjdaaGreatDoorShelp
import Derived.Lib.LaidTab
namespace Go.Proofs.YtdlfnonlalkjdaaGreatDoor
open Go.RowKit M
open Go.Lib (itoa)
/-- The library's table of the powers of ten lies as its initialiser lays it. -/
def Tb (w : World) : Prop := Lib.TabIs Tryz.prog w "internal/strconv.uint64pow10" .u64 Lib.pow10Tab
theorem Tb.keep {w w' : World} (h : Tb w) (hb : Below w.heap.size w w') : Tb w' := by
  have hgn : Tryz.prog.globalNamed "internal/strconv.uint64pow10" = some 4 := by kernel_rfl
  unfold Tb Lib.TabIs World.var? at h ⊢
  rw [hgn] at h ⊢
  simp only [Option.bind_some] at h ⊢
  have hlt : 4 < w.heap.size := by
    rcases Nat.lt_or_ge 4 w.heap.size with h' | h'
    · exact h'
    · rw [Array.getElem?_eq_none h'] at h; cases h
  rw [hb.block 4 hlt]; exact h
theorem below_grow (w : World) (k : Nat) (os : Array Obj) : Below w.heap.size w (Sort.grow (w.drewN k) os) := by
  have h := below_drewN (Below.refl w.heap.size w) k
  refine ⟨h.os, h.tape, h.output, by simp [Sort.grow] <;> omega, fun i hi => ?_⟩
  show (w.heap ++ os)[i]? = w.heap[i]?
  rw [Array.getElem?_append_left hi]
/-- A string of bytes. -/
abbrev strL (l : List UInt8) : ByteArray := ⟨l.toArray⟩
theorem itoa_any (n : Int) (w : World) (h1 : -1000000000 ≤ n) (h2 : n ≤ 1000000000) (ht : Tb w) :
    Calls Tryz.prog 74 #[.int .i64 n] w fun e w' => e = .returned (.string (strL (Lib.itoa n))) ∧ Below w.heap.size w w' :=
  (Tryz.strconv_Itoa n (by omega) (by omega) w ht).mono fun e w' ⟨he, k, os, hw⟩ => ⟨he, by rw [hw]; exact below_grow w k os⟩
theorem strL_append (l m : List UInt8) : strL l ++ strL m = strL (l ++ m) := by apply ByteArray.ext; simp [ByteArray.data_append]
theorem itoa_size (n : Int) (h1 : -1000000000 ≤ n) (h2 : n ≤ 1000000000) : (strL (itoa n)).size ≤ 11 := by
  have := itoa_len n h1 h2
  simpa [ByteArray.size] using this
theorem term_12 (p : Nat) (w : World) (hp : p ≤ 13) (ht : Tb w) :
    Calls Tryz.prog 55 #[.agg #[.int .i64 (p : Int), .int .i64 12]] w fun e' w' => e' = .returned (.string (strL (termL p 12))) ∧ Below w.heap.size w w' := by
  have HT := Hx.mk ht
  clear ht
  have H1 := Hx.mk (fun w => itoa_any (p : Int) w (by omega) (by omega))
  have e : termL p 12 = itoa (p : Int) := by simp [termL, tailL]
  rw [e]
  clear e
  have HT0 := HT
  have HTa := Hx.mk (HT0.out.keep ((Below.refl w.heap.size w).alloc (Nat.le_refl _) (.cells #[.int .i64 (p : Int), .int .i64 12] 73)))
  go_enter Tryz.func55, Tryz.ntmps55
  go_wp2_with fail
  refine (H1.out _ HTa.out).mono ?_
  rintro e w1 ⟨rfl, hb⟩
  obtain ⟨hc1, hf1⟩ := bcell hb
  have hz1 := hb.size
  (try simp at hz1)
  have hB : Hx (Below w.heap.size w w1) := ⟨Below.trans (by repeat (first | with_reducible exact hB.out | with_reducible exact Below.refl _ _ | (with_reducible refine Below.setCell ?_ ?side _; case side => (first | omega | (simp <;> omega))) | (with_reducible refine Below.alloc ?_ ?side _; case side => (first | omega | (simp <;> omega))) | with_reducible apply below_drewN)) (hb.mono (by first | omega | (simp <;> omega)))⟩
  clear hb
  have hy1_0 : w.heap.size < w1.heap.size := by omega
  have HT := Hx.mk (HT0.out.keep hB.out)
  go_wp2_with fail
  go_ret
  exact ⟨rfl, hB.out⟩
theorem term_whole (p : Nat) (e : Int) (w : World) (hp : p ≤ 13) (ht : Tb w) (he0 : -576 ≤ e) (he1 : e ≤ 576) (hne : e ≠ 12) (hg : gE e = 12) :
    Calls Tryz.prog 55 #[.agg #[.int .i64 (p : Int), .int .i64 e]] w fun e' w' => e' = .returned (.string (strL (termL p e))) ∧ Below w.heap.size w w' := by
  have HT := Hx.mk ht
  clear ht
  have hgp := gE_pos e
  obtain ⟨q, hq⟩ : ∃ q, e / (gE e : Int) = q := ⟨_, rfl⟩
  have hqe : (gE e : Int) * q = e := by rw [← hq]; exact gE_mul e
  have hq1 := bd_quo (v := e) (d := (gE e : Int)) (u := q) (by omega) hqe.symm (by omega) (by omega)
  have hqt : e.tdiv (gE e : Int) = q := by
    have h : ((gE e : Int) * q).tdiv (gE e : Int) = q := Int.mul_tdiv_cancel_left _ (by omega)
    rwa [hqe] at h
  have H1 := Hx.mk (fun w => itoa_any (p : Int) w (by omega) (by omega))
  have H2 := Hx.mk (fun w => itoa_any q w (by omega) (by omega))
  have hs1 := itoa_size (p : Int) (by omega) (by omega)
  have hs2 := itoa_size q (by omega) (by omega)
  have HD := Hx.mk (fun w => divisor_any e 12 (gE e) w (by omega) (by omega) (by omega) (by omega) rfl)
  have hz : (e == 12) = false := beq_eq_false_iff_ne.2 hne
  have HE : Hx (strL (termL p e) = strL (itoa (p : Int)) ++ (strL [94] ++ strL (itoa q))) := ⟨by
    have e1 : termL p e = itoa (p : Int) ++ 94 :: itoa q := by simp only [termL, tailL, if_neg hne, hq]; simp [hg]
    rw [e1, strL_append, strL_append]; rfl⟩
  obtain ⟨g, hgg⟩ : ∃ g, gE e = g := ⟨_, rfl⟩
  rw [hgg] at hgp hqe hqt HD hg
  obtain ⟨s1, hs1e⟩ : ∃ s, strL (itoa (p : Int)) = s := ⟨_, rfl⟩
  obtain ⟨s2, hs2e⟩ : ∃ s, strL (itoa q) = s := ⟨_, rfl⟩
  rw [hs1e] at hs1 H1 HE
  rw [hs2e] at hs2 H2 HE
  have Y1 := Hx.mk (show ¬ 9223372036854775807 < 1 + s2.size by omega)
  have Y2 := Hx.mk (show ¬ 9223372036854775807 < s1.size + (1 + s2.size) by omega)
  subst hg
  have hqt2 : e.tdiv 12 = q := hqt
  obtain ⟨hql, hqh⟩ := hq1
  clear hq hqe hgg hs1e hs2e hne hqt
  have HT0 := HT
  have HTa := Hx.mk (HT0.out.keep ((Below.refl w.heap.size w).alloc (Nat.le_refl _) (.cells #[.int .i64 (p : Int), .int .i64 e] 73)))
  go_enter Tryz.func55, Tryz.ntmps55
  go_wp2_with fail
  refine (H1.out _ HTa.out).mono ?_
  rintro e w1 ⟨rfl, hb⟩
  obtain ⟨hc1, hf1⟩ := bcell hb
  have hz1 := hb.size
  (try simp at hz1)
  have hB : Hx (Below w.heap.size w w1) := ⟨Below.trans (by repeat (first | with_reducible exact hB.out | with_reducible exact Below.refl _ _ | (with_reducible refine Below.setCell ?_ ?side _; case side => (first | omega | (simp <;> omega))) | (with_reducible refine Below.alloc ?_ ?side _; case side => (first | omega | (simp <;> omega))) | with_reducible apply below_drewN)) (hb.mono (by first | omega | (simp <;> omega)))⟩
  clear hb
  have hy1_0 : w.heap.size < w1.heap.size := by omega
  have HT := Hx.mk (HT0.out.keep hB.out)
  go_wp2_with fail
  refine (HD.out _).mono ?_
  rintro e2 w2 ⟨rfl, d, rfl⟩
  have hB : Hx (Below w.heap.size w (w1.drewN d)) := ⟨below_drewN hB.out d⟩
  have HT := Hx.mk (HT0.out.keep hB.out)
  go_wp2_with fail
  with_reducible refine (H2.out _ HT.out).mono ?_
  rintro e3 w3 ⟨rfl, hb⟩
  have hB : Hx (Below w.heap.size w w3) := ⟨hB.out.trans (hb.mono hB.out.size)⟩
  clear hb
  have HT := Hx.mk (HT0.out.keep hB.out)
  have y1 := Y1.out
  have y2 := Y2.out
  go_wp2
  go_ret
  exact ⟨by rw [HE.out]; rfl, hB.out⟩
theorem term_part (p : Nat) (e : Int) (w : World) (hp : p ≤ 13) (ht : Tb w) (he0 : -576 ≤ e) (he1 : e ≤ 576) (hne : e ≠ 12) (hg : gE e < 12) :
    Calls Tryz.prog 55 #[.agg #[.int .i64 (p : Int), .int .i64 e]] w fun e' w' => e' = .returned (.string (strL (termL p e))) ∧ Below w.heap.size w w' := by
  have HT := Hx.mk ht
  clear ht
  have hgp := gE_pos e
  obtain ⟨q, hq⟩ : ∃ q, e / (gE e : Int) = q := ⟨_, rfl⟩
  have hqe : (gE e : Int) * q = e := by rw [← hq]; exact gE_mul e
  have hq1 := bd_quo (v := e) (d := (gE e : Int)) (u := q) (by omega) hqe.symm (by omega) (by omega)
  have hqt : e.tdiv (gE e : Int) = q := by
    have h : ((gE e : Int) * q).tdiv (gE e : Int) = q := Int.mul_tdiv_cancel_left _ (by omega)
    rwa [hqe] at h
  have H1 := Hx.mk (fun w => itoa_any (p : Int) w (by omega) (by omega))
  have H2 := Hx.mk (fun w => itoa_any q w (by omega) (by omega))
  have hs1 := itoa_size (p : Int) (by omega) (by omega)
  have hs2 := itoa_size q (by omega) (by omega)
  have HD := Hx.mk (fun w => divisor_any e 12 (gE e) w (by omega) (by omega) (by omega) (by omega) rfl)
  have hz : (e == 12) = false := beq_eq_false_iff_ne.2 hne
  obtain ⟨r, hr⟩ : ∃ r, 12 / gE e = r := ⟨_, rfl⟩
  have hr1 : r ≤ 12 := by rw [← hr]; exact Nat.div_le_self _ _
  have hrt : (12 : Int).tdiv (gE e : Int) = (r : Int) := by rw [← hr]; rw [Int.tdiv_eq_ediv_of_nonneg (by omega)]; rfl
  have hrt2 : (12 : Int) / (gE e : Int) = (r : Int) := by rw [← hr]; rfl
  have H3 := Hx.mk (fun w => itoa_any (r : Int) w (by omega) (by omega))
  have hs3 := itoa_size (r : Int) (by omega) (by omega)
  have HE : Hx (strL (termL p e) = (strL (itoa (p : Int)) ++ (strL [94] ++ strL (itoa q))) ++ (strL [47] ++ strL (itoa (r : Int)))) := ⟨by
    have e1 : termL p e = itoa (p : Int) ++ 94 :: itoa q ++ 47 :: itoa (r : Int) := by simp only [termL, tailL, if_neg hne, hq, if_pos hg, hr]; simp
    rw [e1, strL_append, strL_append, strL_append, strL_append]; rfl⟩
  obtain ⟨g, hgg⟩ : ∃ g, gE e = g := ⟨_, rfl⟩
  rw [hgg] at hgp hqe hqt HD hg hr hrt hrt2
  obtain ⟨s1, hs1e⟩ : ∃ s, strL (itoa (p : Int)) = s := ⟨_, rfl⟩
  obtain ⟨s2, hs2e⟩ : ∃ s, strL (itoa q) = s := ⟨_, rfl⟩
  obtain ⟨s3, hs3e⟩ : ∃ s, strL (itoa (r : Int)) = s := ⟨_, rfl⟩
  rw [hs1e] at hs1 H1 HE
  rw [hs2e] at hs2 H2 HE
  rw [hs3e] at hs3 H3 HE
  have Y1 := Hx.mk (show ¬ 9223372036854775807 < 1 + s2.size by omega)
  have Y2 := Hx.mk (show ¬ 9223372036854775807 < s1.size + (1 + s2.size) by omega)
  have Y3 := Hx.mk (show ¬ 9223372036854775807 < 1 + s3.size by omega)
  have Y4 := Hx.mk (show ¬ 9223372036854775807 < s1.size + (1 + s2.size) + (1 + s3.size) by omega)
  obtain ⟨hql, hqh⟩ := hq1
  clear hq hqe hgg hs1e hs2e hs3e hne hr
  have HT0 := HT
  have HTa := Hx.mk (HT0.out.keep ((Below.refl w.heap.size w).alloc (Nat.le_refl _) (.cells #[.int .i64 (p : Int), .int .i64 e] 73)))
  go_enter Tryz.func55, Tryz.ntmps55
  go_wp2_with fail
  refine (H1.out _ HTa.out).mono ?_
  rintro e w1 ⟨rfl, hb⟩
  obtain ⟨hc1, hf1⟩ := bcell hb
  have hz1 := hb.size
  (try simp at hz1)
  have hB : Hx (Below w.heap.size w w1) := ⟨Below.trans (by repeat (first | with_reducible exact hB.out | with_reducible exact Below.refl _ _ | (with_reducible refine Below.setCell ?_ ?side _; case side => (first | omega | (simp <;> omega))) | (with_reducible refine Below.alloc ?_ ?side _; case side => (first | omega | (simp <;> omega))) | with_reducible apply below_drewN)) (hb.mono (by first | omega | (simp <;> omega)))⟩
  clear hb
  have hy1_0 : w.heap.size < w1.heap.size := by omega
  have HT := Hx.mk (HT0.out.keep hB.out)
  go_wp2_with fail
  refine (HD.out _).mono ?_
  rintro e2 w2 ⟨rfl, d, rfl⟩
  have hB : Hx (Below w.heap.size w (w1.drewN d)) := ⟨below_drewN hB.out d⟩
  have HT := Hx.mk (HT0.out.keep hB.out)
  go_wp2_with fail
  with_reducible refine (H2.out _ HT.out).mono ?_
  rintro e3 w3 ⟨rfl, hb⟩
  have hB : Hx (Below w.heap.size w w3) := ⟨hB.out.trans (hb.mono hB.out.size)⟩
  clear hb
  have HT := Hx.mk (HT0.out.keep hB.out)
  have y1 := Y1.out
  have y2 := Y2.out
  go_wp2_with fail
  clear y1 y2
  with_reducible refine (H3.out _ HT.out).mono ?_
  rintro e4 w4 ⟨rfl, hb⟩
  have hB : Hx (Below w.heap.size w w4) := ⟨hB.out.trans (hb.mono hB.out.size)⟩
  clear hb
  have y3 := Y3.out
  have y4 := Y4.out
  go_wp2
  go_ret
  exact ⟨by rw [HE.out]; rfl, hB.out⟩
theorem term_any (p : Nat) (e : Int) (w : World) (hp : p ≤ 13) (ht : Tb w) (he0 : -576 ≤ e) (he1 : e ≤ 576) :
    Calls Tryz.prog 55 #[.agg #[.int .i64 (p : Int), .int .i64 e]] w fun e' w' => e' = .returned (.string (strL (termL p e))) ∧ Below w.heap.size w w' := by
  by_cases h : e = 12
  · subst h; exact term_12 p w hp ht
  · by_cases hg : gE e = 12
    · exact term_whole p e w hp ht he0 he1 h hg
    · exact term_part p e w hp ht he0 he1 h (by have := gE_le e; omega)
end Go.Proofs.YtdlfnonlalkjdaaGreatDoor
