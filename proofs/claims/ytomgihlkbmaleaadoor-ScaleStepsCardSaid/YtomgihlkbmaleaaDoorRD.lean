/- ScaleSteps, walked. -/
import Derived.Test.YtomgihlkbmaleaaDoorRC
import Derived.BigQuiet
import Derived.Deep.QuietTactic
namespace Go.Proofs.YtomgihlkbmaleaaDoor
open Go.RowKit M
theorem SS.only {w0 w : World} {R : List (Nat × TypeId × Array Value)} (h : SS w0 w R) {r : Nat × TypeId × Array Value} (hm : r ∈ R) : SS w0 w [r] :=
  ⟨h.bl, h.l0, fun t ht => by rw [List.mem_singleton.1 ht]; exact h.rows r hm, fun t ht => by rw [List.mem_singleton.1 ht]; exact h.base r hm, List.pairwise_singleton _ _⟩
/-- The pitch behind i steps. -/
def av (M : Nat → Nat → Int) (n i : Nat) : Nat → Int := if i = n then oc 1 else M i
theorem av_nx (M : Nat → Nat → Int) (n i : Nat) : av M n (i + 1) = nx M n i := rfl
theorem stp_up {M : Nat → Nat → Int} {n : Nat} (h : SV M n) {i : Nat} (hi : i < n) : 0 < sg (stp M n i) := by
  have k := (lwB_iff.1 (h.up i hi)).2.2
  rw [show sg (subV (M i) (nx M n i)) = -sg (stp M n i) from sg_anti fun j _ => by simp only [subV, stp]; omega] at k
  omega
theorem nx_val {M : Nat → Nat → Int} {n : Nat} (h : SV M n) {i : Nat} (hi : i < n) : bdB (nx M n i) 576 = true := (lwB_iff.1 (h.up i hi)).2.1
set_option maxRecDepth 100000 in
set_option maxHeartbeats 16000000 in
theorem sst_n (ao : Option Addr) (n c : Nat) (M : Nat → Nat → Int) (w : World) (hs : Sm w) (hS : CV w ao n M) (hn : n ≤ 9223372036854775807) (h : 16 < n) :
    Calls Tryd.prog 5 #[.slice ao n c] w fun e w' => e = .returned (.bool true) ∧ Below w.heap.size w w' := by
  have d0 : decide ((16 : Int) < (n : Int)) = true := by simp; omega
  have HS := Bx.mk hS
  have S : Bx (SS w w []) := ⟨SS.start w hs⟩
  go_enter Tryd.func5, Tryd.ntmps5
  go_wp2_with fail
  refine (shead_any _ S.out.sm).mono ?_
  rintro e w1 ⟨rfl, hb⟩
  replace S := Bx.mk (S.out.call hb)
  clear hb
  go_wp2_with fail
  go_ret
  exact ⟨rfl, S.out.bl⟩
set_option maxRecDepth 100000 in
set_option maxHeartbeats 16000000 in
theorem sst_nv (ao : Option Addr) (n c : Nat) (M : Nat → Nat → Int) (w : World) (hs : Sm w) (hS : CV w ao n M) (h : ¬ 16 < n) (H1 : Hx (∀ w, CV w ao n M → Calls Tryd.prog 16 #[.slice ao n c] w fun e w' => e = .returned (.bool false) ∧ Below w.heap.size w w')) :
    Calls Tryd.prog 5 #[.slice ao n c] w fun e w' => e = .returned (.bool true) ∧ Below w.heap.size w w' := by
  have d0 : decide ((16 : Int) < (n : Int)) = false := by simp; omega
  have HS := Bx.mk hS
  have S : Bx (SS w w []) := ⟨SS.start w hs⟩
  go_enter Tryd.func5, Tryd.ntmps5
  go_wp2_with fail
  refine (shead_any _ S.out.sm).mono ?_
  rintro e w1 ⟨rfl, hb⟩
  replace S := Bx.mk (S.out.call hb)
  clear hb
  go_wp2_with fail
  refine (H1.out _ (HS.out.keep S.out.bl)).mono ?_
  rintro e w2 ⟨rfl, hb⟩
  replace S := Bx.mk (S.out.call hb)
  clear hb
  go_wp2_with fail
  go_ret
  exact ⟨rfl, S.out.bl⟩
set_option maxRecDepth 100000 in
set_option maxHeartbeats 16000000 in
theorem sst_err (ao : Option Addr) (n c : Nat) (M : Nat → Nat → Int) (w : World) (hs : Sm w) (hS : CV w ao n M) (h : ¬ 16 < n) (H1 : Hx (∀ w, CV w ao n M → Calls Tryd.prog 16 #[.slice ao n c] w fun e w' => e = .returned (.bool true) ∧ Below w.heap.size w w')) (H2 : Hx (∀ w, CV w ao n M → Sm w → Calls Tryd.prog 14 #[.slice ao n c] w (NilR w 3))) :
    Calls Tryd.prog 5 #[.slice ao n c] w fun e w' => e = .returned (.bool true) ∧ Below w.heap.size w w' := by
  have d0 : decide ((16 : Int) < (n : Int)) = false := by simp; omega
  have HS := Bx.mk hS
  have S : Bx (SS w w []) := ⟨SS.start w hs⟩
  go_enter Tryd.func5, Tryd.ntmps5
  go_wp2_with fail
  refine (shead_any _ S.out.sm).mono ?_
  rintro e w1 ⟨rfl, hb⟩
  replace S := Bx.mk (S.out.call hb)
  clear hb
  go_wp2_with fail
  refine (H1.out _ (HS.out.keep S.out.bl)).mono ?_
  rintro e w2 ⟨rfl, hb⟩
  replace S := Bx.mk (S.out.call hb)
  clear hb
  go_wp2_with fail
  refine (H2.out _ (HS.out.keep S.out.bl) S.out.sm).mono ?_
  rintro e w3 ⟨rfl, hb⟩
  replace S := Bx.mk (S.out.call hb)
  clear hb
  go_wp2_with fail
  go_ret
  exact ⟨rfl, S.out.bl⟩
set_option maxRecDepth 100000 in
set_option maxHeartbeats 16000000 in
theorem sst_ok (ao : Option Addr) (n c : Nat) (M : Nat → Nat → Int) (w : World) (hs : Sm w) (hS : CV w ao n M) (h : ¬ 16 < n) (hn0 : 0 < n) (HV : Bx (SV M n)) (HR : Bx (∀ i, i < n → bdB (stp M n i) 576 = true)) (H1 : Hx (∀ w, CV w ao n M → Calls Tryd.prog 16 #[.slice ao n c] w fun e w' => e = .returned (.bool true) ∧ Below w.heap.size w w')) (H2 : Hx (∀ w, CV w ao n M → Sm w → Calls Tryd.prog 14 #[.slice ao n c] w (ListR w n (stp M n)))) :
    Calls Tryd.prog 5 #[.slice ao n c] w fun e w' => e = .returned (.bool true) ∧ Below w.heap.size w w' := by
  have d0 : decide ((16 : Int) < (n : Int)) = false := by simp; omega
  have HS := Bx.mk hS
  have S : Bx (SS w w []) := ⟨SS.start w hs⟩
  go_enter Tryd.func5, Tryd.ntmps5
  go_wp2_with fail
  refine (shead_any _ S.out.sm).mono ?_
  rintro e w1 ⟨rfl, hb⟩
  replace S := Bx.mk (S.out.call hb)
  clear hb
  go_wp2_with fail
  refine (H1.out _ (HS.out.keep S.out.bl)).mono ?_
  rintro e w2 ⟨rfl, hb⟩
  replace S := Bx.mk (S.out.call hb)
  clear hb
  go_wp2_with fail
  refine (H2.out _ (HS.out.keep S.out.bl) S.out.sm).mono ?_
  rintro e w3 ⟨g, cap, rfl, hcap, hG, hb⟩
  replace S := Bx.mk (S.out.call hb)
  clear hb
  obtain ⟨g', og, eg, hg, hcg⟩ := hG hn0
  cases eg
  obtain ⟨b, ob, rfl, hbb, hcs⟩ := HS.out.keep S.out.bl hn0
  have CG := Bx.mk hcg
  have CS := Bx.mk hcs
  clear hcg hcs hG
  have hBL := Bx.mk S.out.bl
  have hSM := Bx.mk S.out.sm
  clear S H1 H2 HS
  have hn0' : ((n : Int) == (n : Int)) = true := by simp
  have hgs := hg
  go_wp2_with fail
  go_loopw [3, 42] (fun up ix wr => ∃ i : Nat, i ≤ n ∧ up = .bool true ∧ ix = .int .i64 i ∧ Bx (SS w3 wr [(w3.heap.size, 23, #[.int .i64 (av M n i 0), .int .i64 (av M n i 1), .int .i64 (av M n i 2), .int .i64 (av M n i 3), .int .i64 (av M n i 4), .int .i64 (av M n i 5)])])) (fun _ ix _ => n - (intOf ix).toNat)
  case atStart =>
    refine ⟨0, by omega, rfl, rfl, ⟨?_⟩⟩
    have e : ∀ k, k < 6 → av M n 0 k = 0 := fun k hk => by unfold av; rw [if_neg (by omega)]; exact HV.out.zero k hk
    rw [e 0 (by omega), e 1 (by omega), e 2 (by omega), e 3 (by omega), e 4 (by omega), e 5 (by omega)]
    exact (SS.start w3 hSM.out).push _ _
  case round =>
    obtain ⟨i, hi, rfl, rfl, S⟩ := hrel
    by_cases hin : i < n
    · have hin' : (i : Int) < (n : Int) := by omega
      obtain ⟨a0, a1, a2, a3, a4, a5⟩ := row_six CG.out hg S.out.bl hin
      obtain ⟨x, hx⟩ : ∃ x, stp M n i = x := ⟨_, rfl⟩
      obtain ⟨z, hz⟩ : ∃ z, M i = z := ⟨_, rfl⟩
      obtain ⟨y, hy⟩ : ∃ y, nx M n i = y := ⟨_, rfl⟩
      rw [hx] at a0 a1 a2 a3 a4 a5
      simp only [Nat.zero_add] at a0 a1 a2 a3 a4 a5
      have hav : av M n i = z := by unfold av; rw [if_neg (by omega), hz]
      have hav2 : av M n (i + 1) = y := hy
      have C1 : Bx (∀ w, Sm w → Calls Tryd.prog 12 #[PV x, .agg #[.int .i64 0, .int .i64 0, .int .i64 0, .int .i64 0, .int .i64 0, .int .i64 0]] w fun e w' => e = .returned (.tuple #[.int .i64 1, .int .i64 0]) ∧ Below w.heap.size w w') := ⟨fun w hs => by
        have hxv : bdB x 576 = true := by rw [← hx]; exact HR.out i hin
        refine pcmp_any x (fun _ => 0) 1 0 ?_ (by simp [cmE, hxv, u_val]) w hs.pm
        rw [cm_ok hxv u_val, show sg (subV x fun _ => 0) = sg x from sg_congr fun j _ => by simp [subV]]
        have := stp_up HV.out hin; rw [hx] at this
        have := sg_rng x; omega⟩
      have M1 : Bx (∀ w, Calls Tryd.prog 15 #[PV z, PV x] w fun e w' => e = .returned (.tuple #[PV y, .int .i64 0]) ∧ Below w.heap.size w w') := ⟨fun w => by
        have hxv : bdB x 576 = true := by rw [← hx]; exact HR.out i hin
        have hzv : bdB z 576 = true := by rw [← hz]; exact sv_val HV.out hin
        have hyv : bdB y 576 = true := by rw [← hy]; exact nx_val HV.out hin
        have ey : ∀ j, z j + 1 * x j = y j := fun j => by rw [← hx, ← hy, ← hz]; simp only [stp]; omega
        have ef : (fun j => z j + x j) = y := funext fun j => by have := ey j; omega
        refine pmul_any z x y 0 w ?_ ?_
        · simp [comV, hxv, hzv, ef, chkV, hyv]
        · simp [comE, hxv, hzv, ef, chkE, hyv]⟩
      rw [hav] at S
      have HX := Bx.mk hav2
      have HZ := Bx.mk hz
      clear hx hz hy hav hav2
      go_wp2_with fail
      clear a0 a1 a2 a3 a4 a5
      replace S := Bx.mk (S.out.push #[.int .i64 (x 0), .int .i64 (x 1), .int .i64 (x 2), .int .i64 (x 3), .int .i64 (x 4), .int .i64 (x 5)] 23)
      generalize hW1 : World.alloc wr _ = W1
      rw [hW1] at S
      clear hW1
      obtain ⟨s0, s1, s2, s3, s4, s5⟩ := row_six CS.out hbb S.out.bl hin
      rw [HZ.out] at s0 s1 s2 s3 s4 s5
      obtain ⟨x0, x1, x2, x3, x4, x5, xl⟩ := S.out.six wr.heap.size 23 (.int .i64 (x 0)) (.int .i64 (x 1)) (.int .i64 (x 2)) (.int .i64 (x 3)) (.int .i64 (x 4)) (.int .i64 (x 5)) List.mem_cons_self
      obtain ⟨z0, z1, z2, z3, z4, z5, zl⟩ := S.out.six w3.heap.size 23 (.int .i64 (z 0)) (.int .i64 (z 1)) (.int .i64 (z 2)) (.int .i64 (z 3)) (.int .i64 (z 4)) (.int .i64 (z 5)) (List.mem_cons_of_mem _ List.mem_cons_self)
      have E := eq6_is 23 und_pitch z z true ⟨(fun _ _ _ => rfl), fun _ => rfl⟩
      unfold PV at E
      go_quiet (fail)
      clear s0 s1 s2 s3 s4 s5
      clear x0 x1 x2 x3 x4 x5 xl z0 z1 z2 z3 z4 z5 zl
      replace S := Bx.mk (S.out.drewN nq)
      obtain ⟨x0, x1, x2, x3, x4, x5, xl⟩ := S.out.six wr.heap.size 23 (.int .i64 (x 0)) (.int .i64 (x 1)) (.int .i64 (x 2)) (.int .i64 (x 3)) (.int .i64 (x 4)) (.int .i64 (x 5)) List.mem_cons_self
      obtain ⟨z0, z1, z2, z3, z4, z5, zl⟩ := S.out.six w3.heap.size 23 (.int .i64 (z 0)) (.int .i64 (z 1)) (.int .i64 (z 2)) (.int .i64 (z 3)) (.int .i64 (z 4)) (.int .i64 (z 5)) (List.mem_cons_of_mem _ List.mem_cons_self)
      go_wp2_with fail
      refine (C1.out _ S.out.sm).mono ?_
      rintro e w5 ⟨rfl, hb5⟩
      replace S := Bx.mk (S.out.call hb5)
      clear hb5
      clear x0 x1 x2 x3 x4 x5 xl z0 z1 z2 z3 z4 z5 zl
      obtain ⟨x0, x1, x2, x3, x4, x5, xl⟩ := S.out.six wr.heap.size 23 (.int .i64 (x 0)) (.int .i64 (x 1)) (.int .i64 (x 2)) (.int .i64 (x 3)) (.int .i64 (x 4)) (.int .i64 (x 5)) List.mem_cons_self
      obtain ⟨z0, z1, z2, z3, z4, z5, zl⟩ := S.out.six w3.heap.size 23 (.int .i64 (z 0)) (.int .i64 (z 1)) (.int .i64 (z 2)) (.int .i64 (z 3)) (.int .i64 (z 4)) (.int .i64 (z 5)) (List.mem_cons_of_mem _ List.mem_cons_self)
      go_wp2_with fail
      refine (M1.out _).mono ?_
      rintro e w6 ⟨rfl, hb6⟩
      replace S := Bx.mk (S.out.call hb6)
      clear hb6
      clear x0 x1 x2 x3 x4 x5 xl z0 z1 z2 z3 z4 z5 zl
      obtain ⟨x0, x1, x2, x3, x4, x5, xl⟩ := S.out.six wr.heap.size 23 (.int .i64 (x 0)) (.int .i64 (x 1)) (.int .i64 (x 2)) (.int .i64 (x 3)) (.int .i64 (x 4)) (.int .i64 (x 5)) List.mem_cons_self
      obtain ⟨z0, z1, z2, z3, z4, z5, zl⟩ := S.out.six w3.heap.size 23 (.int .i64 (z 0)) (.int .i64 (z 1)) (.int .i64 (z 2)) (.int .i64 (z 3)) (.int .i64 (z 4)) (.int .i64 (z 5)) (List.mem_cons_of_mem _ List.mem_cons_self)
      obtain ⟨f0, f1, f2, f3, f4, f5⟩ := S.out.fz6 w3.heap.size 23 #[.int .i64 (z 0), .int .i64 (z 1), .int .i64 (z 2), .int .i64 (z 3), .int .i64 (z 4), .int .i64 (z 5)] (List.mem_cons_of_mem _ List.mem_cons_self)
      have S2 := S
      clear S
      go_wp2_with fail
      have S3 := Bx.mk ((SS.put6 (L := [(wr.heap.size, 23, #[.int .i64 (x 0), .int .i64 (x 1), .int .i64 (x 2), .int .i64 (x 3), .int .i64 (x 4), .int .i64 (x 5)])]) (M := []) (b := w3.heap.size) (t := 23) S2.out (.int .i64 (y 0)) (.int .i64 (y 1)) (.int .i64 (y 2)) (.int .i64 (y 3)) (.int .i64 (y 4)) (.int .i64 (y 5))).push #[.int .i64 (y 0), .int .i64 (y 1), .int .i64 (y 2), .int .i64 (y 3), .int .i64 (y 4), .int .i64 (y 5)] 23)
      refine ⟨⟨i + 1, by omega, rfl, by go_num, ⟨?_⟩⟩, by simp [intOf]; omega⟩
      rw [HX.out]
      exact S3.out.only (List.mem_cons_of_mem _ (List.mem_cons_of_mem _ List.mem_cons_self))
    · obtain rfl : i = n := by omega
      have e : av M i i = oc 1 := by unfold av; rw [if_pos rfl]
      rw [e] at S
      have hl : ¬ (i : Int) < (i : Int) := by omega
      obtain ⟨z0, z1, z2, z3, z4, z5, zl⟩ := S.out.six w3.heap.size 23 (.int .i64 (oc 1 0)) (.int .i64 (oc 1 1)) (.int .i64 (oc 1 2)) (.int .i64 (oc 1 3)) (.int .i64 (oc 1 4)) (.int .i64 (oc 1 5)) List.mem_cons_self
      simp only [oc, if_pos, reduceIte, Int.mul_one, Nat.succ_ne_zero] at z0 z1 z2 z3 z4 z5
      have E : ∀ w, (Op.equalIn 10000 23 (.agg #[.int .i64 12, .int .i64 0, .int .i64 0, .int .i64 0, .int .i64 0, .int .i64 0]) (.agg #[.int .i64 12, .int .i64 0, .int .i64 0, .int .i64 0, .int .i64 0, .int .i64 0])).run Tryd.prog w = .ok true w := eq6_is 23 und_pitch (pv [12]) (pv [12]) true (by simp)
      have hfin := hBL.out.trans (S.out.bl.mono hBL.out.size)
      clear e
      go_wp2_with fail
      go_ret
      exact ⟨rfl, hfin⟩
theorem ssteps_all (ao : Option Addr) (n c : Nat) (M : Nat → Nat → Int) (w : World) (hs : Sm w) (hn : n ≤ 9223372036854775807) (hcn : n ≤ c) (hcm : c ≤ maxLen) (hS : CV w ao n M) :
    Calls Tryd.prog 5 #[.slice ao n c] w fun e w' => e = .returned (.bool true) ∧ Below w.heap.size w w' := by
  by_cases h : 16 < n
  · exact sst_n ao n c M w hs hS hn h
  obtain ⟨r, hr⟩ := bool_of (SV M n)
  cases r with
  | false => exact sst_nv ao n c M w hs hS h ⟨fun w hS => rvalid_any ao n c M (by omega) hcn false hr w hS⟩
  | true =>
    have hv := hr.1 rfl
    have V := fun w hS => rvalid_any ao n c M (by omega) hcn true hr w hS
    by_cases hR : ∀ i, i < n → bdB (stp M n i) 576 = true
    · exact sst_ok ao n c M w hs hS h hv.pos ⟨hv⟩ ⟨hR⟩ ⟨V⟩ ⟨fun w hS hs => steps_ok ao n c M w hcn hS hs hv hR⟩
    · exact sst_err ao n c M w hs hS h ⟨V⟩ ⟨fun w hS hs => steps_no ao n c M w hcn hS hs hv hR⟩
end Go.Proofs.YtomgihlkbmaleaaDoor
