/- natural.require; attempt with its deferred call. -/
import Derived.Test.YtegjhkjmejckdaaDoorN18
namespace Go.Proofs.YtegjhkjmejckdaaDoor
open Go.RowKit M
theorem require2_ok (b : Nat) (ao bo : Option Addr) (A B : List Int) (n m ca cb : Nat) (w : World) (hn : A.length = n) (hm : B.length = m) (hca : CellsK .u32 w ao A) (hcb : CellsK .u32 w bo B) (hA : isNat A = true) (hB : isNat B = true)
    (c0 : w.cell? ⟨b, 0, none⟩ = some (.slice ao n ca)) (c1 : w.cell? ⟨b, 1, none⟩ = some (.slice bo m cb)) :
    Calls Tryd.prog 39 #[.slice (some ⟨b, 0, none⟩) 2 2] w fun e w' => e = .returned (.tuple #[]) ∧ w = w' := by
  have hvA := valid_any ao A n ca w hn hca
  have hvB := valid_any bo B m cb w hm hcb
  rw [hA] at hvA
  rw [hB] at hvB
  have HA := Bx.mk hvA
  have HB := Bx.mk hvB
  clear hvA hvB hA hB hn hm hca hcb
  go_enter Tryd.func39, Tryd.ntmps39
  go_wp2
  refine wp_loop_rounds 3 ?_
  rw [rounds_succ]
  go_wp2_with fail
  refine HA.out.mono ?_
  rintro e w' ⟨rfl, rfl⟩
  go_wp2
  rw [rounds_succ]
  go_wp2_with fail
  refine HB.out.mono ?_
  rintro e w' ⟨rfl, rfl⟩
  go_wp2
  rw [rounds_succ]
  go_wp2
  go_end0
  exact ⟨rfl, rfl⟩
theorem require2_bad (b : Nat) (ao bo : Option Addr) (A B : List Int) (n m ca cb : Nat) (w : World) (hn : A.length = n) (hm : B.length = m) (hca : CellsK .u32 w ao A) (hcb : CellsK .u32 w bo B) (hAB : ¬ (isNat A = true ∧ isNat B = true))
    (c0 : w.cell? ⟨b, 0, none⟩ = some (.slice ao n ca)) (c1 : w.cell? ⟨b, 1, none⟩ = some (.slice bo m cb)) :
    Calls Tryd.prog 39 #[.slice (some ⟨b, 0, none⟩) 2 2] w fun e w' => e = .panicked [{ v := .iface 29 (.int .i64 1), recovered := false }] ∧ w = w' := by
  have hvA := valid_any ao A n ca w hn hca
  have hvB := valid_any bo B m cb w hm hcb
  by_cases hA : isNat A = true
  · have hB : isNat B = false := by simpa [hA] using hAB
    rw [hA] at hvA
    rw [hB] at hvB
    have HA := Bx.mk hvA
    have HB := Bx.mk hvB
    clear hvA hvB hA hB hn hm hca hcb hAB
    go_enter Tryd.func39, Tryd.ntmps39
    go_wp2
    refine wp_loop_rounds 3 ?_
    rw [rounds_succ]
    go_wp2_with fail
    refine HA.out.mono ?_
    rintro e w' ⟨rfl, rfl⟩
    go_wp2
    rw [rounds_succ]
    go_wp2_with fail
    refine HB.out.mono ?_
    rintro e w' ⟨rfl, rfl⟩
    go_wp2
    exact ⟨rfl, rfl, rfl⟩
  · rw [show isNat A = false from by simpa using hA] at hvA
    have HA := Bx.mk hvA
    clear hvA hvB hA hn hm hca hcb hAB
    go_enter Tryd.func39, Tryd.ntmps39
    go_wp2
    refine wp_loop_rounds 3 ?_
    rw [rounds_succ]
    go_wp2_with fail
    refine HA.out.mono ?_
    rintro e w' ⟨rfl, rfl⟩
    go_wp2
    exact ⟨rfl, rfl, rfl⟩
theorem require1_ok (b : Nat) (ao : Option Addr) (A : List Int) (n ca : Nat) (w : World) (hn : A.length = n) (hca : CellsK .u32 w ao A) (hA : isNat A = true)
    (c0 : w.cell? ⟨b, 0, none⟩ = some (.slice ao n ca)) :
    Calls Tryd.prog 39 #[.slice (some ⟨b, 0, none⟩) 1 1] w fun e w' => e = .returned (.tuple #[]) ∧ w = w' := by
  have hvA := valid_any ao A n ca w hn hca
  rw [hA] at hvA
  have HA := Bx.mk hvA
  clear hvA hA hn hca
  go_enter Tryd.func39, Tryd.ntmps39
  go_wp2
  refine wp_loop_rounds 2 ?_
  rw [rounds_succ]
  go_wp2_with fail
  refine HA.out.mono ?_
  rintro e w' ⟨rfl, rfl⟩
  go_wp2
  rw [rounds_succ]
  go_wp2
  go_end0
  exact ⟨rfl, rfl⟩
theorem require1_bad (b : Nat) (ao : Option Addr) (A : List Int) (n ca : Nat) (w : World) (hn : A.length = n) (hca : CellsK .u32 w ao A) (hA : ¬ isNat A = true)
    (c0 : w.cell? ⟨b, 0, none⟩ = some (.slice ao n ca)) :
    Calls Tryd.prog 39 #[.slice (some ⟨b, 0, none⟩) 1 1] w fun e w' => e = .panicked [{ v := .iface 29 (.int .i64 1), recovered := false }] ∧ w = w' := by
  have hvA := valid_any ao A n ca w hn hca
  rw [show isNat A = false from by simpa using hA] at hvA
  have HA := Bx.mk hvA
  clear hvA hA hn hca
  go_enter Tryd.func39, Tryd.ntmps39
  go_wp2
  refine wp_loop_rounds 2 ?_
  rw [rounds_succ]
  go_wp2_with fail
  refine HA.out.mono ?_
  rintro e w' ⟨rfl, rfl⟩
  go_wp2
  exact ⟨rfl, rfl, rfl⟩
theorem assert_errno (n : Int) (w : World) : (Instr.typeAssert (.iface 29 (.int .i64 n)) 20 29 true).run Tryd.prog w = .ok (.tuple #[.int .i64 n, .bool true]) w := by kernel_rfl
/-- The deferred call where nothing was raised. -/
theorem catch_idle65 (p : Addr) (w : World) :
    CallsD Tryd.prog 65 #[.pointer (some p)] .returning w fun e u' w' => e = .returned (.tuple #[]) ∧ u' = .returning ∧ w' = w := by
  refine callsD_of_wpS Tryd.func65 rfl fun c₀ cs hu => ?_
  simp only [Tryd.ntmps65, List.size_toArray, List.length_cons, List.length_nil, Nat.reduceAdd, Nat.reduceSub, Array.replicate_succ, Array.replicate_zero, List.push_toArray, List.append_toArray, List.nil_append, List.cons_append]
  apply wpS_seq
  apply wpS_region
  simp [wpOpsS, go_sem, recoverD, hu, Exit.thenS]
  refine wpS_of_wp ?_
  go_wp2
  simp [bodyPostS, results, Tryd.results65]
  cases c₀; simp_all
set_option maxRecDepth 100000 in
theorem catch_raised65 (p : Addr) (x n : Int) (older : List PanicEntry) (w : World) (hc : w.cell? p = some (.int .i64 x)) (hz : w.frozen? p = false) :
    CallsD Tryd.prog 65 #[.pointer (some p)] (.panicking ({ v := .iface 29 (.int .i64 n), recovered := false } :: older)) w fun e u' w' =>
      e = .returned (.tuple #[]) ∧ u' = .panicking ({ v := .iface 29 (.int .i64 n), recovered := true } :: older) ∧ w' = w.setCell p (.int .i64 n) := by
  refine callsD_of_wpS Tryd.func65 rfl fun c₀ cs hu => ?_
  simp only [Tryd.ntmps65, List.size_toArray, List.length_cons, List.length_nil, Nat.reduceAdd, Nat.reduceSub, Array.replicate_succ, Array.replicate_zero, List.push_toArray, List.append_toArray, List.nil_append, List.cons_append]
  apply wpS_seq
  apply wpS_region
  simp [wpOpsS, go_sem, recoverD, hu, Exit.thenS]
  refine wpS_of_wp ?_
  have hta := assert_errno n w
  go_wp2
  simp [bodyPostS, results, Tryd.results65]
/-- The deferred call where nothing was raised. -/
theorem catch_idle72 (p : Addr) (w : World) :
    CallsD Tryd.prog 72 #[.pointer (some p)] .returning w fun e u' w' => e = .returned (.tuple #[]) ∧ u' = .returning ∧ w' = w := by
  refine callsD_of_wpS Tryd.func72 rfl fun c₀ cs hu => ?_
  simp only [Tryd.ntmps72, List.size_toArray, List.length_cons, List.length_nil, Nat.reduceAdd, Nat.reduceSub, Array.replicate_succ, Array.replicate_zero, List.push_toArray, List.append_toArray, List.nil_append, List.cons_append]
  apply wpS_seq
  apply wpS_region
  simp [wpOpsS, go_sem, recoverD, hu, Exit.thenS]
  refine wpS_of_wp ?_
  go_wp2
  simp [bodyPostS, results, Tryd.results72]
  cases c₀; simp_all
set_option maxRecDepth 100000 in
theorem catch_raised72 (p : Addr) (x n : Int) (older : List PanicEntry) (w : World) (hc : w.cell? p = some (.int .i64 x)) (hz : w.frozen? p = false) :
    CallsD Tryd.prog 72 #[.pointer (some p)] (.panicking ({ v := .iface 29 (.int .i64 n), recovered := false } :: older)) w fun e u' w' =>
      e = .returned (.tuple #[]) ∧ u' = .panicking ({ v := .iface 29 (.int .i64 n), recovered := true } :: older) ∧ w' = w.setCell p (.int .i64 n) := by
  refine callsD_of_wpS Tryd.func72 rfl fun c₀ cs hu => ?_
  simp only [Tryd.ntmps72, List.size_toArray, List.length_cons, List.length_nil, Nat.reduceAdd, Nat.reduceSub, Array.replicate_succ, Array.replicate_zero, List.push_toArray, List.append_toArray, List.nil_append, List.cons_append]
  apply wpS_seq
  apply wpS_region
  simp [wpOpsS, go_sem, recoverD, hu, Exit.thenS]
  refine wpS_of_wp ?_
  have hta := assert_errno n w
  go_wp2
  simp [bodyPostS, results, Tryd.results72]
/-- The deferred call where nothing was raised. -/
theorem catch_idle77 (p : Addr) (w : World) :
    CallsD Tryd.prog 77 #[.pointer (some p)] .returning w fun e u' w' => e = .returned (.tuple #[]) ∧ u' = .returning ∧ w' = w := by
  refine callsD_of_wpS Tryd.func77 rfl fun c₀ cs hu => ?_
  simp only [Tryd.ntmps77, List.size_toArray, List.length_cons, List.length_nil, Nat.reduceAdd, Nat.reduceSub, Array.replicate_succ, Array.replicate_zero, List.push_toArray, List.append_toArray, List.nil_append, List.cons_append]
  apply wpS_seq
  apply wpS_region
  simp [wpOpsS, go_sem, recoverD, hu, Exit.thenS]
  refine wpS_of_wp ?_
  go_wp2
  simp [bodyPostS, results, Tryd.results77]
  cases c₀; simp_all
set_option maxRecDepth 100000 in
theorem catch_raised77 (p : Addr) (x n : Int) (older : List PanicEntry) (w : World) (hc : w.cell? p = some (.int .i64 x)) (hz : w.frozen? p = false) :
    CallsD Tryd.prog 77 #[.pointer (some p)] (.panicking ({ v := .iface 29 (.int .i64 n), recovered := false } :: older)) w fun e u' w' =>
      e = .returned (.tuple #[]) ∧ u' = .panicking ({ v := .iface 29 (.int .i64 n), recovered := true } :: older) ∧ w' = w.setCell p (.int .i64 n) := by
  refine callsD_of_wpS Tryd.func77 rfl fun c₀ cs hu => ?_
  simp only [Tryd.ntmps77, List.size_toArray, List.length_cons, List.length_nil, Nat.reduceAdd, Nat.reduceSub, Array.replicate_succ, Array.replicate_zero, List.push_toArray, List.append_toArray, List.nil_append, List.cons_append]
  apply wpS_seq
  apply wpS_region
  simp [wpOpsS, go_sem, recoverD, hu, Exit.thenS]
  refine wpS_of_wp ?_
  have hta := assert_errno n w
  go_wp2
  simp [bodyPostS, results, Tryd.results77]
/-- The deferred call where nothing was raised. -/
theorem catch_idle79 (p : Addr) (w : World) :
    CallsD Tryd.prog 79 #[.pointer (some p)] .returning w fun e u' w' => e = .returned (.tuple #[]) ∧ u' = .returning ∧ w' = w := by
  refine callsD_of_wpS Tryd.func79 rfl fun c₀ cs hu => ?_
  simp only [Tryd.ntmps79, List.size_toArray, List.length_cons, List.length_nil, Nat.reduceAdd, Nat.reduceSub, Array.replicate_succ, Array.replicate_zero, List.push_toArray, List.append_toArray, List.nil_append, List.cons_append]
  apply wpS_seq
  apply wpS_region
  simp [wpOpsS, go_sem, recoverD, hu, Exit.thenS]
  refine wpS_of_wp ?_
  go_wp2
  simp [bodyPostS, results, Tryd.results79]
  cases c₀; simp_all
set_option maxRecDepth 100000 in
theorem catch_raised79 (p : Addr) (x n : Int) (older : List PanicEntry) (w : World) (hc : w.cell? p = some (.int .i64 x)) (hz : w.frozen? p = false) :
    CallsD Tryd.prog 79 #[.pointer (some p)] (.panicking ({ v := .iface 29 (.int .i64 n), recovered := false } :: older)) w fun e u' w' =>
      e = .returned (.tuple #[]) ∧ u' = .panicking ({ v := .iface 29 (.int .i64 n), recovered := true } :: older) ∧ w' = w.setCell p (.int .i64 n) := by
  refine callsD_of_wpS Tryd.func79 rfl fun c₀ cs hu => ?_
  simp only [Tryd.ntmps79, List.size_toArray, List.length_cons, List.length_nil, Nat.reduceAdd, Nat.reduceSub, Array.replicate_succ, Array.replicate_zero, List.push_toArray, List.append_toArray, List.nil_append, List.cons_append]
  apply wpS_seq
  apply wpS_region
  simp [wpOpsS, go_sem, recoverD, hu, Exit.thenS]
  refine wpS_of_wp ?_
  have hta := assert_errno n w
  go_wp2
  simp [bodyPostS, results, Tryd.results79]
end Go.Proofs.YtegjhkjmejckdaaDoor
