/- require; the deferred calls; attempt. -/
import Derived.Test.YthfpkjeobdajiabGreatDoorR5
namespace Go.Proofs.YthfpkjeobdajiabGreatDoor
open Go.RowKit M
/-- An error code is raised. -/
def Raised (w : World) (n : Int) (e : Ending) (w' : World) : Prop := e = .panicked [{ v := .iface 26 (.int .i64 n), recovered := false }] ∧ Below w.heap.size w w'
/-- Both are numbers, or ErrArg is raised. -/
def Req (ok : Bool) (w : World) (e : Ending) (w' : World) : Prop := ((ok = true ∧ e = .returned (.tuple #[])) ∨ (ok = false ∧ e = .panicked [{ v := .iface 26 (.int .i64 1), recovered := false }])) ∧ Below w.heap.size w w'
theorem require2_any (b : Nat) (n1 d1 n2 d2 : Int) (w : World) (i1 : I64 n1) (i2 : I64 d1) (i3 : I64 n2) (i4 : I64 d2) (hb : b < w.heap.size)
    (c0 : w.cell? ⟨b, 0, none⟩ = some (.int .i64 n1)) (c1 : w.cell? ⟨b, 1, none⟩ = some (.int .i64 d1)) (c2 : w.cell? ⟨b, 2, none⟩ = some (.int .i64 n2)) (c3 : w.cell? ⟨b, 3, none⟩ = some (.int .i64 d2)) :
    Calls Tryz.prog 43 #[.slice (some ⟨b, 0, none⟩) 2 2] w (Req (validQ n1 d1 && validQ n2 d2) w) := by
  have V1 := Bx.mk (fun w => valid_any n1 d1 w i1 i2)
  have V2 := Bx.mk (fun w => valid_any n2 d2 w i3 i4)
  obtain ⟨v1, hv1⟩ : ∃ v, validQ n1 d1 = v := ⟨_, rfl⟩
  obtain ⟨v2, hv2⟩ : ∃ v, validQ n2 d2 = v := ⟨_, rfl⟩
  rw [hv1] at V1
  rw [hv2] at V2
  rw [hv1, hv2]
  clear hv1 hv2 i1 i2 i3 i4
  have hba : b < w.heap.size + 1 := by omega
  cases v1
  · go_enter Tryz.func43, Tryz.ntmps43
    go_wp2
    refine wp_loop_rounds 3 ?_
    rw [rounds_succ]
    go_wp2_with fail
    refine (V1.out _).mono ?_
    rintro e w2 ⟨rfl, hb2⟩
    have hB : Below w.heap.size w w2 := (show Below w.heap.size w (w.alloc (.cells #[.int .i64 n1, .int .i64 d1] 23)) from by repeat (first | exact Below.refl _ _ | apply below_drewN | refine Below.setCell ?_ (by simp <;> omega) _ | refine Below.alloc ?_ (by simp <;> omega) _)).trans (hb2.mono (by simp <;> omega))
    go_wp2
    exact ⟨rfl, .inr ⟨rfl, rfl⟩, hB⟩
  · go_enter Tryz.func43, Tryz.ntmps43
    go_wp2
    refine wp_loop_rounds 3 ?_
    rw [rounds_succ]
    go_wp2_with fail
    refine (V1.out _).mono ?_
    rintro e w2 ⟨rfl, hb2⟩
    have hB : Below w.heap.size w w2 := (show Below w.heap.size w (w.alloc (.cells #[.int .i64 n1, .int .i64 d1] 23)) from by repeat (first | exact Below.refl _ _ | apply below_drewN | refine Below.setCell ?_ (by simp <;> omega) _ | refine Below.alloc ?_ (by simp <;> omega) _)).trans (hb2.mono (by simp <;> omega))
    have hB := Bx.mk hB
    have g2 : w2.cell? ⟨b, 2, none⟩ = some (.int .i64 n2) := kc hB.out c2 hb
    have g3 : w2.cell? ⟨b, 3, none⟩ = some (.int .i64 d2) := kc hB.out c3 hb
    have hsz : w.heap.size + 1 ≤ w2.heap.size := by simpa using hb2.size
    clear hb2
    go_wp2
    rw [rounds_succ]
    go_wp2_with fail
    refine (V2.out _).mono ?_
    rintro e w3 ⟨rfl, hb3⟩
    have hB3 : Below w.heap.size w w3 := (hB.out.alloc (by omega) (.cells #[.int .i64 n2, .int .i64 d2] 23)).trans (hb3.mono (by simp <;> omega))
    have hB3 := Bx.mk hB3
    clear hb3
    cases v2
    · go_wp2
      exact ⟨rfl, .inr ⟨rfl, rfl⟩, hB3.out⟩
    · go_wp2
      rw [rounds_succ]
      go_wp2
      go_end0
      exact ⟨.inl ⟨rfl, rfl⟩, hB3.out⟩
theorem require1_any (b : Nat) (n1 d1 : Int) (w : World) (i1 : I64 n1) (i2 : I64 d1) (hb : b < w.heap.size)
    (c0 : w.cell? ⟨b, 0, none⟩ = some (.int .i64 n1)) (c1 : w.cell? ⟨b, 1, none⟩ = some (.int .i64 d1)) :
    Calls Tryz.prog 43 #[.slice (some ⟨b, 0, none⟩) 1 1] w (Req (validQ n1 d1) w) := by
  have V1 := Bx.mk (fun w => valid_any n1 d1 w i1 i2)
  obtain ⟨v1, hv1⟩ : ∃ v, validQ n1 d1 = v := ⟨_, rfl⟩
  rw [hv1] at V1
  rw [hv1]
  clear hv1 i1 i2
  have hba : b < w.heap.size + 1 := by omega
  cases v1
  · go_enter Tryz.func43, Tryz.ntmps43
    go_wp2
    refine wp_loop_rounds 2 ?_
    rw [rounds_succ]
    go_wp2_with fail
    refine (V1.out _).mono ?_
    rintro e w2 ⟨rfl, hb2⟩
    have hB : Below w.heap.size w w2 := (show Below w.heap.size w (w.alloc (.cells #[.int .i64 n1, .int .i64 d1] 23)) from by repeat (first | exact Below.refl _ _ | apply below_drewN | refine Below.setCell ?_ (by simp <;> omega) _ | refine Below.alloc ?_ (by simp <;> omega) _)).trans (hb2.mono (by simp <;> omega))
    go_wp2
    exact ⟨rfl, .inr ⟨rfl, rfl⟩, hB⟩
  · go_enter Tryz.func43, Tryz.ntmps43
    go_wp2
    refine wp_loop_rounds 2 ?_
    rw [rounds_succ]
    go_wp2_with fail
    refine (V1.out _).mono ?_
    rintro e w2 ⟨rfl, hb2⟩
    have hB : Below w.heap.size w w2 := (show Below w.heap.size w (w.alloc (.cells #[.int .i64 n1, .int .i64 d1] 23)) from by repeat (first | exact Below.refl _ _ | apply below_drewN | refine Below.setCell ?_ (by simp <;> omega) _ | refine Below.alloc ?_ (by simp <;> omega) _)).trans (hb2.mono (by simp <;> omega))
    go_wp2
    rw [rounds_succ]
    go_wp2
    go_end0
    exact ⟨.inl ⟨rfl, rfl⟩, hB⟩
theorem assert_errno (n : Int) (w : World) : (Instr.typeAssert (.iface 26 (.int .i64 n)) 20 26 true).run Tryz.prog w = .ok (.tuple #[.int .i64 n, .bool true]) w := by kernel_rfl
theorem setCell_self (w : World) (b : Nat) (v : Value) (h : w.cell? ⟨b, 0, none⟩ = some v) : w.setCell ⟨b, 0, none⟩ v = w := by
  have e : w.heap.modify b (fun o => match o with
      | .cells c elem frozen => .cells (if (none : Option Nat).isSome then c else c.setIfInBounds 0 v) elem frozen
      | o => o) = w.heap := by
    apply Array.ext_getElem?
    intro i
    rw [Array.getElem?_modify]
    split
    · rename_i hib
      subst hib
      simp only [World.cell?] at h
      cases hh : w.heap[b]? with
      | none => rfl
      | some o =>
        cases o with
        | cells c elem fr =>
          rw [hh] at h
          simp at h
          have hc : c.setIfInBounds 0 v = c := by
            apply Array.ext_getElem?
            intro j
            rw [Array.getElem?_setIfInBounds]
            split
            · rename_i hj; subst hj; split
              · exact h.symm
              · rename_i hns; rw [Array.getElem?_eq_none (by omega)]
            · rfl
          simp [hc]
        | _ => rfl
    · rfl
  exact congrArg (fun h => ({ w with heap := h } : World)) e
/-- The deferred call where nothing was raised. -/
theorem catch_idle52 (p : Addr) (w : World) :
    CallsD Tryz.prog 61 #[.pointer (some p)] .returning w fun e u' w' => e = .returned (.tuple #[]) ∧ u' = .returning ∧ w' = w := by
  refine callsD_of_wpS Tryz.func61 rfl fun c₀ cs hu => ?_
  simp only [Tryz.ntmps61, List.size_toArray, List.length_cons, List.length_nil, Nat.reduceAdd, Nat.reduceSub, Array.replicate_succ, Array.replicate_zero, List.push_toArray, List.append_toArray, List.nil_append, List.cons_append]
  apply wpS_seq
  apply wpS_region
  simp [wpOpsS, go_sem, recoverD, hu, Exit.thenS]
  refine wpS_of_wp ?_
  go_wp2
  simp [bodyPostS, results, Tryz.results61]
  cases c₀; simp_all
set_option maxRecDepth 100000 in
theorem catch_raised52 (p : Addr) (x n : Int) (older : List PanicEntry) (w : World) (hc : w.cell? p = some (.int .i64 x)) (hz : w.frozen? p = false) :
    CallsD Tryz.prog 61 #[.pointer (some p)] (.panicking ({ v := .iface 26 (.int .i64 n), recovered := false } :: older)) w fun e u' w' =>
      e = .returned (.tuple #[]) ∧ u' = .panicking ({ v := .iface 26 (.int .i64 n), recovered := true } :: older) ∧ w' = w.setCell p (.int .i64 n) := by
  refine callsD_of_wpS Tryz.func61 rfl fun c₀ cs hu => ?_
  simp only [Tryz.ntmps61, List.size_toArray, List.length_cons, List.length_nil, Nat.reduceAdd, Nat.reduceSub, Array.replicate_succ, Array.replicate_zero, List.push_toArray, List.append_toArray, List.nil_append, List.cons_append]
  apply wpS_seq
  apply wpS_region
  simp [wpOpsS, go_sem, recoverD, hu, Exit.thenS]
  refine wpS_of_wp ?_
  have hta := assert_errno n w
  go_wp2
  simp [bodyPostS, results, Tryz.results61]
/-- The deferred call where nothing was raised. -/
theorem catch_idle54 (p : Addr) (w : World) :
    CallsD Tryz.prog 69 #[.pointer (some p)] .returning w fun e u' w' => e = .returned (.tuple #[]) ∧ u' = .returning ∧ w' = w := by
  refine callsD_of_wpS Tryz.func69 rfl fun c₀ cs hu => ?_
  simp only [Tryz.ntmps69, List.size_toArray, List.length_cons, List.length_nil, Nat.reduceAdd, Nat.reduceSub, Array.replicate_succ, Array.replicate_zero, List.push_toArray, List.append_toArray, List.nil_append, List.cons_append]
  apply wpS_seq
  apply wpS_region
  simp [wpOpsS, go_sem, recoverD, hu, Exit.thenS]
  refine wpS_of_wp ?_
  go_wp2
  simp [bodyPostS, results, Tryz.results69]
  cases c₀; simp_all
set_option maxRecDepth 100000 in
theorem catch_raised54 (p : Addr) (x n : Int) (older : List PanicEntry) (w : World) (hc : w.cell? p = some (.int .i64 x)) (hz : w.frozen? p = false) :
    CallsD Tryz.prog 69 #[.pointer (some p)] (.panicking ({ v := .iface 26 (.int .i64 n), recovered := false } :: older)) w fun e u' w' =>
      e = .returned (.tuple #[]) ∧ u' = .panicking ({ v := .iface 26 (.int .i64 n), recovered := true } :: older) ∧ w' = w.setCell p (.int .i64 n) := by
  refine callsD_of_wpS Tryz.func69 rfl fun c₀ cs hu => ?_
  simp only [Tryz.ntmps69, List.size_toArray, List.length_cons, List.length_nil, Nat.reduceAdd, Nat.reduceSub, Array.replicate_succ, Array.replicate_zero, List.push_toArray, List.append_toArray, List.nil_append, List.cons_append]
  apply wpS_seq
  apply wpS_region
  simp [wpOpsS, go_sem, recoverD, hu, Exit.thenS]
  refine wpS_of_wp ?_
  have hta := assert_errno n w
  go_wp2
  simp [bodyPostS, results, Tryz.results69]
/-- The deferred call where nothing was raised. -/
theorem catch_idle59 (p : Addr) (w : World) :
    CallsD Tryz.prog 70 #[.pointer (some p)] .returning w fun e u' w' => e = .returned (.tuple #[]) ∧ u' = .returning ∧ w' = w := by
  refine callsD_of_wpS Tryz.func70 rfl fun c₀ cs hu => ?_
  simp only [Tryz.ntmps70, List.size_toArray, List.length_cons, List.length_nil, Nat.reduceAdd, Nat.reduceSub, Array.replicate_succ, Array.replicate_zero, List.push_toArray, List.append_toArray, List.nil_append, List.cons_append]
  apply wpS_seq
  apply wpS_region
  simp [wpOpsS, go_sem, recoverD, hu, Exit.thenS]
  refine wpS_of_wp ?_
  go_wp2
  simp [bodyPostS, results, Tryz.results70]
  cases c₀; simp_all
set_option maxRecDepth 100000 in
theorem catch_raised59 (p : Addr) (x n : Int) (older : List PanicEntry) (w : World) (hc : w.cell? p = some (.int .i64 x)) (hz : w.frozen? p = false) :
    CallsD Tryz.prog 70 #[.pointer (some p)] (.panicking ({ v := .iface 26 (.int .i64 n), recovered := false } :: older)) w fun e u' w' =>
      e = .returned (.tuple #[]) ∧ u' = .panicking ({ v := .iface 26 (.int .i64 n), recovered := true } :: older) ∧ w' = w.setCell p (.int .i64 n) := by
  refine callsD_of_wpS Tryz.func70 rfl fun c₀ cs hu => ?_
  simp only [Tryz.ntmps70, List.size_toArray, List.length_cons, List.length_nil, Nat.reduceAdd, Nat.reduceSub, Array.replicate_succ, Array.replicate_zero, List.push_toArray, List.append_toArray, List.nil_append, List.cons_append]
  apply wpS_seq
  apply wpS_region
  simp [wpOpsS, go_sem, recoverD, hu, Exit.thenS]
  refine wpS_of_wp ?_
  have hta := assert_errno n w
  go_wp2
  simp [bodyPostS, results, Tryz.results70]
end Go.Proofs.YthfpkjeobdajiabGreatDoor
