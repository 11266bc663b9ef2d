/- attempt, over the closures. -/
import Derived.Test.YthfpkjeobdajiabGreatDoorR6
namespace Go.Proofs.YthfpkjeobdajiabGreatDoor
open Go.RowKit M
/-- rational.attempt over Make. -/
theorem attemptMake_any (a1 a2 : Addr) (x y c : Int) (w : World) (h : ∀ w', Below w.heap.size w w' → Calls Tryz.prog 35 #[.pointer (some a1), .pointer (some a2)] w' (Gives (RV 0 0) w' (RV x y) c)) :
    Calls Tryz.prog 34 #[.func (Fn.func 35) #[] #[.pointer (some a1), .pointer (some a2)]] w fun e w' => e = .returned (.tuple #[RV x y, .int .i64 c]) ∧ Below w.heap.size w w' := by
  have hmf : ∀ (fn : Fn) (first cap : Array Value) (w : World), (Instr.makeFunc fn first cap).run Tryz.prog w = .ok (.func fn first cap) w := fun _ _ _ _ => rfl
  have H := Bx.mk h
  clear h
  go_enter_defers Tryz.func34, Tryz.ntmps34
  go_wp2_with fail
  refine (H.out _ (by repeat (first | exact Below.refl _ _ | apply below_drewN | refine Below.setCell ?_ (by simp <;> omega) _ | refine Below.alloc ?_ (by simp <;> omega) _))).mono ?_
  rintro e w2 ⟨hcase, hb⟩
  have hB := Bx.mk ((show Below w.heap.size w ((w.alloc (.cells #[.int .i64 0, .int .i64 0] 23)).alloc (.cells #[.int .i64 0] 26)) from by repeat (first | exact Below.refl _ _ | apply below_drewN | refine Below.setCell ?_ (by simp <;> omega) _ | refine Below.alloc ?_ (by simp <;> omega) _)).trans (hb.mono (by simp <;> omega)))
  have hc0 : w2.cell? ⟨w.heap.size + 1, 0, none⟩ = some (.int .i64 0) := kc hb (by simp [go_sem]) (by simp <;> omega)
  have hz0 : w2.frozen? ⟨w.heap.size + 1, 0, none⟩ = false := kf hb (by simp [go_sem]) (by simp <;> omega)
  have hr0 : w2.cell? ⟨w.heap.size, 0, none⟩ = some (.int .i64 0) := kc hb (by simp [go_sem]) (by simp <;> omega)
  have hr1 : w2.cell? ⟨w.heap.size, 1, none⟩ = some (.int .i64 0) := kc hb (by simp [go_sem]) (by simp <;> omega)
  have hq0 : w2.frozen? ⟨w.heap.size, 0, none⟩ = false := kf hb (by simp [go_sem]) (by simp <;> omega)
  have hq1 : w2.frozen? ⟨w.heap.size, 1, none⟩ = false := kf hb (by simp [go_sem]) (by simp <;> omega)
  have hsz : w.heap.size + 1 < w2.heap.size := by have := hb.size; simp at this; omega
  clear hb H
  rcases hcase with ⟨rfl, rfl⟩ | ⟨hc, hv, rfl⟩
  · have hself := setCell_self w2 (w.heap.size + 1) _ hc0
    go_wp2
    refine leaves_cons (f := 61) (args := #[.pointer (some ⟨w.heap.size + 1, 0, none⟩)]) (by simp) (by simp [go_sem]) ?_
    refine (catch_idle52 ⟨w.heap.size + 1, 0, none⟩ _).mono ?_
    rintro e u' w'' ⟨rfl, rfl, rfl⟩
    have hs0 := hself
    refine ⟨_, by simp [results, Tryz.results34, go_sem, hc0, hr0, hr1, hself]; rfl, ?_⟩
    exact ⟨rfl, by repeat (first | exact hB.out | refine Below.setCell ?_ (by simp <;> omega) _)⟩
  · refine leaves_cons (f := 61) (args := #[.pointer (some ⟨w.heap.size + 1, 0, none⟩)]) (by simp) (by simp [go_sem]) ?_
    refine (catch_raised52 ⟨w.heap.size + 1, 0, none⟩ 0 c [] _ hc0 hz0).mono ?_
    rintro e u' w'' ⟨rfl, rfl, rfl⟩
    have hcs : (w2.setCell ⟨w.heap.size + 1, 0, none⟩ (.int .i64 c)).cell? ⟨w.heap.size + 1, 0, none⟩ = some (.int .i64 c) := World.cell?_setCell_same' _ _ _ (by rw [hc0]; rfl)
    refine ⟨_, by simp [results, Tryz.results34, go_sem, hcs, hr0, hr1, hc0]; rfl, ?_⟩
    exact ⟨by rw [hv]; try rfl, hB.out.setCell (by show _ ≤ w.heap.size + 1; omega) _⟩
/-- rational.attempt over Cmp. -/
theorem attemptCmp_any (a1 a2 : Addr) (x c : Int) (w : World) (h : ∀ w', Below w.heap.size w w' → Calls Tryz.prog 53 #[.pointer (some a1), .pointer (some a2)] w' (Gives (.int .i64 0) w' (.int .i64 x) c)) :
    Calls Tryz.prog 52 #[.func (Fn.func 53) #[] #[.pointer (some a1), .pointer (some a2)]] w fun e w' => e = .returned (.tuple #[.int .i64 x, .int .i64 c]) ∧ Below w.heap.size w w' := by
  have hmf : ∀ (fn : Fn) (first cap : Array Value) (w : World), (Instr.makeFunc fn first cap).run Tryz.prog w = .ok (.func fn first cap) w := fun _ _ _ _ => rfl
  have H := Bx.mk h
  clear h
  go_enter_defers Tryz.func52, Tryz.ntmps52
  go_wp2_with fail
  refine (H.out _ (by repeat (first | exact Below.refl _ _ | apply below_drewN | refine Below.setCell ?_ (by simp <;> omega) _ | refine Below.alloc ?_ (by simp <;> omega) _))).mono ?_
  rintro e w2 ⟨hcase, hb⟩
  have hB := Bx.mk ((show Below w.heap.size w (w.alloc (.cells #[.int .i64 0] 26)) from by repeat (first | exact Below.refl _ _ | apply below_drewN | refine Below.setCell ?_ (by simp <;> omega) _ | refine Below.alloc ?_ (by simp <;> omega) _)).trans (hb.mono (by simp <;> omega)))
  have hc0 : w2.cell? ⟨w.heap.size, 0, none⟩ = some (.int .i64 0) := kc hb (by simp [go_sem]) (by simp <;> omega)
  have hz0 : w2.frozen? ⟨w.heap.size, 0, none⟩ = false := kf hb (by simp [go_sem]) (by simp <;> omega)
  have hsz : w.heap.size < w2.heap.size := by have := hb.size; simp at this; omega
  clear hb H
  rcases hcase with ⟨rfl, rfl⟩ | ⟨hc, hv, rfl⟩
  · have hself := setCell_self w2 (w.heap.size) _ hc0
    go_wp2
    refine leaves_cons (f := 69) (args := #[.pointer (some ⟨w.heap.size, 0, none⟩)]) (by simp) (by simp [go_sem]) ?_
    refine (catch_idle54 ⟨w.heap.size, 0, none⟩ _).mono ?_
    rintro e u' w'' ⟨rfl, rfl, rfl⟩
    simp only [hself]
    refine ⟨_, by simp [results, Tryz.results52, go_sem, hc0]; rfl, ?_⟩
    exact ⟨rfl, hB.out⟩
  · refine leaves_cons (f := 69) (args := #[.pointer (some ⟨w.heap.size, 0, none⟩)]) (by simp) (by simp [go_sem]) ?_
    refine (catch_raised54 ⟨w.heap.size, 0, none⟩ 0 c [] _ hc0 hz0).mono ?_
    rintro e u' w'' ⟨rfl, rfl, rfl⟩
    have hcs : (w2.setCell ⟨w.heap.size, 0, none⟩ (.int .i64 c)).cell? ⟨w.heap.size, 0, none⟩ = some (.int .i64 c) := World.cell?_setCell_same' _ _ _ (by rw [hc0]; rfl)
    refine ⟨_, by simp [results, Tryz.results52, go_sem, hcs]; rfl, ?_⟩
    exact ⟨by rw [hv]; try rfl, hB.out.setCell (by show _ ≤ w.heap.size; omega) _⟩
/-- rational.attempt over Text. -/
theorem attemptText_any (a1 : Addr) (s : ByteArray) (c : Int) (w : World) (h : ∀ w', Below w.heap.size w w' → Calls Tryz.prog 58 #[.pointer (some a1)] w' (Gives (.string ByteArray.empty) w' (.string s) c)) :
    Calls Tryz.prog 57 #[.func (Fn.func 58) #[] #[.pointer (some a1)]] w fun e w' => e = .returned (.tuple #[.string s, .int .i64 c]) ∧ Below w.heap.size w w' := by
  have hmf : ∀ (fn : Fn) (first cap : Array Value) (w : World), (Instr.makeFunc fn first cap).run Tryz.prog w = .ok (.func fn first cap) w := fun _ _ _ _ => rfl
  have H := Bx.mk h
  clear h
  go_enter_defers Tryz.func57, Tryz.ntmps57
  go_wp2_with fail
  refine (H.out _ (by repeat (first | exact Below.refl _ _ | apply below_drewN | refine Below.setCell ?_ (by simp <;> omega) _ | refine Below.alloc ?_ (by simp <;> omega) _))).mono ?_
  rintro e w2 ⟨hcase, hb⟩
  have hB := Bx.mk ((show Below w.heap.size w (w.alloc (.cells #[.int .i64 0] 26)) from by repeat (first | exact Below.refl _ _ | apply below_drewN | refine Below.setCell ?_ (by simp <;> omega) _ | refine Below.alloc ?_ (by simp <;> omega) _)).trans (hb.mono (by simp <;> omega)))
  have hc0 : w2.cell? ⟨w.heap.size, 0, none⟩ = some (.int .i64 0) := kc hb (by simp [go_sem]) (by simp <;> omega)
  have hz0 : w2.frozen? ⟨w.heap.size, 0, none⟩ = false := kf hb (by simp [go_sem]) (by simp <;> omega)
  have hsz : w.heap.size < w2.heap.size := by have := hb.size; simp at this; omega
  clear hb H
  rcases hcase with ⟨rfl, rfl⟩ | ⟨hc, hv, rfl⟩
  · have hself := setCell_self w2 (w.heap.size) _ hc0
    go_wp2
    refine leaves_cons (f := 70) (args := #[.pointer (some ⟨w.heap.size, 0, none⟩)]) (by simp) (by simp [go_sem]) ?_
    refine (catch_idle59 ⟨w.heap.size, 0, none⟩ _).mono ?_
    rintro e u' w'' ⟨rfl, rfl, rfl⟩
    simp only [hself]
    refine ⟨_, by simp [results, Tryz.results57, go_sem, hc0]; rfl, ?_⟩
    exact ⟨rfl, hB.out⟩
  · refine leaves_cons (f := 70) (args := #[.pointer (some ⟨w.heap.size, 0, none⟩)]) (by simp) (by simp [go_sem]) ?_
    refine (catch_raised59 ⟨w.heap.size, 0, none⟩ 0 c [] _ hc0 hz0).mono ?_
    rintro e u' w'' ⟨rfl, rfl, rfl⟩
    have hcs : (w2.setCell ⟨w.heap.size, 0, none⟩ (.int .i64 c)).cell? ⟨w.heap.size, 0, none⟩ = some (.int .i64 c) := World.cell?_setCell_same' _ _ _ (by rw [hc0]; rfl)
    refine ⟨_, by simp [results, Tryz.results57, go_sem, hcs]; rfl, ?_⟩
    exact ⟨by rw [hv]; try rfl, hB.out.setCell (by show _ ≤ w.heap.size; omega) _⟩
/-- rational.attempt over Operate. -/
theorem attemptOperate_any (a1 a2 a3 : Addr) (x y c : Int) (w : World) (h : ∀ w', Below w.heap.size w w' → Calls Tryz.prog 62 #[.pointer (some a1), .pointer (some a2), .pointer (some a3)] w' (Gives (RV 0 0) w' (RV x y) c)) :
    Calls Tryz.prog 34 #[.func (Fn.func 62) #[] #[.pointer (some a1), .pointer (some a2), .pointer (some a3)]] w fun e w' => e = .returned (.tuple #[RV x y, .int .i64 c]) ∧ Below w.heap.size w w' := by
  have hmf : ∀ (fn : Fn) (first cap : Array Value) (w : World), (Instr.makeFunc fn first cap).run Tryz.prog w = .ok (.func fn first cap) w := fun _ _ _ _ => rfl
  have H := Bx.mk h
  clear h
  go_enter_defers Tryz.func34, Tryz.ntmps34
  go_wp2_with fail
  refine (H.out _ (by repeat (first | exact Below.refl _ _ | apply below_drewN | refine Below.setCell ?_ (by simp <;> omega) _ | refine Below.alloc ?_ (by simp <;> omega) _))).mono ?_
  rintro e w2 ⟨hcase, hb⟩
  have hB := Bx.mk ((show Below w.heap.size w ((w.alloc (.cells #[.int .i64 0, .int .i64 0] 23)).alloc (.cells #[.int .i64 0] 26)) from by repeat (first | exact Below.refl _ _ | apply below_drewN | refine Below.setCell ?_ (by simp <;> omega) _ | refine Below.alloc ?_ (by simp <;> omega) _)).trans (hb.mono (by simp <;> omega)))
  have hc0 : w2.cell? ⟨w.heap.size + 1, 0, none⟩ = some (.int .i64 0) := kc hb (by simp [go_sem]) (by simp <;> omega)
  have hz0 : w2.frozen? ⟨w.heap.size + 1, 0, none⟩ = false := kf hb (by simp [go_sem]) (by simp <;> omega)
  have hr0 : w2.cell? ⟨w.heap.size, 0, none⟩ = some (.int .i64 0) := kc hb (by simp [go_sem]) (by simp <;> omega)
  have hr1 : w2.cell? ⟨w.heap.size, 1, none⟩ = some (.int .i64 0) := kc hb (by simp [go_sem]) (by simp <;> omega)
  have hq0 : w2.frozen? ⟨w.heap.size, 0, none⟩ = false := kf hb (by simp [go_sem]) (by simp <;> omega)
  have hq1 : w2.frozen? ⟨w.heap.size, 1, none⟩ = false := kf hb (by simp [go_sem]) (by simp <;> omega)
  have hsz : w.heap.size + 1 < w2.heap.size := by have := hb.size; simp at this; omega
  clear hb H
  rcases hcase with ⟨rfl, rfl⟩ | ⟨hc, hv, rfl⟩
  · have hself := setCell_self w2 (w.heap.size + 1) _ hc0
    go_wp2
    refine leaves_cons (f := 61) (args := #[.pointer (some ⟨w.heap.size + 1, 0, none⟩)]) (by simp) (by simp [go_sem]) ?_
    refine (catch_idle52 ⟨w.heap.size + 1, 0, none⟩ _).mono ?_
    rintro e u' w'' ⟨rfl, rfl, rfl⟩
    have hs0 := hself
    refine ⟨_, by simp [results, Tryz.results34, go_sem, hc0, hr0, hr1, hself]; rfl, ?_⟩
    exact ⟨rfl, by repeat (first | exact hB.out | refine Below.setCell ?_ (by simp <;> omega) _)⟩
  · refine leaves_cons (f := 61) (args := #[.pointer (some ⟨w.heap.size + 1, 0, none⟩)]) (by simp) (by simp [go_sem]) ?_
    refine (catch_raised52 ⟨w.heap.size + 1, 0, none⟩ 0 c [] _ hc0 hz0).mono ?_
    rintro e u' w'' ⟨rfl, rfl, rfl⟩
    have hcs : (w2.setCell ⟨w.heap.size + 1, 0, none⟩ (.int .i64 c)).cell? ⟨w.heap.size + 1, 0, none⟩ = some (.int .i64 c) := World.cell?_setCell_same' _ _ _ (by rw [hc0]; rfl)
    refine ⟨_, by simp [results, Tryz.results34, go_sem, hcs, hr0, hr1, hc0]; rfl, ?_⟩
    exact ⟨by rw [hv]; try rfl, hB.out.setCell (by show _ ≤ w.heap.size + 1; omega) _⟩
/-- rational.attempt over Near. -/
theorem attemptNear_any (a1 a2 : Addr) (x y c : Int) (w : World) (h : ∀ w', Below w.heap.size w w' → Calls Tryz.prog 42 #[.pointer (some a1), .pointer (some a2)] w' (Gives (RV 0 0) w' (RV x y) c)) :
    Calls Tryz.prog 34 #[.func (Fn.func 42) #[] #[.pointer (some a1), .pointer (some a2)]] w fun e w' => e = .returned (.tuple #[RV x y, .int .i64 c]) ∧ Below w.heap.size w w' := by
  have hmf : ∀ (fn : Fn) (first cap : Array Value) (w : World), (Instr.makeFunc fn first cap).run Tryz.prog w = .ok (.func fn first cap) w := fun _ _ _ _ => rfl
  have H := Bx.mk h
  clear h
  go_enter_defers Tryz.func34, Tryz.ntmps34
  go_wp2_with fail
  refine (H.out _ (by repeat (first | exact Below.refl _ _ | apply below_drewN | refine Below.setCell ?_ (by simp <;> omega) _ | refine Below.alloc ?_ (by simp <;> omega) _))).mono ?_
  rintro e w2 ⟨hcase, hb⟩
  have hB := Bx.mk ((show Below w.heap.size w ((w.alloc (.cells #[.int .i64 0, .int .i64 0] 23)).alloc (.cells #[.int .i64 0] 26)) from by repeat (first | exact Below.refl _ _ | apply below_drewN | refine Below.setCell ?_ (by simp <;> omega) _ | refine Below.alloc ?_ (by simp <;> omega) _)).trans (hb.mono (by simp <;> omega)))
  have hc0 : w2.cell? ⟨w.heap.size + 1, 0, none⟩ = some (.int .i64 0) := kc hb (by simp [go_sem]) (by simp <;> omega)
  have hz0 : w2.frozen? ⟨w.heap.size + 1, 0, none⟩ = false := kf hb (by simp [go_sem]) (by simp <;> omega)
  have hr0 : w2.cell? ⟨w.heap.size, 0, none⟩ = some (.int .i64 0) := kc hb (by simp [go_sem]) (by simp <;> omega)
  have hr1 : w2.cell? ⟨w.heap.size, 1, none⟩ = some (.int .i64 0) := kc hb (by simp [go_sem]) (by simp <;> omega)
  have hq0 : w2.frozen? ⟨w.heap.size, 0, none⟩ = false := kf hb (by simp [go_sem]) (by simp <;> omega)
  have hq1 : w2.frozen? ⟨w.heap.size, 1, none⟩ = false := kf hb (by simp [go_sem]) (by simp <;> omega)
  have hsz : w.heap.size + 1 < w2.heap.size := by have := hb.size; simp at this; omega
  clear hb H
  rcases hcase with ⟨rfl, rfl⟩ | ⟨hc, hv, rfl⟩
  · have hself := setCell_self w2 (w.heap.size + 1) _ hc0
    go_wp2
    refine leaves_cons (f := 61) (args := #[.pointer (some ⟨w.heap.size + 1, 0, none⟩)]) (by simp) (by simp [go_sem]) ?_
    refine (catch_idle52 ⟨w.heap.size + 1, 0, none⟩ _).mono ?_
    rintro e u' w'' ⟨rfl, rfl, rfl⟩
    have hs0 := hself
    refine ⟨_, by simp [results, Tryz.results34, go_sem, hc0, hr0, hr1, hself]; rfl, ?_⟩
    exact ⟨rfl, by repeat (first | exact hB.out | refine Below.setCell ?_ (by simp <;> omega) _)⟩
  · refine leaves_cons (f := 61) (args := #[.pointer (some ⟨w.heap.size + 1, 0, none⟩)]) (by simp) (by simp [go_sem]) ?_
    refine (catch_raised52 ⟨w.heap.size + 1, 0, none⟩ 0 c [] _ hc0 hz0).mono ?_
    rintro e u' w'' ⟨rfl, rfl, rfl⟩
    have hcs : (w2.setCell ⟨w.heap.size + 1, 0, none⟩ (.int .i64 c)).cell? ⟨w.heap.size + 1, 0, none⟩ = some (.int .i64 c) := World.cell?_setCell_same' _ _ _ (by rw [hc0]; rfl)
    refine ⟨_, by simp [results, Tryz.results34, go_sem, hcs, hr0, hr1, hc0]; rfl, ?_⟩
    exact ⟨by rw [hv]; try rfl, hB.out.setCell (by show _ ≤ w.heap.size + 1; omega) _⟩
/-- rational.attempt over Simple. -/
theorem attemptSimple_any (a1 a2 : Addr) (x y c : Int) (w : World) (h : ∀ w', Below w.heap.size w w' → Calls Tryz.prog 45 #[.pointer (some a1), .pointer (some a2)] w' (Gives (RV 0 0) w' (RV x y) c)) :
    Calls Tryz.prog 34 #[.func (Fn.func 45) #[] #[.pointer (some a1), .pointer (some a2)]] w fun e w' => e = .returned (.tuple #[RV x y, .int .i64 c]) ∧ Below w.heap.size w w' := by
  have hmf : ∀ (fn : Fn) (first cap : Array Value) (w : World), (Instr.makeFunc fn first cap).run Tryz.prog w = .ok (.func fn first cap) w := fun _ _ _ _ => rfl
  have H := Bx.mk h
  clear h
  go_enter_defers Tryz.func34, Tryz.ntmps34
  go_wp2_with fail
  refine (H.out _ (by repeat (first | exact Below.refl _ _ | apply below_drewN | refine Below.setCell ?_ (by simp <;> omega) _ | refine Below.alloc ?_ (by simp <;> omega) _))).mono ?_
  rintro e w2 ⟨hcase, hb⟩
  have hB := Bx.mk ((show Below w.heap.size w ((w.alloc (.cells #[.int .i64 0, .int .i64 0] 23)).alloc (.cells #[.int .i64 0] 26)) from by repeat (first | exact Below.refl _ _ | apply below_drewN | refine Below.setCell ?_ (by simp <;> omega) _ | refine Below.alloc ?_ (by simp <;> omega) _)).trans (hb.mono (by simp <;> omega)))
  have hc0 : w2.cell? ⟨w.heap.size + 1, 0, none⟩ = some (.int .i64 0) := kc hb (by simp [go_sem]) (by simp <;> omega)
  have hz0 : w2.frozen? ⟨w.heap.size + 1, 0, none⟩ = false := kf hb (by simp [go_sem]) (by simp <;> omega)
  have hr0 : w2.cell? ⟨w.heap.size, 0, none⟩ = some (.int .i64 0) := kc hb (by simp [go_sem]) (by simp <;> omega)
  have hr1 : w2.cell? ⟨w.heap.size, 1, none⟩ = some (.int .i64 0) := kc hb (by simp [go_sem]) (by simp <;> omega)
  have hq0 : w2.frozen? ⟨w.heap.size, 0, none⟩ = false := kf hb (by simp [go_sem]) (by simp <;> omega)
  have hq1 : w2.frozen? ⟨w.heap.size, 1, none⟩ = false := kf hb (by simp [go_sem]) (by simp <;> omega)
  have hsz : w.heap.size + 1 < w2.heap.size := by have := hb.size; simp at this; omega
  clear hb H
  rcases hcase with ⟨rfl, rfl⟩ | ⟨hc, hv, rfl⟩
  · have hself := setCell_self w2 (w.heap.size + 1) _ hc0
    go_wp2
    refine leaves_cons (f := 61) (args := #[.pointer (some ⟨w.heap.size + 1, 0, none⟩)]) (by simp) (by simp [go_sem]) ?_
    refine (catch_idle52 ⟨w.heap.size + 1, 0, none⟩ _).mono ?_
    rintro e u' w'' ⟨rfl, rfl, rfl⟩
    have hs0 := hself
    refine ⟨_, by simp [results, Tryz.results34, go_sem, hc0, hr0, hr1, hself]; rfl, ?_⟩
    exact ⟨rfl, by repeat (first | exact hB.out | refine Below.setCell ?_ (by simp <;> omega) _)⟩
  · refine leaves_cons (f := 61) (args := #[.pointer (some ⟨w.heap.size + 1, 0, none⟩)]) (by simp) (by simp [go_sem]) ?_
    refine (catch_raised52 ⟨w.heap.size + 1, 0, none⟩ 0 c [] _ hc0 hz0).mono ?_
    rintro e u' w'' ⟨rfl, rfl, rfl⟩
    have hcs : (w2.setCell ⟨w.heap.size + 1, 0, none⟩ (.int .i64 c)).cell? ⟨w.heap.size + 1, 0, none⟩ = some (.int .i64 c) := World.cell?_setCell_same' _ _ _ (by rw [hc0]; rfl)
    refine ⟨_, by simp [results, Tryz.results34, go_sem, hcs, hr0, hr1, hc0]; rfl, ?_⟩
    exact ⟨by rw [hv]; try rfl, hB.out.setCell (by show _ ≤ w.heap.size + 1; omega) _⟩
/-- rational.attempt over Parse. -/
theorem attemptParse_any (a1 : Addr) (x y c : Int) (w : World) (h : ∀ w', Below w.heap.size w w' → Calls Tryz.prog 49 #[.pointer (some a1)] w' (Gives (RV 0 0) w' (RV x y) c)) :
    Calls Tryz.prog 34 #[.func (Fn.func 49) #[] #[.pointer (some a1)]] w fun e w' => e = .returned (.tuple #[RV x y, .int .i64 c]) ∧ Below w.heap.size w w' := by
  have hmf : ∀ (fn : Fn) (first cap : Array Value) (w : World), (Instr.makeFunc fn first cap).run Tryz.prog w = .ok (.func fn first cap) w := fun _ _ _ _ => rfl
  have H := Bx.mk h
  clear h
  go_enter_defers Tryz.func34, Tryz.ntmps34
  go_wp2_with fail
  refine (H.out _ (by repeat (first | exact Below.refl _ _ | apply below_drewN | refine Below.setCell ?_ (by simp <;> omega) _ | refine Below.alloc ?_ (by simp <;> omega) _))).mono ?_
  rintro e w2 ⟨hcase, hb⟩
  have hB := Bx.mk ((show Below w.heap.size w ((w.alloc (.cells #[.int .i64 0, .int .i64 0] 23)).alloc (.cells #[.int .i64 0] 26)) from by repeat (first | exact Below.refl _ _ | apply below_drewN | refine Below.setCell ?_ (by simp <;> omega) _ | refine Below.alloc ?_ (by simp <;> omega) _)).trans (hb.mono (by simp <;> omega)))
  have hc0 : w2.cell? ⟨w.heap.size + 1, 0, none⟩ = some (.int .i64 0) := kc hb (by simp [go_sem]) (by simp <;> omega)
  have hz0 : w2.frozen? ⟨w.heap.size + 1, 0, none⟩ = false := kf hb (by simp [go_sem]) (by simp <;> omega)
  have hr0 : w2.cell? ⟨w.heap.size, 0, none⟩ = some (.int .i64 0) := kc hb (by simp [go_sem]) (by simp <;> omega)
  have hr1 : w2.cell? ⟨w.heap.size, 1, none⟩ = some (.int .i64 0) := kc hb (by simp [go_sem]) (by simp <;> omega)
  have hq0 : w2.frozen? ⟨w.heap.size, 0, none⟩ = false := kf hb (by simp [go_sem]) (by simp <;> omega)
  have hq1 : w2.frozen? ⟨w.heap.size, 1, none⟩ = false := kf hb (by simp [go_sem]) (by simp <;> omega)
  have hsz : w.heap.size + 1 < w2.heap.size := by have := hb.size; simp at this; omega
  clear hb H
  rcases hcase with ⟨rfl, rfl⟩ | ⟨hc, hv, rfl⟩
  · have hself := setCell_self w2 (w.heap.size + 1) _ hc0
    go_wp2
    refine leaves_cons (f := 61) (args := #[.pointer (some ⟨w.heap.size + 1, 0, none⟩)]) (by simp) (by simp [go_sem]) ?_
    refine (catch_idle52 ⟨w.heap.size + 1, 0, none⟩ _).mono ?_
    rintro e u' w'' ⟨rfl, rfl, rfl⟩
    have hs0 := hself
    refine ⟨_, by simp [results, Tryz.results34, go_sem, hc0, hr0, hr1, hself]; rfl, ?_⟩
    exact ⟨rfl, by repeat (first | exact hB.out | refine Below.setCell ?_ (by simp <;> omega) _)⟩
  · refine leaves_cons (f := 61) (args := #[.pointer (some ⟨w.heap.size + 1, 0, none⟩)]) (by simp) (by simp [go_sem]) ?_
    refine (catch_raised52 ⟨w.heap.size + 1, 0, none⟩ 0 c [] _ hc0 hz0).mono ?_
    rintro e u' w'' ⟨rfl, rfl, rfl⟩
    have hcs : (w2.setCell ⟨w.heap.size + 1, 0, none⟩ (.int .i64 c)).cell? ⟨w.heap.size + 1, 0, none⟩ = some (.int .i64 c) := World.cell?_setCell_same' _ _ _ (by rw [hc0]; rfl)
    refine ⟨_, by simp [results, Tryz.results34, go_sem, hcs, hr0, hr1, hc0]; rfl, ?_⟩
    exact ⟨by rw [hv]; try rfl, hB.out.setCell (by show _ ≤ w.heap.size + 1; omega) _⟩
/-- rational.attempt over Floor. -/
theorem attemptFloor_any (a1 : Addr) (x c : Int) (w : World) (h : ∀ w', Below w.heap.size w w' → Calls Tryz.prog 55 #[.pointer (some a1)] w' (Gives (.int .i64 0) w' (.int .i64 x) c)) :
    Calls Tryz.prog 52 #[.func (Fn.func 55) #[] #[.pointer (some a1)]] w fun e w' => e = .returned (.tuple #[.int .i64 x, .int .i64 c]) ∧ Below w.heap.size w w' := by
  have hmf : ∀ (fn : Fn) (first cap : Array Value) (w : World), (Instr.makeFunc fn first cap).run Tryz.prog w = .ok (.func fn first cap) w := fun _ _ _ _ => rfl
  have H := Bx.mk h
  clear h
  go_enter_defers Tryz.func52, Tryz.ntmps52
  go_wp2_with fail
  refine (H.out _ (by repeat (first | exact Below.refl _ _ | apply below_drewN | refine Below.setCell ?_ (by simp <;> omega) _ | refine Below.alloc ?_ (by simp <;> omega) _))).mono ?_
  rintro e w2 ⟨hcase, hb⟩
  have hB := Bx.mk ((show Below w.heap.size w (w.alloc (.cells #[.int .i64 0] 26)) from by repeat (first | exact Below.refl _ _ | apply below_drewN | refine Below.setCell ?_ (by simp <;> omega) _ | refine Below.alloc ?_ (by simp <;> omega) _)).trans (hb.mono (by simp <;> omega)))
  have hc0 : w2.cell? ⟨w.heap.size, 0, none⟩ = some (.int .i64 0) := kc hb (by simp [go_sem]) (by simp <;> omega)
  have hz0 : w2.frozen? ⟨w.heap.size, 0, none⟩ = false := kf hb (by simp [go_sem]) (by simp <;> omega)
  have hsz : w.heap.size < w2.heap.size := by have := hb.size; simp at this; omega
  clear hb H
  rcases hcase with ⟨rfl, rfl⟩ | ⟨hc, hv, rfl⟩
  · have hself := setCell_self w2 (w.heap.size) _ hc0
    go_wp2
    refine leaves_cons (f := 69) (args := #[.pointer (some ⟨w.heap.size, 0, none⟩)]) (by simp) (by simp [go_sem]) ?_
    refine (catch_idle54 ⟨w.heap.size, 0, none⟩ _).mono ?_
    rintro e u' w'' ⟨rfl, rfl, rfl⟩
    simp only [hself]
    refine ⟨_, by simp [results, Tryz.results52, go_sem, hc0]; rfl, ?_⟩
    exact ⟨rfl, hB.out⟩
  · refine leaves_cons (f := 69) (args := #[.pointer (some ⟨w.heap.size, 0, none⟩)]) (by simp) (by simp [go_sem]) ?_
    refine (catch_raised54 ⟨w.heap.size, 0, none⟩ 0 c [] _ hc0 hz0).mono ?_
    rintro e u' w'' ⟨rfl, rfl, rfl⟩
    have hcs : (w2.setCell ⟨w.heap.size, 0, none⟩ (.int .i64 c)).cell? ⟨w.heap.size, 0, none⟩ = some (.int .i64 c) := World.cell?_setCell_same' _ _ _ (by rw [hc0]; rfl)
    refine ⟨_, by simp [results, Tryz.results52, go_sem, hcs]; rfl, ?_⟩
    exact ⟨by rw [hv]; try rfl, hB.out.setCell (by show _ ≤ w.heap.size; omega) _⟩
end Go.Proofs.YthfpkjeobdajiabGreatDoor
