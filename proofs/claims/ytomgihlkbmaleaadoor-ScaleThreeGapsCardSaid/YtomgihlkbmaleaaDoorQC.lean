/- The program's scale: sort.Search, octaves, Octave. -/
import Derived.Test.YtomgihlkbmaleaaDoorQB
import Derived.Test.YtomgihlkbmaleaaDoorSL
import Derived.Test.YtomgihlkbmaleaaDoorDR
import Derived.Lib.QuietBelow
import Derived.Shelf.Abstract
namespace Go.Proofs.YtomgihlkbmaleaaDoor
open Go.RowKit M
theorem grown_of_below {w w' : World} (h : Below w.heap.size w w') (hd : w.drawn ≤ w'.drawn) : ∃ q os, w' = Sort.grow (w.drewN q) os := by
  obtain ⟨p, hp⟩ := regrown_of_below h
  have e : w'.drawn = p.d := by rw [hp]; rfl
  refine ⟨p.d - w.drawn, p.os, ?_⟩
  have k : redrawn w p.d = w.drewN (p.d - w.drawn) := by
    unfold redrawn World.drewN
    rw [show w.drawn + (p.d - w.drawn) = p.d by omega]
  rw [hp, k]
theorem below_grown (w : World) (q : Nat) (os : Array Obj) : Below w.heap.size w (Sort.grow (w.drewN q) os) :=
  ⟨rfl, rfl, rfl, by simp [Sort.grow, World.drewN], fun k hk => by simp [Sort.grow, World.drewN, Array.getElem?_append, hk]⟩
/-- A call whose world is known below the old heap's end: its world is the old one, with further draws and blocks. -/
theorem calls_grown {P : Program} {f : FuncId} {args : Array Value} {w : World} {v : Value} (h : Calls P f args w fun e w' => e = .returned v ∧ Below w.heap.size w w') :
    Calls P f args w fun e w' => e = .returned v ∧ ∃ q os, w' = Sort.grow (w.drewN q) os :=
  (Dr.calls_dr h).mono fun e w' ⟨⟨he, hb⟩, hd⟩ => ⟨he, grown_of_below hb (hd.resolve_right fun h => by rw [he] at h; cases h)⟩
theorem below_of_regrown {w w' : World} (h : ∃ p : Regrown, w' = Sort.grow (redrawn w p.d) p.os) : Below w.heap.size w w' := by
  obtain ⟨p, rfl⟩ := h
  exact below_regrown w p.d p.os
set_option maxRecDepth 100000 in
set_option maxHeartbeats 4000000 in
theorem oclos_any (p q : Nat → Int) (l i : Int) (pb lb : Nat) (r : Bool) (hq : ∀ k, k < 6 → q k = p k + oc (-l - i) k) (hr : decide (cm q (oc 1) < 0) = r) (hp0 : -1000000 ≤ p 0) (hp1 : p 0 ≤ 1000000) (hl0 : -1000 ≤ l) (hl1 : l ≤ 1000) (hi0 : 0 ≤ i) (hi1 : i ≤ 1000) (w : World) (hs : Sm w)
    (pc : ∀ k, k < 6 → w.cell? ⟨pb, k, none⟩ = some (.int .i64 (p k))) (lc : w.cell? ⟨lb, 0, none⟩ = some (.int .i64 l)) :
    Calls Tryd.prog 43 #[.int .i64 i, .pointer (some ⟨pb, 0, none⟩), .pointer (some ⟨lb, 0, none⟩)] w fun e w' => e = .returned (.bool r) ∧ Below w.heap.size w w' := by
  have H1 : ∀ d os, Calls Tryd.prog 23 #[PV p, .int .i64 (-l - i)] (Sort.grow (redrawn w d) os) fun e w' => e = .returned (PV q) ∧ ∃ p : Regrown, w' = Sort.grow (redrawn w p.d) p.os :=
    fun d os => Calls.regrown_of (qraised_any p q (-l - i) hq hp0 hp1 (by omega) (by omega) _ (hs.keep (below_regrown w d os)))
  have H2 : ∀ d os, Calls Tryd.prog 24 #[PV q, .agg #[.int .i64 12, .int .i64 0, .int .i64 0, .int .i64 0, .int .i64 0, .int .i64 0]] (Sort.grow (redrawn w d) os) fun e w' => e = .returned (.bool r) ∧ ∃ p : Regrown, w' = Sort.grow (redrawn w p.d) p.os :=
    fun d os => Calls.regrown_of (qlow_any q (oc 1) r hr _ (hs.keep (below_regrown w d os)))
  unfold PV at H1 H2
  have hw1 : IntKind.i64.wrap (-l) = -l := IntWalk.i64_in _ ⟨by omega, by omega⟩
  have hw2 : IntKind.i64.wrap (-l - i) = -l - i := IntWalk.i64_in _ ⟨by omega, by omega⟩
  have k0 := cell_regrown (pc 0 (by omega))
  have k1 := cell_regrown (pc 1 (by omega))
  have k2 := cell_regrown (pc 2 (by omega))
  have k3 := cell_regrown (pc 3 (by omega))
  have k4 := cell_regrown (pc 4 (by omega))
  have k5 := cell_regrown (pc 5 (by omega))
  have kl := cell_regrown lc
  have g0 := cell_regrown hs.o0
  have g1 := cell_regrown hs.o1
  have g2 := cell_regrown hs.o2
  have g3 := cell_regrown hs.o3
  have g4 := cell_regrown hs.o4
  have g5 := cell_regrown hs.o5
  clear hq hr hp0 hp1 hs pc lc
  go_enter Tryd.func43, Tryd.ntmps43
  go_wp2_with fail
  have mixed : Tryd.prog.follows .mixedOrders = true := by kernel_rfl
  refine wp_region_quiet_below mixed (by kernel_rfl) ?_
  repeat (quiet_step (first | exact H1 _ _ | exact H2 _ _))
  refine wpQuiet_nil ?_
  intro wq hbq'
  have hbq := below_of_regrown hbq'
  clear hbq'
  go_wp2_with fail
  go_ret
  exact ⟨rfl, hbq⟩
end Go.Proofs.YtomgihlkbmaleaaDoor
