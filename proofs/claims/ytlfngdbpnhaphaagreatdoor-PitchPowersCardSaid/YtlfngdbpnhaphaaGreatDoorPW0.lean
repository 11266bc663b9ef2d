/- Power, by what it returns; arrays that are overwritten. -/
import Derived.Test.YtlfngdbpnhaphaaGreatDoorHD
namespace Go.Proofs.YtlfngdbpnhaphaaGreatDoor
open Go.RowKit M
/-- What Power returns. -/
structure PowR (v : Nat → Int) (n d : Int) (r : Nat → Int) (c : Int) : Prop where
  call : ∀ w, Calls Tryz.prog 23 #[PV v, .int .i64 n, .int .i64 d] w (OutV w r c)
  val : c = 0 → bdB v 576 = true ∧ -576 ≤ n ∧ n ≤ 576 ∧ 1 ≤ d ∧ d ≤ 12 ∧ (∀ i, i < 6 → n * v i = d * r i) ∧ bdB r 576 = true
theorem powR_ex (v : Nat → Int) (n d : Int) : ∃ r c, PowR v n d r c := by
  cases hv : bdB v 576 with
  | false => exact ⟨_, _, fun w => power_v v n d w hv, by omega⟩
  | true =>
    by_cases n0 : n < -576
    · exact ⟨_, _, fun w => power_n0 v n d w hv n0, by omega⟩
    · by_cases n1 : 576 < n
      · exact ⟨_, _, fun w => power_n1 v n d w hv (by omega) n1, by omega⟩
      · by_cases d0 : d < 1
        · exact ⟨_, _, fun w => power_d0 v n d w hv (by omega) (by omega) d0, by omega⟩
        · by_cases d1 : 12 < d
          · exact ⟨_, _, fun w => power_d1 v n d w hv (by omega) (by omega) (by omega) d1, by omega⟩
          · by_cases hd : ∀ i, i < 6 → d ∣ n * v i
            · have hu : ∀ i, i < 6 → n * v i = d * (n * v i / d) := fun i hi => (Int.mul_ediv_cancel' (hd i hi)).symm
              refine ⟨_, _, fun w => power_ok v (fun i => n * v i / d) _ n d _ w hv (by omega) (by omega) (by omega) (by omega) hu rfl rfl, fun hc => ?_⟩
              have hb := chkE_zero hc
              have e := (chk_ok hb).1
              rw [e]
              exact ⟨hv, by omega, by omega, by omega, by omega, hu, hb⟩
            · have hn : ∃ i, i < 6 ∧ ¬ (d ∣ n * v i) := by
                refine Decidable.byContradiction fun k => hd fun i hi => ?_
                exact Decidable.byContradiction fun k2 => k ⟨i, hi, k2⟩
              exact ⟨_, _, fun w => power_kind v n d w hv (by omega) (by omega) (by omega) (by omega) hn, by omega⟩
/-- A power that is a pitch. -/
theorem pow_is {v u : Nat → Int} {n d : Int} (hv : bdB v 576 = true) (hu : bdB u 576 = true) (n0 : -576 ≤ n) (n1 : n ≤ 576) (d0 : 1 ≤ d) (d1 : d ≤ 12) (h : ∀ i, i < 6 → n * v i = d * u i) (w : World) :
    Calls Tryz.prog 23 #[PV v, .int .i64 n, .int .i64 d] w (OutV w u 0) :=
  power_ok v u u n d 0 w hv n0 n1 d0 d1 h (chk_ok hu).1 (chk_ok hu).2
theorem LS.drop {w0 w : World} {L : List (Value × Nat)} {R : List (Nat × TypeId × Array Value)} {t : Nat × TypeId × Array Value} (h : LS w0 w L (t :: R)) : LS w0 w L R := ⟨h.bl, h.gv, h.nm, fun u hu => h.rows u (List.mem_cons_of_mem _ hu)⟩
theorem LS.set1 {w0 w : World} {R : List (Nat × TypeId × Array Value)} {b : Nat} {t : TypeId} {cs : Array Value} (h : LS w0 w [] ((b, t, cs) :: R)) (hb : w0.heap.size ≤ b) (h8 : 8 ≤ w0.heap.size) (hne : ∀ u ∈ R, u.1 ≠ b) (i : Nat) (x : Value) (cs' : Array Value) (hcs : cs.setIfInBounds i x = cs') :
    LS w0 (w.setCell ⟨b, i, none⟩ x) [] ((b, t, cs') :: R) :=
  ⟨h.bl.setCell (p := ⟨b, i, none⟩) hb x, h.gv.grow (b := b) (by omega) (grownBy_setCellI w b i x), (fun p hp => by cases hp), fun u hu => by
    rcases List.mem_cons.1 hu with rfl | hu
    · rw [← hcs]; exact (h.rows _ List.mem_cons_self).setAt i x
    · exact (h.rows u (List.mem_cons_of_mem _ hu)).kept (grownBy_setCellI w b i x) (by simp; exact hne u hu)⟩
/-- The cells of a row can be stored into. -/
theorem LS.frz {w0 w : World} {L : List (Value × Nat)} {R : List (Nat × TypeId × Array Value)} (h : LS w0 w L R) (b : Nat) (t : TypeId) (cs : Array Value) (hm : (b, t, cs) ∈ R) :
    w.frozen? ⟨b, 0, none⟩ = false ∧ w.frozen? ⟨b, 1, none⟩ = false ∧ w.frozen? ⟨b, 2, none⟩ = false ∧ w.frozen? ⟨b, 3, none⟩ = false ∧ w.frozen? ⟨b, 4, none⟩ = false ∧ w.frozen? ⟨b, 5, none⟩ = false :=
  have k := h.rows _ hm
  ⟨k.frozen 0, k.frozen 1, k.frozen 2, k.frozen 3, k.frozen 4, k.frozen 5⟩
end Go.Proofs.YtlfngdbpnhaphaaGreatDoor
