/- bytes.TrimRight at one letter, slices.Reverse of bytes: on a row of the call's own. -/
import Derived.Test.YtegjhkjmejckdaaDoorN16
namespace Go.Proofs.YtegjhkjmejckdaaDoor
open Go.RowKit M
/-- A row of bytes of the call's own, of which the first ones are known. -/
structure OwnY (base : Nat) (w0 wr : World) (g : Nat) (T : List Int) : Prop where
  ge : base ≤ g
  blk : ∃ cur : Array Value, wr.heap[g]? = some (.cells cur 5 (0, 0)) ∧ T.length ≤ cur.size ∧ ∀ i, i < T.length → cur[i]? = some (.int .u8 (T.getD i 0))
  below : Below base w0 wr
theorem OwnY.lt {base : Nat} {w0 wr : World} {g : Nat} {T : List Int} (h : OwnY base w0 wr g T) : g < wr.heap.size := by
  obtain ⟨cur, hg, _⟩ := h.blk; exact (Array.getElem?_eq_some_iff.1 hg).1
theorem OwnY.cell {base : Nat} {w0 wr : World} {g : Nat} {T : List Int} (h : OwnY base w0 wr g T) (i : Nat) (hi : i < T.length) : wr.cell? ⟨g, i, none⟩ = some (.int .u8 (T.getD i 0)) := by
  obtain ⟨cur, hg, _, hc⟩ := h.blk
  rw [cell_of_row wr g i cur 5 (0, 0) hg]; exact hc i hi
theorem OwnY.free {base : Nat} {w0 wr : World} {g : Nat} {T : List Int} (h : OwnY base w0 wr g T) (i : Nat) : wr.frozen? ⟨g, i, none⟩ = false := by
  obtain ⟨cur, hg, _⟩ := h.blk; exact frozen_of_row wr g i cur 5 hg
theorem OwnY.store {base : Nat} {w0 wr : World} {g : Nat} {T : List Int} (h : OwnY base w0 wr g T) (j : Nat) (x : Int) : OwnY base w0 (wr.setCell ⟨g, j, none⟩ (.int .u8 x)) g (T.set j x) := by
  obtain ⟨cur, hg, hs, hc⟩ := h.blk
  refine ⟨h.ge, ⟨cur.setIfInBounds j (.int .u8 x), heap_setCell_same wr g j cur 5 _ hg, by simpa using hs, fun i hi => ?_⟩, h.below.setCell h.ge _⟩
  simp only [List.length_set] at hi
  have hci := hc i hi
  by_cases e : i = j
  · subst e
    rw [Array.getElem?_setIfInBounds_self_of_lt (by omega)]
    simp [List.getD, List.getElem?_set, hi]
  · rw [Array.getElem?_setIfInBounds_ne (by omega), hci]
    simp [List.getD, List.getElem?_set, show ¬ j = i from by omega]
theorem OwnY.drew {base : Nat} {w0 wr : World} {g : Nat} {T : List Int} (h : OwnY base w0 wr g T) : OwnY base w0 wr.drew g T := ⟨h.ge, h.blk, h.below.drew⟩
theorem OwnY.take {base : Nat} {w0 wr : World} {g : Nat} {T : List Int} (h : OwnY base w0 wr g T) (k : Nat) : OwnY base w0 wr g (T.take k) := by
  obtain ⟨cur, hg, hs, hc⟩ := h.blk
  refine ⟨h.ge, ⟨cur, hg, by rw [List.length_take]; omega, fun i hi => ?_⟩, h.below⟩
  rw [List.length_take] at hi
  rw [hc i (by omega)]; simp [List.getD, List.getElem?_take, show i < k from by omega]
theorem OwnY.of_owns {base g n cap : Nat} {w0 w : World} {l : List Int} (h : w.ownsRow base 5 1 (.slice (some ⟨g, 0, none⟩) n cap) n (l.map (Value.int .u8))) (hb : Below base w0 w) : OwnY base w0 w g l := by
  have hn : l.length = n := by have := h.1; simpa using this
  have hcell := fun i => h.cellAt i
  rcases h.2 with ⟨h', _⟩ | ⟨g', cap', cur, h', hg, hh, hnc, hm, hs, ht⟩
  · simp at h'
  · simp only [Value.slice.injEq, Option.some.injEq, Addr.mk.injEq, and_true, true_and] at h'
    obtain ⟨rfl, rfl⟩ := h'
    refine ⟨hg, ⟨cur, hh, by omega, fun i hi => ?_⟩, hb⟩
    rw [← cell_of_row w g i cur 5 (0, 0) hh, hcell i (by omega)]
    simp [List.getElem?_eq_getElem hi, List.getD]
theorem trimRightByte_any (g n cap : Nat) (T : List Int) (c : Int) (w : World) (D : List Int) (m : Nat) (hT : T = D ++ List.replicate m c) (hD : D.getLast? ≠ some c) (hn : T.length = n) (hn6 : n ≤ 100000) (hcap : n ≤ cap)
    (hc : ∀ i, i < n → w.cell? ⟨g, i, none⟩ = some (.int .u8 (T.getD i 0))) :
    Calls Tryd.prog 90 #[.slice (some ⟨g, 0, none⟩) n cap, .int .u8 c] w fun e w' => (∃ cap', e = .returned (.slice (some ⟨g, 0, none⟩) D.length cap')) ∧ w = w' := by
  have hDn : D.length + m = n := by rw [← hn, hT]; simp
  have HC := Bx.mk hc
  clear hc
  go_enter Tryd.func90, Tryd.ntmps90
  go_wp2
  go_loop [0] (fun v => ∃ k cap' : Nat, v = .slice (some ⟨g, 0, none⟩) k cap' ∧ D.length ≤ k ∧ k ≤ n ∧ k ≤ cap') (fun v => match v with | .slice _ n _ => n | _ => 0)
  case atStart => exact ⟨n, cap, rfl, by omega, Nat.le_refl _, hcap⟩
  case round =>
    obtain ⟨k, cap', rfl, hk1, hk2, hk3⟩ := hrel
    by_cases h0 : k = 0
    · subst h0
      have hD0 : D.length = 0 := by omega
      have HD0 := Bx.mk hD0
      clear hD0
      go_wp2
      go_ret
      exact ⟨⟨cap', by rw [HD0.out]; rfl⟩, rfl⟩
    · have hcell := HC.out (k - 1) (by omega)
      by_cases hk : k = D.length
      · have hx : T.getD (k - 1) 0 ≠ c := by
          have e : T.getD (k - 1) 0 = D.getD (k - 1) 0 := by rw [hT]; simp [List.getD, List.getElem?_append_left (show k - 1 < D.length by omega)]
          have e2 : D.getLast? = some (D.getD (k - 1) 0) := by rw [List.getLast?_eq_getElem?, ← hk, List.getD_eq_getElem?_getD, List.getElem?_eq_getElem (by omega)]; rfl
          rw [e]; rw [e2] at hD; simpa using hD
        generalize T.getD (k - 1) 0 = x at *
        have hx' : (x == c) = false := by simpa using hx
        have HK := Bx.mk hk
        clear hk hx
        go_wp2
        go_ret
        exact ⟨⟨cap', by rw [← HK.out]; rfl⟩, rfl⟩
      · have hx : T.getD (k - 1) 0 = c := by
          rw [hT, List.getD_eq_getElem?_getD, List.getElem?_append_right (by omega), List.getElem?_replicate, if_pos (by omega)]; rfl
        rw [hx] at hcell
        have HX := Bx.mk hx
        clear hx
        go_wp2
        go_round
        case rel => exact ⟨k - 1, cap', rfl, by omega, by omega, by omega⟩
        case measure => simp; omega
set_option maxRecDepth 100000 in
theorem trimRight_any (g n cap : Nat) (T : List Int) (w : World) (D : List Int) (m : Nat) (hT : T = D ++ List.replicate m 48) (hD : D.getLast? ≠ some 48) (hn : T.length = n) (hn0 : n ≠ 0) (hn6 : n ≤ 100000) (hcap : n ≤ cap)
    (hc : ∀ i, i < n → w.cell? ⟨g, i, none⟩ = some (.int .u8 (T.getD i 0))) :
    Calls Tryd.prog 80 #[.slice (some ⟨g, 0, none⟩) n cap, .string ⟨#[48]⟩] w fun e w' => (∃ cap', e = .returned (.slice (some ⟨g, 0, none⟩) D.length cap')) ∧ w = w' := by
  have hb := trimRightByte_any g n cap T 48 w D m hT hD hn hn6 hcap hc
  have HB := Bx.mk hb
  have hz : ((n : Int) == 0) = false := beq_eq_false_iff_ne.2 (by omega)
  clear hb hT hD hn hn0 hc
  go_enter Tryd.func80, Tryd.ntmps80
  go_wp2_with fail
  refine HB.out.mono ?_
  rintro e w' ⟨⟨cap', rfl⟩, rfl⟩
  go_wp2
  go_ret
  exact ⟨⟨cap', rfl⟩, rfl⟩
/-- The reversal after t exchanges. -/
def RevRel (T : List Int) (t : Nat) (L : List Int) : Prop := L.length = T.length ∧ ∀ k, k < T.length → L.getD k 0 = if k < t ∨ T.length - 1 - t < k then T.getD (T.length - 1 - k) 0 else T.getD k 0
theorem getD_set (l : List Int) (i j : Nat) (x : Int) (hi : i < l.length) : (l.set i x).getD j 0 = if i = j then x else l.getD j 0 := by
  simp only [List.getD_eq_getElem?_getD, List.getElem?_set]
  by_cases e : i = j
  · subst e; simp [hi]
  · simp [e]
theorem revRel_step {T L : List Int} {t : Nat} (h : RevRel T t L) (ht : 2 * t + 1 < T.length) :
    L.getD t 0 = T.getD t 0 ∧ L.getD (T.length - 1 - t) 0 = T.getD (T.length - 1 - t) 0 ∧ RevRel T (t + 1) ((L.set t (T.getD (T.length - 1 - t) 0)).set (T.length - 1 - t) (T.getD t 0)) := by
  obtain ⟨hl, hk⟩ := h
  refine ⟨by rw [hk t (by omega), if_neg (by omega)], by rw [hk _ (by omega), if_neg (by omega)], by simp [hl], fun k hkl => ?_⟩
  rw [getD_set _ _ _ _ (by simp; omega), getD_set _ _ _ _ (by omega)]
  by_cases e1 : T.length - 1 - t = k
  · rw [if_pos e1, if_pos (by omega), show T.length - 1 - k = t from by omega]
  · rw [if_neg e1]
    by_cases e2 : t = k
    · rw [if_pos e2, if_pos (by omega), e2]
    · rw [if_neg e2, hk k hkl]
      by_cases e3 : k < t ∨ T.length - 1 - t < k
      · rw [if_pos e3, if_pos (by omega)]
      · rw [if_neg e3, if_neg (by omega)]
theorem revRel_end {T L : List Int} {t : Nat} (h : RevRel T t L) (ht : T.length ≤ 2 * t + 1) : L = T.reverse := by
  obtain ⟨hl, hk⟩ := h
  apply List.ext_getElem
  · simp [hl]
  · intro i h1 h2
    have h3 := hk i (by omega)
    rw [List.getElem_reverse]
    have e1 : L.getD i 0 = L[i] := by simp [List.getD, List.getElem?_eq_getElem h1]
    have e2 : T.getD (T.length - 1 - i) 0 = T[T.length - 1 - i] := by simp [List.getD, List.getElem?_eq_getElem (show T.length - 1 - i < T.length by omega)]
    rw [← e1, h3, ← e2]
    split
    · rfl
    · have : T.length - 1 - i = i := by omega
      rw [this]
set_option maxHeartbeats 1600000 in
theorem reverse_any (base : Nat) (w0 wr0 : World) (g n cap : Nat) (T : List Int) (hn : T.length = n) (hn6 : n ≤ 100000) (hO : OwnY base w0 wr0 g T) :
    Calls Tryd.prog 81 #[.slice (some ⟨g, 0, none⟩) n cap] wr0 fun e w' => e = .returned (.tuple #[]) ∧ OwnY base w0 w' g T.reverse := by
  go_enter Tryd.func81, Tryd.ntmps81
  go_wp2
  go_loopw [2, 3] (fun iv jv wr => ∃ (t : Nat) (L : List Int), t ≤ n ∧ iv = .int .i64 t ∧ jv = .int .i64 ((n : Int) - 1 - t) ∧ Bx (RevRel T t L) ∧ OwnY base w0 wr g L) (fun iv _ _ => n - (intOf iv).toNat)
  case atStart => exact ⟨0, T, Nat.zero_le _, rfl, by go_num, ⟨rfl, fun k hk => by rw [if_neg (by omega)]⟩, hO⟩
  case round =>
    obtain ⟨t, L, ht, rfl, rfl, HR, hown⟩ := hrel
    have hlen := HR.out.1
    by_cases hlt : 2 * t + 1 < n
    · have hst := revRel_step HR.out (by omega)
      have hc1 := hown.cell t (by omega)
      have hc2 := hown.cell (n - 1 - t) (by omega)
      rw [hn] at hst
      rw [hst.1] at hc1
      rw [hst.2.1] at hc2
      have hf1 := hown.free t
      have hf2 := hown.free (n - 1 - t)
      generalize T.getD t 0 = x at *
      generalize T.getD (n - 1 - t) 0 = y at *
      have hs2 := (hown.store t y).store (n - 1 - t) x
      have HS := Bx.mk hs2
      have HN := Bx.mk hst.2.2
      have hb1 : (t : Int) < (n : Int) - 1 - t := by omega
      have hb2 : (0 : Int) ≤ (n : Int) - 1 - t := by omega
      have hb3 : (n : Int) - 1 - t < n := by omega
      have hb4 : (t : Int) < n := by omega
      clear hst hs2 hown hlen
      go_wp2_with fail
      go_region
      all_goals
        go_wp2
        go_roundw
        case rel => exact ⟨t + 1, _, by omega, by go_num, by go_num, HN, HS.out.drew⟩
        case measure => simp [intOf]; omega
    · have hend := revRel_end HR.out (by omega)
      subst hend
      have hd : decide ((t : Int) < (n : Int) - 1 - t) = false := by simp; omega
      clear HR hlen hlt
      go_wp2
      go_end0
      exact ⟨rfl, hown⟩
end Go.Proofs.YtegjhkjmejckdaaDoor
