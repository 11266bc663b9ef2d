/- The program's temper: that all elements of a list are as a function says. -/
import Derived.Test.YtnbamjoadankmaaWX
import Derived.Test.YtnbamjoadankmaaHC
import Derived.Test.YtnbamjoadankmaaWS
import Derived.Test.YtnbamjoadankmaaKZ
namespace Go.Proofs.Ytnbamjoadankmaa
open Go.RowKit D
set_option maxHeartbeats 4000000 in
theorem inside_any (x : Int) (w : World) (b : Bool) (hb : b = true ↔ -400 ≤ x ∧ x ≤ 400) : Calls Try.prog 100 #[.int .i64 x] w fun e w' => e = .returned (.bool b) ∧ w' = w := by
  cases b with
  | true =>
    have h := hb.1 rfl
    obtain ⟨h1, h2⟩ := h
    clear hb
    go_enter Try.func100, Try.ntmps100
    go_wp2_with fail
    go_ret
    exact ⟨rfl, rfl⟩
  | false =>
    have h : ¬ (-400 ≤ x ∧ x ≤ 400) := fun h => Bool.noConfusion (hb.2 h)
    clear hb
    by_cases h1 : -400 ≤ x
    · have h2 : ¬ x ≤ 400 := fun h2 => h ⟨h1, h2⟩
      clear h
      go_enter Try.func100, Try.ntmps100
      go_wp2_with fail
      go_ret
      exact ⟨rfl, rfl⟩
    · clear h
      go_enter Try.func100, Try.ntmps100
      go_wp2_with fail
      go_ret
      exact ⟨rfl, rfl⟩
set_option maxHeartbeats 4000000 in
theorem not_inside (x : Int) (fb : Nat) (w : World) (hf : w.cell? ⟨fb, 0, none⟩ = some (.func (.func 100) #[] #[])) (b : Bool) (hb : b = true ↔ -400 ≤ x ∧ x ≤ 400) : Calls Try.prog 138 #[.int .i64 x, .pointer (some ⟨fb, 0, none⟩)] w fun e w' => e = .returned (.bool (!b)) ∧ w' = w := by
  have PF := Bx.mk (fun w => inside_any x w b hb)
  clear hb
  go_enter Try.func138, Try.ntmps138
  go_wp2_with (go_at_call 100; refine (PF.out _).mono ?_; rintro e w2 ⟨rfl, rfl⟩)
  go_ret
  exact ⟨rfl, rfl⟩
set_option maxRecDepth 100000 in
set_option maxHeartbeats 8000000 in
theorem indexf_inside (bb o n c fb : Nat) (v : Nat → Int) (w : World) (hn : n ≤ 1000) (hcn : n ≤ c) (hc : ∀ j, j < n → w.cell? ⟨bb, o + j, none⟩ = some (.int .i64 (v j))) (hf : w.cell? ⟨fb, 0, none⟩ = some (.func (.func 100) #[] #[])) (p : Nat) (hp : p ≤ n) (h0 : ∀ j, j < p → -400 ≤ (v j) ∧ (v j) ≤ 400) (h1 : p < n → ¬ (-400 ≤ (v p) ∧ (v p) ≤ 400)) :
    Calls Try.prog 133 #[.slice (some ⟨bb, o, none⟩) n c, .func (.func 138) #[] #[.pointer (some ⟨fb, 0, none⟩)]] w fun e w' => e = .returned (.int .i64 (if p < n then (p : Int) else -1)) ∧ w' = w := by
  have H0 := Bx.mk h0
  have H1 := Bx.mk h1
  have HC := Bx.mk hc
  have HF := Bx.mk hf
  clear h0 h1 hc hf
  go_enter Try.func133, Try.ntmps133
  go_wp2_with fail
  go_loopw [8] (fun ix wr => ∃ i : Nat, i ≤ p ∧ ix = .int .i64 i ∧ wr = w) (fun ix _ => n + 1 - (intOf ix).toNat)
  case atStart => exact ⟨0, by omega, rfl, rfl⟩
  case round =>
    obtain ⟨i, hi, rfl, rfl⟩ := hrel
    by_cases hi6 : i < n
    · have c1 := HC.out i hi6
      have hin : (i : Int) < (n : Int) := by omega
      by_cases hip : i < p
      · have PF := Bx.mk (fun w hf => not_inside (v i) fb w hf true ⟨fun _ => H0.out i hip, fun _ => rfl⟩)
        go_wp2_with (go_at_call 138; refine (PF.out _ HF.out).mono ?_; rintro e w2 ⟨rfl, rfl⟩)
        exact ⟨⟨i + 1, by omega, by go_num, by first | rfl | trivial⟩, by simp [intOf]; omega⟩
      · obtain rfl : i = p := by omega
        have PF := Bx.mk (fun w hf => not_inside (v i) fb w hf false ⟨fun h => Bool.noConfusion h, fun h => absurd h (H1.out hi6)⟩)
        go_wp2_with (go_at_call 138; refine (PF.out _ HF.out).mono ?_; rintro e w2 ⟨rfl, rfl⟩)
        go_ret
        exact ⟨by first | rfl | (rw [if_pos hi6]; rfl) | rw [if_pos hi6], rfl⟩
    · obtain rfl : i = p := by omega
      obtain rfl : i = n := by omega
      go_wp2_with fail
      go_ret
      exact ⟨by first | rfl | (rw [if_neg hi6]; rfl) | rw [if_neg hi6], rfl⟩
theorem bad_inside (v : Nat → Int) : ∀ n, ∃ p, p ≤ n ∧ (∀ j, j < p → -400 ≤ (v j) ∧ (v j) ≤ 400) ∧ (p < n → ¬ (-400 ≤ (v p) ∧ (v p) ≤ 400))
  | 0 => ⟨0, Nat.le_refl _, fun j hj => by omega, fun h => by omega⟩
  | n + 1 => by
    obtain ⟨p, a, b, c⟩ := bad_inside v n
    by_cases e : p < n
    · exact ⟨p, by omega, b, fun _ => c e⟩
    · obtain rfl : p = n := by omega
      by_cases x : -400 ≤ (v p) ∧ (v p) ≤ 400
      · refine ⟨p + 1, by omega, fun j hj => ?_, fun h => by omega⟩
        by_cases y : j = p
        · rw [y]; exact x
        · exact b j (by omega)
      · exact ⟨p, by omega, b, fun _ => x⟩
set_option maxHeartbeats 4000000 in
theorem containsf_inside (bb o n c fb : Nat) (v : Nat → Int) (w : World) (hn : n ≤ 1000) (hcn : n ≤ c) (hc : ∀ j, j < n → w.cell? ⟨bb, o + j, none⟩ = some (.int .i64 (v j))) (hf : w.cell? ⟨fb, 0, none⟩ = some (.func (.func 100) #[] #[])) (b : Bool) (hb : b = true ↔ ∀ j, j < n → -400 ≤ (v j) ∧ (v j) ≤ 400) :
    Calls Try.prog 137 #[.slice (some ⟨bb, o, none⟩) n c, .func (.func 138) #[] #[.pointer (some ⟨fb, 0, none⟩)]] w fun e w' => e = .returned (.bool (!b)) ∧ w' = w := by
  obtain ⟨p, hp, h0, h1⟩ := bad_inside v n
  have PI := Bx.mk (indexf_inside bb o n c fb v w hn hcn hc hf p hp h0 h1)
  by_cases hpn : p < n
  · obtain rfl : b = false := by
      cases b with
      | false => rfl
      | true => exact absurd (hb.1 rfl p hpn) (h1 hpn)
    rw [if_pos hpn] at PI
    have hge : (p : Int) ≥ 0 := by omega
    clear hc hf hb h0 h1
    go_enter Try.func137, Try.ntmps137
    go_wp2_with (go_at_call 133; refine PI.out.mono ?_; rintro e w2 ⟨rfl, rfl⟩)
    go_ret
    exact ⟨by simp, rfl⟩
  · obtain rfl : b = true := hb.2 fun j hj => h0 j (by omega)
    rw [if_neg hpn] at PI
    clear hc hf hb h0 h1
    go_enter Try.func137, Try.ntmps137
    go_wp2_with (go_at_call 133; refine PI.out.mono ?_; rintro e w2 ⟨rfl, rfl⟩)
    go_ret
    exact ⟨by simp, rfl⟩
set_option maxHeartbeats 4000000 in
theorem all_inside (bb o n c : Nat) (v : Nat → Int) (w : World) (hn : n ≤ 1000) (hcn : n ≤ c) (hbb : bb < w.heap.size) (hc : ∀ j, j < n → w.cell? ⟨bb, o + j, none⟩ = some (.int .i64 (v j))) (b : Bool) (hb : b = true ↔ ∀ j, j < n → -400 ≤ (v j) ∧ (v j) ≤ 400) :
    Calls Try.prog 99 #[.slice (some ⟨bb, o, none⟩) n c, .func (.func 100) #[] #[]] w fun e w' => e = .returned (.bool b) ∧ Below w.heap.size w w' := by
  have hfc := (Boxed.new w 121 (.func (.func 100) #[] #[])).cell
  have HA := Bx.mk ((Below.refl w.heap.size w).alloc (Nat.le_refl _) (.cells #[.func (.func 100) #[] #[]] 121))
  have PC := Bx.mk (containsf_inside bb o n c w.heap.size v (w.alloc (.cells #[.func (.func 100) #[] #[]] 121)) hn hcn (fun j hj => (HA.out.cell (p := ⟨bb, o + j, none⟩) hbb).trans (hc j hj)) hfc b hb)
  clear hc hb hfc
  go_enter Try.func99, Try.ntmps99
  go_wp2_with (go_at_call 137; refine PC.out.mono ?_; rintro e w2 ⟨rfl, rfl⟩)
  go_ret
  exact ⟨by simp, HA.out⟩
set_option maxHeartbeats 4000000 in
theorem zero_any (x : Int) (w : World) (b : Bool) (hb : b = true ↔ x = 0) : Calls Try.prog 105 #[.int .i64 x] w fun e w' => e = .returned (.bool b) ∧ w' = w := by
  cases b with
  | true =>
    have h := hb.1 rfl
    subst h
    clear hb
    go_enter Try.func105, Try.ntmps105
    go_wp2_with fail
    go_ret
    exact ⟨rfl, rfl⟩
  | false =>
    have h : ¬ (x = 0) := fun h => Bool.noConfusion (hb.2 h)
    clear hb
    have h' : (x == 0) = false := by simp [h]
    go_enter Try.func105, Try.ntmps105
    go_wp2_with fail
    go_ret
    exact ⟨rfl, rfl⟩
set_option maxHeartbeats 4000000 in
theorem not_zero (x : Int) (fb : Nat) (w : World) (hf : w.cell? ⟨fb, 0, none⟩ = some (.func (.func 105) #[] #[])) (b : Bool) (hb : b = true ↔ x = 0) : Calls Try.prog 138 #[.int .i64 x, .pointer (some ⟨fb, 0, none⟩)] w fun e w' => e = .returned (.bool (!b)) ∧ w' = w := by
  have PF := Bx.mk (fun w => zero_any x w b hb)
  clear hb
  go_enter Try.func138, Try.ntmps138
  go_wp2_with (go_at_call 105; refine (PF.out _).mono ?_; rintro e w2 ⟨rfl, rfl⟩)
  go_ret
  exact ⟨rfl, rfl⟩
set_option maxRecDepth 100000 in
set_option maxHeartbeats 8000000 in
theorem indexf_zero (bb o n c fb : Nat) (v : Nat → Int) (w : World) (hn : n ≤ 1000) (hcn : n ≤ c) (hc : ∀ j, j < n → w.cell? ⟨bb, o + j, none⟩ = some (.int .i64 (v j))) (hf : w.cell? ⟨fb, 0, none⟩ = some (.func (.func 105) #[] #[])) (p : Nat) (hp : p ≤ n) (h0 : ∀ j, j < p → (v j) = 0) (h1 : p < n → ¬ ((v p) = 0)) :
    Calls Try.prog 133 #[.slice (some ⟨bb, o, none⟩) n c, .func (.func 138) #[] #[.pointer (some ⟨fb, 0, none⟩)]] w fun e w' => e = .returned (.int .i64 (if p < n then (p : Int) else -1)) ∧ w' = w := by
  have H0 := Bx.mk h0
  have H1 := Bx.mk h1
  have HC := Bx.mk hc
  have HF := Bx.mk hf
  clear h0 h1 hc hf
  go_enter Try.func133, Try.ntmps133
  go_wp2_with fail
  go_loopw [8] (fun ix wr => ∃ i : Nat, i ≤ p ∧ ix = .int .i64 i ∧ wr = w) (fun ix _ => n + 1 - (intOf ix).toNat)
  case atStart => exact ⟨0, by omega, rfl, rfl⟩
  case round =>
    obtain ⟨i, hi, rfl, rfl⟩ := hrel
    by_cases hi6 : i < n
    · have c1 := HC.out i hi6
      have hin : (i : Int) < (n : Int) := by omega
      by_cases hip : i < p
      · have PF := Bx.mk (fun w hf => not_zero (v i) fb w hf true ⟨fun _ => H0.out i hip, fun _ => rfl⟩)
        go_wp2_with (go_at_call 138; refine (PF.out _ HF.out).mono ?_; rintro e w2 ⟨rfl, rfl⟩)
        exact ⟨⟨i + 1, by omega, by go_num, by first | rfl | trivial⟩, by simp [intOf]; omega⟩
      · obtain rfl : i = p := by omega
        have PF := Bx.mk (fun w hf => not_zero (v i) fb w hf false ⟨fun h => Bool.noConfusion h, fun h => absurd h (H1.out hi6)⟩)
        go_wp2_with (go_at_call 138; refine (PF.out _ HF.out).mono ?_; rintro e w2 ⟨rfl, rfl⟩)
        go_ret
        exact ⟨by first | rfl | (rw [if_pos hi6]; rfl) | rw [if_pos hi6], rfl⟩
    · obtain rfl : i = p := by omega
      obtain rfl : i = n := by omega
      go_wp2_with fail
      go_ret
      exact ⟨by first | rfl | (rw [if_neg hi6]; rfl) | rw [if_neg hi6], rfl⟩
theorem bad_zero (v : Nat → Int) : ∀ n, ∃ p, p ≤ n ∧ (∀ j, j < p → (v j) = 0) ∧ (p < n → ¬ ((v p) = 0))
  | 0 => ⟨0, Nat.le_refl _, fun j hj => by omega, fun h => by omega⟩
  | n + 1 => by
    obtain ⟨p, a, b, c⟩ := bad_zero v n
    by_cases e : p < n
    · exact ⟨p, by omega, b, fun _ => c e⟩
    · obtain rfl : p = n := by omega
      by_cases x : (v p) = 0
      · refine ⟨p + 1, by omega, fun j hj => ?_, fun h => by omega⟩
        by_cases y : j = p
        · rw [y]; exact x
        · exact b j (by omega)
      · exact ⟨p, by omega, b, fun _ => x⟩
set_option maxHeartbeats 4000000 in
theorem containsf_zero (bb o n c fb : Nat) (v : Nat → Int) (w : World) (hn : n ≤ 1000) (hcn : n ≤ c) (hc : ∀ j, j < n → w.cell? ⟨bb, o + j, none⟩ = some (.int .i64 (v j))) (hf : w.cell? ⟨fb, 0, none⟩ = some (.func (.func 105) #[] #[])) (b : Bool) (hb : b = true ↔ ∀ j, j < n → (v j) = 0) :
    Calls Try.prog 137 #[.slice (some ⟨bb, o, none⟩) n c, .func (.func 138) #[] #[.pointer (some ⟨fb, 0, none⟩)]] w fun e w' => e = .returned (.bool (!b)) ∧ w' = w := by
  obtain ⟨p, hp, h0, h1⟩ := bad_zero v n
  have PI := Bx.mk (indexf_zero bb o n c fb v w hn hcn hc hf p hp h0 h1)
  by_cases hpn : p < n
  · obtain rfl : b = false := by
      cases b with
      | false => rfl
      | true => exact absurd (hb.1 rfl p hpn) (h1 hpn)
    rw [if_pos hpn] at PI
    have hge : (p : Int) ≥ 0 := by omega
    clear hc hf hb h0 h1
    go_enter Try.func137, Try.ntmps137
    go_wp2_with (go_at_call 133; refine PI.out.mono ?_; rintro e w2 ⟨rfl, rfl⟩)
    go_ret
    exact ⟨by simp, rfl⟩
  · obtain rfl : b = true := hb.2 fun j hj => h0 j (by omega)
    rw [if_neg hpn] at PI
    clear hc hf hb h0 h1
    go_enter Try.func137, Try.ntmps137
    go_wp2_with (go_at_call 133; refine PI.out.mono ?_; rintro e w2 ⟨rfl, rfl⟩)
    go_ret
    exact ⟨by simp, rfl⟩
set_option maxHeartbeats 4000000 in
theorem all_zero (bb o n c : Nat) (v : Nat → Int) (w : World) (hn : n ≤ 1000) (hcn : n ≤ c) (hbb : bb < w.heap.size) (hc : ∀ j, j < n → w.cell? ⟨bb, o + j, none⟩ = some (.int .i64 (v j))) (b : Bool) (hb : b = true ↔ ∀ j, j < n → (v j) = 0) :
    Calls Try.prog 99 #[.slice (some ⟨bb, o, none⟩) n c, .func (.func 105) #[] #[]] w fun e w' => e = .returned (.bool b) ∧ Below w.heap.size w w' := by
  have hfc := (Boxed.new w 121 (.func (.func 105) #[] #[])).cell
  have HA := Bx.mk ((Below.refl w.heap.size w).alloc (Nat.le_refl _) (.cells #[.func (.func 105) #[] #[]] 121))
  have PC := Bx.mk (containsf_zero bb o n c w.heap.size v (w.alloc (.cells #[.func (.func 105) #[] #[]] 121)) hn hcn (fun j hj => (HA.out.cell (p := ⟨bb, o + j, none⟩) hbb).trans (hc j hj)) hfc b hb)
  clear hc hb hfc
  go_enter Try.func99, Try.ntmps99
  go_wp2_with (go_at_call 137; refine PC.out.mono ?_; rintro e w2 ⟨rfl, rfl⟩)
  go_ret
  exact ⟨by simp, HA.out⟩
end Go.Proofs.Ytnbamjoadankmaa
/- The program's pitch: bounds, sums. -/
namespace Go.Proofs.Ytnbamjoadankmaa
open Go.RowKit D
theorem index_six2 (v : Nat → Int) {l : Nat} (hl : l < 6) (x : Int) (hx : v l = x) : ∀ w, (Instr.index 35 (.agg #[.int .i64 (v 0), .int .i64 (v 1), .int .i64 (v 2), .int .i64 (v 3), .int .i64 (v 4), .int .i64 (v 5)]) (.int .i64 l)).run Try.prog w = .ok (.int .i64 x) w := by
  intro w
  have hu := Try.underlying35
  subst hx
  obtain ⟨ti, hti, hti2⟩ := Option.map_eq_some_iff.1 info_int
  simp only [Prod.mk.injEq] at hti2
  rcases six_cases' hl with rfl | rfl | rfl | rfl | rfl | rfl <;> simp [Instr.index, asIntOf, run_underlying hu, sizeOf, typeInfo, hti, hti2.2.1, Sem.run_bind, Result.andThen, part]
set_option maxRecDepth 100000 in
set_option maxHeartbeats 8000000 in
theorem bounded_any (v : Nat → Int) (m : Int) (w : World) (hm : 0 ≤ m ∧ m ≤ 1000000000000000000) (b : Bool) (hb : b = true ↔ ∀ j, j < 6 → -m ≤ v j ∧ v j ≤ m) : Calls Try.prog 112 #[PV v, .int .i64 m] w fun e w' => e = .returned (.bool b) ∧ Below w.heap.size w w' := by
  have HB := Bx.mk hb
  have H0 := Bx.mk ((Below.refl w.heap.size w).alloc (Nat.le_refl _) (.cells #[.int .i64 (v 0), .int .i64 (v 1), .int .i64 (v 2), .int .i64 (v 3), .int .i64 (v 4), .int .i64 (v 5)] 35))
  have hw1 : wrap64 (-m) = -m := by unfold wrap64; omega
  have hw2 : IntKind.i64.wrap (-m) = -m := by rw [IntWalk.i64_in] <;> omega
  unfold PV
  clear hb
  go_enter Try.func112, Try.ntmps112
  go_wp2_with fail
  obtain ⟨w0, hw0⟩ : ∃ w0, w.alloc (.cells #[.int .i64 (v 0), .int .i64 (v 1), .int .i64 (v 2), .int .i64 (v 3), .int .i64 (v 4), .int .i64 (v 5)] 35) = w0 := ⟨_, rfl⟩
  rw [hw0] at H0
  try rw [hw0]
  clear hw0
  go_loopw [8] (fun ix wr => ∃ k : Nat, k ≤ 6 ∧ ix = .int .i64 k ∧ Bx (∀ j, j < k → -m ≤ v j ∧ v j ≤ m) ∧ wr = w0) (fun ix _ => 6 - (intOf ix).toNat)
  case atStart => exact ⟨0, by omega, rfl, ⟨fun j hj => by omega⟩, rfl⟩
  case round =>
    obtain ⟨k, hk, rfl, HA, rfl⟩ := hrel
    by_cases hlt : k < 6
    · have hki : (k : Int) < 6 := by omega
      obtain ⟨x, hx⟩ : ∃ x, v k = x := ⟨_, rfl⟩
      have hix := index_six2 v hlt x hx
      by_cases h1 : x < -m
      · obtain rfl : b = false := by
          cases b with
          | false => rfl
          | true => have := HB.out.1 rfl k hlt; omega
        clear hx
        go_wp2_with fail
        go_ret
        exact ⟨rfl, H0.out⟩
      · by_cases h2 : x > m
        · obtain rfl : b = false := by
            cases b with
            | false => rfl
            | true => have := HB.out.1 rfl k hlt; omega
          clear hx
          go_wp2_with fail
          go_ret
          exact ⟨rfl, H0.out⟩
        · have HX := Bx.mk hx
          clear hx
          go_wp2_with fail
          exact ⟨⟨k + 1, by omega, by go_num, ⟨fun j hj => by
            by_cases e : j = k
            · rw [e, HX.out]; omega
            · exact HA.out j (by omega)⟩, by trivial⟩, by simp [intOf]; omega⟩
    · obtain rfl : k = 6 := by omega
      obtain rfl : b = true := HB.out.2 HA.out
      go_wp2_with fail
      go_ret
      exact ⟨rfl, H0.out⟩
/-- A valid interval. -/
def Iv (v : Nat → Int) : Prop := ∀ j, j < 6 → -48 ≤ v j ∧ v j ≤ 48
set_option maxHeartbeats 4000000 in
theorem interval_any (v : Nat → Int) (w : World) (b : Bool) (hb : b = true ↔ Iv v) : Calls Try.prog 63 #[PV v] w fun e w' => e = .returned (.bool b) ∧ Below w.heap.size w w' := by
  have PB' := Bx.mk (fun w => bounded_any v 48 w (by omega) b hb)
  unfold PV at PB' ⊢
  clear hb
  go_enter Try.func63, Try.ntmps63
  go_wp2_with (go_at_call 112; refine (PB'.out _).mono ?_; rintro e w2 ⟨rfl, b2⟩)
  go_ret
  exact ⟨rfl, below_new b2⟩
end Go.Proofs.Ytnbamjoadankmaa
/- The program's temper: Valid. -/
namespace Go.Proofs.Ytnbamjoadankmaa
open Go.RowKit D
theorem VBk {W : World} {b : Nat} {v : Nat → Int} (h : VB W b v) {k : Nat} (hk : k < 6) : W.cell? ⟨b, k, none⟩ = some (.int .i64 (v k)) := by
  rcases six_cases hk with rfl | rfl | rfl | rfl | rfl | rfl
  · exact h.c0
  · exact h.c1
  · exact h.c2
  · exact h.c3
  · exact h.c4
  · exact h.c5
/-- A temperament. -/
structure Tm (M : Nat → Nat → Int) (n : Nat) : Prop where
  some : 0 < n
  three : n ≤ 3
  ent : ∀ i, i < n → ∀ j, j < 6 → -400 ≤ M i j ∧ M i j ≤ 400
  vm : VM M n
  rank : ∀ k, Dv M n 6 k 0 ↔ n < k
theorem Tm.no {M : Nat → Nat → Int} {n : Nat} {b : Bool} (hb : b = true ↔ Tm M n) (h : ¬ Tm M n) : b = false := by
  cases b with
  | false => rfl
  | true => exact absurd (hb.1 rfl) h
theorem rank_yes {M : Nat → Nat → Int} {n : Nat} {e : Ending} (h : RankOut M n e) (hv : VM M n) : ∃ q : Nat, e = .returned (.tuple #[.int .i64 q, .int .i64 0]) ∧ q ≤ 6 ∧ Bx (∀ k, Dv M n 6 k 0 ↔ q < k) := by
  rcases h with ⟨h, _⟩ | ⟨_, q, he, h6, hq⟩
  · exact absurd hv h
  · exact ⟨q, he, h6, ⟨hq⟩⟩
theorem Tm.eq {M : Nat → Nat → Int} {n q : Nat} {b : Bool} (h0 : ¬ n = 0) (h3 : n ≤ 3) (he : ∀ i, i < n → ∀ j, j < 6 → -400 ≤ M i j ∧ M i j ≤ 400) (hv : VM M n) (hq : ∀ k, Dv M n 6 k 0 ↔ q < k) (hb : b = true ↔ Tm M n) : ((q : Int) == (n : Int)) = b := by
  rw [Bool.eq_iff_iff, hb, beq_iff_eq]
  constructor
  · intro e
    have e2 : q = n := by omega
    subst e2
    exact ⟨by omega, h3, he, hv, hq⟩
  · intro t
    have a := (hq (q + 1)).2 (by omega)
    have b1 := (t.rank (q + 1)).1 a
    have c := (t.rank (n + 1)).2 (by omega)
    have d := (hq (n + 1)).1 c
    omega
theorem rank_no {M : Nat → Nat → Int} {n : Nat} {e : Ending} (h : RankOut M n e) (hv : ¬ VM M n) : e = .returned (.tuple #[.int .i64 0, .int .i64 1]) := by
  rcases h with ⟨_, h⟩ | ⟨h, _⟩
  · exact h
  · exact absurd h hv
set_option maxRecDepth 100000 in
set_option maxHeartbeats 8000000 in
theorem tvalid_any (a : Option Addr) (n c : Nat) (M : Nat → Nat → Int) (w : World) (hc1 : n ≤ c) (hc2 : c ≤ maxLen) (hR : CV w a n M) (b : Bool) (hb : b = true ↔ Tm M n) :
    Calls Try.prog 47 #[.agg #[.slice a n c]] w fun e w' => e = .returned (.bool b) ∧ Below w.heap.size w w' := by
  have hm : n ≤ 9223372036854775807 := by unfold maxLen at hc2; omega
  have H0 := Bx.mk (above_new w (.cells #[.slice a n c] 57))
  have hbx := Boxed.new w 57 (.slice a n c)
  by_cases h0 : n = 0
  · obtain rfl := Tm.no hb (fun t => by have := t.some; omega)
    subst h0
    clear hb hR hbx
    go_enter Try.func47, Try.ntmps47
    go_wp2_with fail
    go_ret
    exact ⟨rfl, H0.out⟩
  · have h0' : ((n : Int) == 0) = false := by simp; omega
    by_cases h3 : n ≤ 3
    · have h3' : ¬ (n : Int) > 3 := by omega
      have HR := Bx.mk hR
      have HB := Bx.mk hb
      have HBX := Bx.mk hbx
      clear hb hR hbx
      go_enter Try.func47, Try.ntmps47
      go_wp2_with fail
      obtain ⟨w0, hw0⟩ : ∃ w0, w.alloc (.cells #[.slice a n c] 57) = w0 := ⟨_, rfl⟩
      rw [hw0] at H0 HBX
      try rw [hw0]
      clear hw0
      have hlw := HBX.out.lt
      go_loopw [20] (fun ix wr => ∃ k : Nat, k ≤ n ∧ ix = .int .i64 k ∧ Bx (∀ i, i < k → ∀ j, j < 6 → -400 ≤ M i j ∧ M i j ≤ 400) ∧ Bx (Below w0.heap.size w0 wr)) (fun ix _ => n - (intOf ix).toNat)
      case atStart => exact ⟨0, by omega, rfl, ⟨fun i hi => by omega⟩, ⟨Below.refl _ _⟩⟩
      case round =>
        obtain ⟨k, hk, rfl, HA, HBr⟩ := hrel
        have HBw := Bx.mk (H0.out.trans (HBr.out.mono H0.out.size))
        have hbr : Boxed wr w.heap.size _ _ := (HBr.out.block w.heap.size hlw).trans HBX.out
        have cb := hbr.cell
        by_cases hlt : k < n
        · have hki : (k : Int) < (n : Int) := by omega
          obtain ⟨b6, o6, rfl, hb6, hcr⟩ := HR.out (by omega)
          obtain ⟨a0, a1, a2, a3, a4, a5⟩ := row_six hcr hb6 HBw.out hlt
          clear hcr
          have HVB := Bx.mk (VB.new wr (M k))
          have HQ : Bx (Below w0.heap.size w0 (wr.alloc (.cells #[.int .i64 (M k 0), .int .i64 (M k 1), .int .i64 (M k 2), .int .i64 (M k 3), .int .i64 (M k 4), .int .i64 (M k 5)] 36))) := ⟨HBr.out.trans ((above_new wr _).mono HBr.out.size)⟩
          by_cases hr : ∀ j, j < 6 → -400 ≤ M k j ∧ M k j ≤ 400
          · have PA := Bx.mk (all_inside wr.heap.size 0 6 6 (M k) (wr.alloc (.cells #[.int .i64 (M k 0), .int .i64 (M k 1), .int .i64 (M k 2), .int .i64 (M k 3), .int .i64 (M k 4), .int .i64 (M k 5)] 36)) (by omega) (Nat.le_refl _) HVB.out.lt (fun j hj => by rw [Nat.zero_add]; exact VBk HVB.out hj) true ⟨fun _ => hr, fun _ => rfl⟩)
            have HR' := Bx.mk hr
            clear hr
            go_wp2_with (go_at_call 99; refine PA.out.mono ?_; clear PA; rintro e w5 ⟨rfl, b5⟩; have B5 := Bx.mk (HQ.out.trans (b5.mono HQ.out.size)); clear b5)
            exact ⟨⟨k + 1, by omega, by go_num, ⟨fun i hi j hj => by
              by_cases e : i = k
              · rw [e]; exact HR'.out j hj
              · exact HA.out i (by omega) j hj⟩, B5⟩, by simp [intOf]; omega⟩
          · have PA := Bx.mk (all_inside wr.heap.size 0 6 6 (M k) (wr.alloc (.cells #[.int .i64 (M k 0), .int .i64 (M k 1), .int .i64 (M k 2), .int .i64 (M k 3), .int .i64 (M k 4), .int .i64 (M k 5)] 36)) (by omega) (Nat.le_refl _) HVB.out.lt (fun j hj => by rw [Nat.zero_add]; exact VBk HVB.out hj) false ⟨fun e => Bool.noConfusion e, fun e => absurd e hr⟩)
            obtain rfl := Tm.no HB.out (fun t => hr (t.ent k hlt))
            clear hr
            go_wp2_with (go_at_call 99; refine PA.out.mono ?_; clear PA; rintro e w5 ⟨rfl, b5⟩; have B5 := Bx.mk (HQ.out.trans (b5.mono HQ.out.size)); clear b5)
            go_ret
            exact ⟨rfl, H0.out.trans (B5.out.mono H0.out.size)⟩
        · obtain rfl : k = n := by omega
          have HRA := Bx.mk (rank_pub a k c M wr hc1 hc2 (HR.out.keep HBw.out))
          by_cases hv : VM M k
          · go_wp2_with (first
              | (go_at_call 29; refine HRA.out.mono ?_; clear HRA; rintro e w5 ⟨hro, b5⟩
                 obtain ⟨q, rfl, hq6, HQ⟩ := rank_yes hro hv
                 have B5 := Bx.mk (HBw.out.trans (b5.mono HBw.out.size))
                 have hb5 : Boxed w5 w.heap.size _ _ := (b5.block w.heap.size hbr.lt).trans hbr
                 have c5 := hb5.cell
                 have hqb := Tm.eq h0 h3 HA.out hv HQ.out HB.out
                 clear b5 hro hb5))
            go_ret
            exact ⟨by first | rfl | (rw [hqb]), B5.out⟩
          · obtain rfl := Tm.no HB.out (fun t => hv t.vm)
            go_wp2_with (first
              | (go_at_call 29; refine HRA.out.mono ?_; clear HRA; rintro e w5 ⟨hro, b5⟩
                 obtain rfl := rank_no hro hv
                 have B5 := Bx.mk (HBw.out.trans (b5.mono HBw.out.size))
                 clear b5 hro))
            go_ret
            exact ⟨rfl, B5.out⟩
    · obtain rfl := Tm.no hb (fun t => h3 t.three)
      have h3' : (n : Int) > 3 := by omega
      clear hb hR hbx
      go_enter Try.func47, Try.ntmps47
      go_wp2_with fail
      go_ret
      exact ⟨rfl, H0.out⟩
end Go.Proofs.Ytnbamjoadankmaa
/- The program's temper: temperamentFor and image. -/
namespace Go.Proofs.Ytnbamjoadankmaa
open Go.RowKit D
theorem tfor_boxes (w : World) (a : Option Addr) (n c : Nat) (v : Nat → Int) : ∀ W, ((w.alloc (.cells #[.slice a n c] 57)).alloc (.cells #[.int .i64 (v 0), .int .i64 (v 1), .int .i64 (v 2), .int .i64 (v 3), .int .i64 (v 4), .int .i64 (v 5)] 36)).alloc (.cells #[.slice none 0 0] 123) = W → Boxed W w.heap.size 57 (.slice a n c) ∧ VB W (w.heap.size + 1) v ∧ Boxed W (w.heap.size + 1 + 1) 123 (.slice none 0 0) ∧ Below w.heap.size w W ∧ W.heap.size = w.heap.size + 3 := by
  rintro W rfl
  have h1 := VB.new (w.alloc (.cells #[.slice a n c] 57)) v
  have h2 := Boxed.new ((w.alloc (.cells #[.slice a n c] 57)).alloc (.cells #[.int .i64 (v 0), .int .i64 (v 1), .int .i64 (v 2), .int .i64 (v 3), .int .i64 (v 4), .int .i64 (v 5)] 36)) 123 (.slice none 0 0)
  simp only [World.size_alloc] at h1 h2
  have h0 := Boxed.new w 57 (.slice a n c)
  exact ⟨((((Below.refl _ (w.alloc (.cells #[.slice a n c] 57))).alloc (Nat.le_refl _) (.cells #[.int .i64 (v 0), .int .i64 (v 1), .int .i64 (v 2), .int .i64 (v 3), .int .i64 (v 4), .int .i64 (v 5)] 36)).alloc (by simp) (.cells #[.slice none 0 0] 123)).block _ (by simp)).trans h0, h1.keep ((above_new ((w.alloc (.cells #[.slice a n c] 57)).alloc (.cells #[.int .i64 (v 0), .int .i64 (v 1), .int .i64 (v 2), .int .i64 (v 3), .int .i64 (v 4), .int .i64 (v 5)] 36)) (.cells #[.slice none 0 0] 123)).block _ (by simp)), h2, (((Below.refl _ w).alloc (Nat.le_refl _) _).alloc (by simp) _).alloc (by simp <;> omega) _, by simp⟩
theorem tfor_at {P : Program} {f : FuncId} {args : Array Value} {W W' : World} {R : Ending → World → Prop} (hW : W' = W) (h : Calls P f args W R) : Calls P f args W' R := by subst hW; exact h
set_option maxRecDepth 100000 in
set_option maxHeartbeats 8000000 in
theorem tfor_any (a : Option Addr) (n c : Nat) (M : Nat → Nat → Int) (v : Nat → Int) (w : World) (hc1 : n ≤ c) (hc2 : c ≤ maxLen) (hR : CV w a n M) :
    Calls Try.prog 101 #[.agg #[.slice a n c], PV v] w fun e w' => ((Tm M n ∧ Iv v ∧ e = .returned (.tuple #[.agg #[.slice a n c], .int .i64 0])) ∨ (¬ (Tm M n ∧ Iv v) ∧ e = .returned (.tuple #[.agg #[.slice none 0 0], .int .i64 1]))) ∧ Below w.heap.size w w' := by
  obtain ⟨W, hW⟩ : ∃ W, ((w.alloc (.cells #[.slice a n c] 57)).alloc (.cells #[.int .i64 (v 0), .int .i64 (v 1), .int .i64 (v 2), .int .i64 (v 3), .int .i64 (v 4), .int .i64 (v 5)] 36)).alloc (.cells #[.slice none 0 0] 123) = W := ⟨_, rfl⟩
  obtain ⟨h0, hv, ht, hb, hs⟩ := tfor_boxes w a n c v W hW
  have m0 := h0.cell
  have HM0 := Bx.mk h0
  have hl0 := h0.lt
  have HV := Bx.mk hv
  have HT := Bx.mk ht
  have HB := Bx.mk hb
  obtain ⟨b1, hb1⟩ := bool_of (Tm M n)
  obtain ⟨b2, hb2⟩ := bool_of (Iv v)
  have HB1 := Bx.mk hb1
  have HB2 := Bx.mk hb2
  have H1 := Bx.mk (tvalid_any a n c M W hc1 hc2 (hR.keep hb) b1 hb1)
  have H2 := Bx.mk (fun w' => interval_any v w' b2 hb2)
  have hl1 := hv.lt
  have hl2 := ht.lt
  unfold PV at H2 ⊢
  clear h0 hv ht hb hb1 hb2 hR
  go_enter Try.func101, Try.ntmps101
  go_wp2_with (first
    | (go_at_call 47; refine H1.out.mono ?_; clear H1 hW; rintro e w1 ⟨rfl, k1⟩
       have B1 := Bx.mk (HB.out.trans (k1.mono HB.out.size))
       have V1 := HV.out.keep (k1.block _ hl1)
       have v0 := V1.c0
       have v1 := V1.c1
       have v2 := V1.c2
       have v3 := V1.c3
       have v4 := V1.c4
       have v5 := V1.c5
       have T1 := (k1.block _ hl2).trans HT.out
       have HM1 : Bx (Boxed w1 w.heap.size 57 (.slice a n c)) := ⟨(k1.block _ hl0).trans HM0.out⟩
       have HT1 : Bx (Boxed w1 (w.heap.size + 1 + 1) 123 (.slice none 0 0)) := ⟨T1⟩
       have T1c := HT1.out.cell
       have T1f := HT1.out.frozen
       clear k1 V1 T1
       cases b1)
    | (go_at_call 63; refine (H2.out w1).mono ?_; clear H2; rintro e w2 ⟨rfl, k2⟩
       have B2 := Bx.mk (B1.out.trans (k2.mono B1.out.size))
       have HT2 : Bx (Boxed w2 (w.heap.size + 1 + 1) 123 (.slice none 0 0)) := ⟨(k2.block _ HT1.out.lt).trans HT1.out⟩
       have T2c := HT2.out.cell
       have m2 : w2.cell? ⟨w.heap.size, 0, none⟩ = some (.slice a n c) := (cell_same (k2.block _ HM1.out.lt)).trans HM1.out.cell
       have T2f := HT2.out.frozen
       clear k2
       cases b2))
  all_goals go_wp2_with fail
  · have hc := (HT1.out.set (.slice none 0 0)).cell
    have HBF := Bx.mk (B1.out.setCell (p := ⟨w.heap.size + 1 + 1, 0, none⟩) (by show w.heap.size ≤ w.heap.size + 1 + 1; omega) (.slice none 0 0))
    refine bodyPost_ret_by (v := .tuple #[.agg #[.slice none 0 0], .int .i64 1]) (by simp [results, Try.results101, go_sem, hc]) rfl ?_
    exact ⟨.inr ⟨fun h => Bool.noConfusion (HB1.out.2 h.1), rfl⟩, HBF.out⟩
  · have hc := (HT2.out.set (.slice none 0 0)).cell
    have HBF := Bx.mk (B2.out.setCell (p := ⟨w.heap.size + 1 + 1, 0, none⟩) (by show w.heap.size ≤ w.heap.size + 1 + 1; omega) (.slice none 0 0))
    refine bodyPost_ret_by (v := .tuple #[.agg #[.slice none 0 0], .int .i64 1]) (by simp [results, Try.results101, go_sem, hc]) rfl ?_
    exact ⟨.inr ⟨fun h => Bool.noConfusion (HB2.out.2 h.2), rfl⟩, HBF.out⟩
  · have hc := (HT2.out.set (.slice a n c)).cell
    have HBF := Bx.mk (B2.out.setCell (p := ⟨w.heap.size + 1 + 1, 0, none⟩) (by show w.heap.size ≤ w.heap.size + 1 + 1; omega) (.slice a n c))
    refine bodyPost_ret_by (v := .tuple #[.agg #[.slice a n c], .int .i64 0]) (by simp [results, Try.results101, go_sem, hc]) rfl ?_
    exact ⟨.inl ⟨HB1.out.1 (by simp), HB2.out.1 (by simp), rfl⟩, HBF.out⟩
end Go.Proofs.Ytnbamjoadankmaa
/- The program's temper: the image of an interval. -/
namespace Go.Proofs.Ytnbamjoadankmaa
open Go.RowKit D
/-- The image of an interval. -/
def img (M : Nat → Nat → Int) (v : Nat → Int) (i : Nat) : Int := sm 6 (fun j => M i j * v j)
theorem sm6_bound {f : Nat → Int} {B : Nat} (h : ∀ j, j < 6 → (f j).natAbs ≤ B) : ∀ l, l ≤ 6 → (sm l f).natAbs ≤ l * B := by
  intro l
  induction l with
  | zero => intro _; simp [sm]
  | succ l ih =>
    intro hl
    have a := ih (by omega)
    have b := h l (by omega)
    show (sm l f + f l).natAbs ≤ (l + 1) * B
    rw [Nat.add_mul, Nat.one_mul]
    omega
theorem img_boxes (w : World) (a : Option Addr) (n c : Nat) (v : Nat → Int) : ∀ W, (w.alloc (.cells #[.slice a n c] 123)).alloc (.cells #[.int .i64 (v 0), .int .i64 (v 1), .int .i64 (v 2), .int .i64 (v 3), .int .i64 (v 4), .int .i64 (v 5)] 36) = W → Boxed W w.heap.size 123 (.slice a n c) ∧ VB W (w.heap.size + 1) v ∧ Below w.heap.size w W ∧ W.heap.size = w.heap.size + 2 := by
  rintro W rfl
  have h0 := Boxed.new w 123 (.slice a n c)
  have h1 := VB.new (w.alloc (.cells #[.slice a n c] 123)) v
  simp only [World.size_alloc] at h1
  exact ⟨(((Below.refl _ (w.alloc (.cells #[.slice a n c] 123))).alloc (Nat.le_refl _) (.cells #[.int .i64 (v 0), .int .i64 (v 1), .int .i64 (v 2), .int .i64 (v 3), .int .i64 (v 4), .int .i64 (v 5)] 36)).block _ (by simp)).trans h0, h1, ((Below.refl _ w).alloc (Nat.le_refl _) _).alloc (by simp) _, by simp⟩
set_option maxRecDepth 100000 in
set_option maxHeartbeats 16000000 in
theorem image_any (a : Option Addr) (n c : Nat) (M : Nat → Nat → Int) (v : Nat → Int) (w : World) (hc1 : n ≤ c) (hR : CV w a n M) (hM : Tm M n) (hv : Iv v) :
    Calls Try.prog 102 #[.agg #[.slice a n c], PV v] w fun e w' => ∃ ao cc, e = .returned (.slice ao n cc) ∧ n ≤ cc ∧ cc ≤ maxLen ∧ Bx (CI w' ao ((List.range n).map (img M v))) ∧ Bx (Below w.heap.size w w') ∧ Bx (∀ ad, ao = some ad → w.heap.size ≤ ad.block) := by
  obtain ⟨ti, hti, hti2⟩ := Option.map_eq_some_iff.1 info_int
  simp only [Prod.mk.injEq] at hti2
  obtain ⟨hz0, hz1, hz2⟩ := hti2
  have HTI := Bx.mk hti
  obtain ⟨W, hW⟩ : ∃ W, (w.alloc (.cells #[.slice a n c] 123)).alloc (.cells #[.int .i64 (v 0), .int .i64 (v 1), .int .i64 (v 2), .int .i64 (v 3), .int .i64 (v 4), .int .i64 (v 5)] 36) = W := ⟨_, rfl⟩
  obtain ⟨h0, h1, hb, hs⟩ := img_boxes w a n c v W hW
  have m0 := h0.cell
  have HV := Bx.mk h1
  have HB := Bx.mk hb
  have HS := Bx.mk hs
  have HR := Bx.mk (hR.keep hb)
  have HM := Bx.mk hM
  have HI := Bx.mk hv
  have hn3 := hM.three
  clear hti h0 h1 hb hR hM hv hs
  unfold PV
  go_enter Try.func102, Try.ntmps102
  go_wp2_with fail
  try rw [hW]
  clear hW
  go_loopw [15, 5] (fun ix lst wr => ∃ k : Nat, k ≤ n ∧ ix = .int .i64 k ∧ Bx (wr.ownsRow W.heap.size 3 1 lst k ((List.range k).map fun i => .int .i64 (img M v i))) ∧ Bx (Below W.heap.size W wr)) (fun ix _ _ => n - (intOf ix).toNat)
  case atStart => exact ⟨0, by omega, rfl, ⟨World.ownsRow_nil _ _ _ _⟩, ⟨Below.refl _ _⟩⟩
  case round =>
    obtain ⟨k, hk, rfl, HO, HBr⟩ := hrel
    have hsr := HBr.out.size
    by_cases hlt : k < n
    · obtain ⟨b6, o6, rfl, hb6, hcr⟩ := HR.out (by omega)
      obtain ⟨a0, a1, a2, a3, a4, a5⟩ := row_six hcr hb6 HBr.out hlt
      have hki : (k : Int) < (n : Int) := by omega
      clear hcr
      obtain ⟨x, hx⟩ : ∃ x, M k = x := ⟨_, rfl⟩
      rw [hx] at a0 a1 a2 a3 a4 a5
      have HX := Bx.mk hx
      have HV1 := Bx.mk ((HV.out.keep (HBr.out.block _ HV.out.lt)).keep ((above_new wr (.cells #[.int .i64 (x 0), .int .i64 (x 1), .int .i64 (x 2), .int .i64 (x 3), .int .i64 (x 4), .int .i64 (x 5)] 36)).block (w.heap.size + 1) (by have := HS.out; omega)))
      have HBa := Bx.mk (HBr.out.trans ((above_new wr (.cells #[.int .i64 (x 0), .int .i64 (x 1), .int .i64 (x 2), .int .i64 (x 3), .int .i64 (x 4), .int .i64 (x 5)] 36)).mono hsr))
      have HXB : Bx (∀ j, j < 6 → (x j * v j).natAbs ≤ 19200) := ⟨fun j hj => by
        have p1 := HM.out.ent k hlt j hj
        rw [hx] at p1
        have p2 := HI.out j hj
        rw [Int.natAbs_mul]
        exact Nat.mul_le_mul (show (x j).natAbs ≤ 400 by omega) (show (v j).natAbs ≤ 48 by omega)⟩
      have hsa : (wr.alloc (.cells #[.int .i64 (x 0), .int .i64 (x 1), .int .i64 (x 2), .int .i64 (x 3), .int .i64 (x 4), .int .i64 (x 5)] 36)).heap.size = wr.heap.size + 1 := by simp
      clear hx
      go_wp2_with fail
      obtain ⟨Wa, hWa⟩ : ∃ Wa, wr.alloc (.cells #[.int .i64 (x 0), .int .i64 (x 1), .int .i64 (x 2), .int .i64 (x 3), .int .i64 (x 4), .int .i64 (x 5)] 36) = Wa := ⟨_, rfl⟩
      rw [hWa] at HV1 HBa hsa
      try rw [hWa]
      have HOa := Bx.mk (own_keep HO.out (fun q e _ => (show Below wr.heap.size wr Wa by rw [← hWa]; exact above_new wr _).block q (own_lt HO.out q e).2))
      clear hWa
      go_loopw [20, 8] (fun jx s wz => ∃ l : Nat, l ≤ 6 ∧ jx = .int .i64 l ∧ s = .int .i64 (sm l (fun j => x j * v j)) ∧ Wa = wz) (fun jx _ _ => 6 - (intOf jx).toNat)
      case atStart => exact ⟨0, by omega, rfl, rfl, rfl⟩
      case round =>
        obtain ⟨l, hl, rfl, rfl, rfl⟩ := hrel
        by_cases hl6 : l < 6
        · have hl6' : (l : Int) < 6 := by omega
          have q0 := VBk HV1.out hl6
          have b1 := HXB.out l hl6
          have b2 := sm6_bound HXB.out l hl
          obtain ⟨P, hP⟩ : ∃ P, v l = P := ⟨_, rfl⟩
          obtain ⟨y, hy⟩ : ∃ y, x l = y := ⟨_, rfl⟩
          have hix := index_six x hl6 y hy
          obtain ⟨S, hS⟩ : ∃ S, sm l (fun j => x j * v j) = S := ⟨_, rfl⟩
          rw [hP] at q0
          rw [hP, hy] at b1
          rw [hS] at b2
          obtain ⟨Q, hQ⟩ : ∃ Q, y * P = Q := ⟨_, rfl⟩
          rw [hQ] at b1
          have HSQ := Bx.mk (show sm (l + 1) (fun j => x j * v j) = S + Q by
            show sm l (fun j => x j * v j) + x l * v l = S + Q
            rw [hS, hP, hy, hQ])
          have r1 : IntKind.i64.wrap Q = Q := by rw [IntWalk.i64_in] <;> omega
          have r2 : wrap64 Q = Q := by unfold wrap64; omega
          have r3 : IntKind.i64.wrap (S + Q) = S + Q := by rw [IntWalk.i64_in] <;> omega
          have r4 : wrap64 (S + Q) = S + Q := by unfold wrap64; omega
          rw [hS]
          clear hP hy hS
          go_wp2_with fail
          exact ⟨⟨l + 1, by omega, by go_num, by rw [HSQ.out], by trivial⟩, by simp [intOf]; omega⟩
        · obtain rfl : l = 6 := by omega
          obtain ⟨S, hS⟩ : ∃ S, sm 6 (fun j => x j * v j) = S := ⟨_, rfl⟩
          have HIS := Bx.mk (show img M v k = S by unfold img; rw [HX.out, hS])
          rw [hS]
          clear hS
          have hza : Wa.heap.size ≤ (Wa.alloc (.cells #[.int .i64 S] 3)).heap.size := by simp
          have HOb := Bx.mk (own_keep HOa.out (fun q e _ => (above_new Wa (.cells #[.int .i64 S] 3)).block q (own_lt HOa.out q e).2))
          have hzb : W.heap.size ≤ (Wa.alloc (.cells #[.int .i64 S] 3)).heap.size := Nat.le_trans HBa.out.size hza
          go_wp2_with (at_builtin; refine wpList_append_any rfl (.tmp 32) (.tmp 34) 29 rfl W.heap.size 3 ti (.int .i64 0) 1 8 Try.underlying29 HTI.out hz0 hz1 hz2 rfl (by decide) _ _ _ rfl HOb.out _ 1 _ [.int .i64 S] rfl rfl (by intro h; cases h) (by have e := news_one Wa S; rw [hsa] at e; exact e) one_cell (by unfold maxLen; omega) (by omega) hzb ?_)
          intro v8 w8 ho8 hg8
          have HB8 := Bx.mk (Below.grown (HBa.out.trans ((above_new Wa (.cells #[.int .i64 S] 3)).mono HBa.out.size)) hg8 hzb (fun b hb => (own_lt HOa.out b hb).1))
          rw [← HIS.out, ci_snoc] at ho8
          have HO8 := Bx.mk ho8
          clear ho8 hg8
          go_wp2_with fail
          exact ⟨⟨k + 1, by omega, by go_num, HO8, HB8⟩, by simp [intOf]; omega⟩
    · obtain rfl : k = n := by omega
      go_wp2_with fail
      go_ret
      obtain ⟨ao, cc, e1, e2, e3, e4⟩ := ci_of_range HO.out
      have hown := own_lt HO.out
      rw [e1] at hown
      exact ⟨ao, cc, by rw [e1]; rfl, e2, e3, ⟨e4⟩, ⟨HB.out.trans (HBr.out.mono HB.out.size)⟩, ⟨fun ad h => Nat.le_trans HB.out.size (hown ad.block (by rw [h]; rfl)).1⟩⟩
end Go.Proofs.Ytnbamjoadankmaa
/- The program's temper: Image and Tempers. -/
namespace Go.Proofs.Ytnbamjoadankmaa
open Go.RowKit D
theorem map_boxes (w : World) (a : Option Addr) (n c : Nat) (v : Nat → Int) : ∀ W, (w.alloc (.cells #[.slice a n c] 57)).alloc (.cells #[.int .i64 (v 0), .int .i64 (v 1), .int .i64 (v 2), .int .i64 (v 3), .int .i64 (v 4), .int .i64 (v 5)] 36) = W → Boxed W w.heap.size 57 (.slice a n c) ∧ VB W (w.heap.size + 1) v ∧ Below w.heap.size w W ∧ W.heap.size = w.heap.size + 2 := by
  rintro W rfl
  have h0 := Boxed.new w 57 (.slice a n c)
  have h1 := VB.new (w.alloc (.cells #[.slice a n c] 57)) v
  simp only [World.size_alloc] at h1
  exact ⟨(((Below.refl _ (w.alloc (.cells #[.slice a n c] 57))).alloc (Nat.le_refl _) (.cells #[.int .i64 (v 0), .int .i64 (v 1), .int .i64 (v 2), .int .i64 (v 3), .int .i64 (v 4), .int .i64 (v 5)] 36)).block _ (by simp)).trans h0, h1, ((Below.refl _ w).alloc (Nat.le_refl _) _).alloc (by simp) _, by simp⟩
/-- What Image answers. -/
def ImgOut (M : Nat → Nat → Int) (n : Nat) (v : Nat → Int) (e : Ending) (w' : World) : Prop :=
  (Tm M n ∧ Iv v ∧ ∃ ao cc, e = .returned (.tuple #[.slice ao n cc, .int .i64 0]) ∧ n ≤ cc ∧ cc ≤ maxLen ∧ Bx (CI w' ao ((List.range n).map (img M v)))) ∨ (¬ (Tm M n ∧ Iv v) ∧ e = .returned (.tuple #[.slice none 0 0, .int .i64 1]))
set_option maxRecDepth 100000 in
set_option maxHeartbeats 8000000 in
theorem Image_any (a : Option Addr) (n c : Nat) (M : Nat → Nat → Int) (v : Nat → Int) (w : World) (hc1 : n ≤ c) (hc2 : c ≤ maxLen) (hR : CV w a n M) :
    Calls Try.prog 49 #[.agg #[.slice a n c], PV v] w fun e w' => ImgOut M n v e w' ∧ Bx (Below w.heap.size w w') := by
  obtain ⟨W, hW⟩ : ∃ W, (w.alloc (.cells #[.slice a n c] 57)).alloc (.cells #[.int .i64 (v 0), .int .i64 (v 1), .int .i64 (v 2), .int .i64 (v 3), .int .i64 (v 4), .int .i64 (v 5)] 36) = W := ⟨_, rfl⟩
  obtain ⟨h0, hv, hb, hs⟩ := map_boxes w a n c v W hW
  have m0 := h0.cell
  have v0 := hv.c0
  have v1 := hv.c1
  have v2 := hv.c2
  have v3 := hv.c3
  have v4 := hv.c4
  have v5 := hv.c5
  have HV := Bx.mk hv
  have hvl := hv.lt
  have HB := Bx.mk hb
  have H1 := Bx.mk (tfor_any a n c M v W hc1 hc2 (hR.keep hb))
  have HR := Bx.mk hR
  have H2 := Bx.mk (fun w => image_any a n c M v w hc1)
  unfold PV at H1 H2 ⊢
  clear hR hv h0 hb
  go_enter Try.func49, Try.ntmps49
  go_wp2_with (first
    | (go_at_call 101; refine H1.out.mono ?_; clear H1 hW; rintro e w1 ⟨ho, k1⟩
       have B1 := Bx.mk (HB.out.trans (k1.mono HB.out.size))
       have X1 := Boxed.new w1 123 (.slice a n c)
       have X1c := X1.cell
       have BA := Bx.mk (above_new w1 (.cells #[.slice a n c] 123))
       have BN := Bx.mk (above_new w1 (.cells #[.slice none 0 0] 123))
       have VA := (HV.out.keep (k1.block _ hvl)).keep (BA.out.block _ (Nat.lt_of_lt_of_le hvl k1.size))
       have v0 := VA.c0
       have v1 := VA.c1
       have v2 := VA.c2
       have v3 := VA.c3
       have v4 := VA.c4
       have v5 := VA.c5
       clear k1 X1 VA
       rcases ho with ⟨ht, hi, rfl⟩ | ⟨hno, rfl⟩)
    | (go_at_call 102; refine (H2.out (w1.alloc (.cells #[.slice a n c] 123)) (HR.out.keep (B1.out.trans (BA.out.mono B1.out.size))) ht hi).mono ?_; clear H2; rintro e w2 ⟨ao, cc, rfl, e2, e3, e4, k2, _⟩))
  all_goals go_wp2_with fail
  · refine bodyPost_ret_by (v := .tuple #[.slice ao n cc, .int .i64 0]) (by simp [results, Try.results49, go_sem]) rfl ?_
    have hq := B1.out.trans (BA.out.mono B1.out.size)
    exact ⟨.inl ⟨ht, hi, ao, cc, rfl, e2, e3, e4⟩, ⟨hq.trans (k2.out.mono hq.size)⟩⟩
  · refine bodyPost_ret_by (v := .tuple #[.slice none 0 0, .int .i64 1]) (by simp [results, Try.results49, go_sem]) rfl ?_
    exact ⟨.inr ⟨hno, rfl⟩, ⟨B1.out.trans (BN.out.mono B1.out.size)⟩⟩
theorem ci_cells {w : World} {ao : Option Addr} {n : Nat} {f : Nat → Int} (h : CI w ao ((List.range n).map f)) (hn : 0 < n) : ∃ bb o, ao = some ⟨bb, o, none⟩ ∧ bb < w.heap.size ∧ ∀ j, j < n → w.cell? ⟨bb, o + j, none⟩ = some (.int .i64 (f j)) := by
  obtain ⟨b, o, e, hb, hc⟩ := h (by intro e; have := congrArg List.length e; simp at this; omega)
  refine ⟨b, o, e, hb, fun j hj => ?_⟩
  rw [hc j (by simpa using hj)]
  simp [List.getD, hj]
/-- What Tempers answers. -/
def TmpOut (M : Nat → Nat → Int) (n : Nat) (v : Nat → Int) (e : Ending) : Prop :=
  (Tm M n ∧ Iv v ∧ ∃ b : Bool, (b = true ↔ ∀ i, i < n → img M v i = 0) ∧ e = .returned (.tuple #[.bool b, .int .i64 0])) ∨ (¬ (Tm M n ∧ Iv v) ∧ e = .returned (.tuple #[.bool false, .int .i64 1]))
set_option maxRecDepth 100000 in
set_option maxHeartbeats 8000000 in
theorem Tempers_any (a : Option Addr) (n c : Nat) (M : Nat → Nat → Int) (v : Nat → Int) (w : World) (hc1 : n ≤ c) (hc2 : c ≤ maxLen) (hR : CV w a n M) :
    Calls Try.prog 52 #[.agg #[.slice a n c], PV v] w fun e w' => TmpOut M n v e ∧ Bx (Below w.heap.size w w') := by
  obtain ⟨W, hW⟩ : ∃ W, (w.alloc (.cells #[.slice a n c] 57)).alloc (.cells #[.int .i64 (v 0), .int .i64 (v 1), .int .i64 (v 2), .int .i64 (v 3), .int .i64 (v 4), .int .i64 (v 5)] 36) = W := ⟨_, rfl⟩
  obtain ⟨h0, hv, hb, hs⟩ := map_boxes w a n c v W hW
  have m0 := h0.cell
  have v0 := hv.c0
  have v1 := hv.c1
  have v2 := hv.c2
  have v3 := hv.c3
  have v4 := hv.c4
  have v5 := hv.c5
  have HV := Bx.mk hv
  have hvl := hv.lt
  have HB := Bx.mk hb
  have H1 := Bx.mk (tfor_any a n c M v W hc1 hc2 (hR.keep hb))
  have HR := Bx.mk hR
  have H2 := Bx.mk (fun w => image_any a n c M v w hc1)
  unfold PV at H1 H2 ⊢
  clear hR hv h0 hb
  go_enter Try.func52, Try.ntmps52
  go_wp2_with (first
    | (go_at_call 101; refine H1.out.mono ?_; clear H1 hW; rintro e w1 ⟨ho, k1⟩
       have B1 := Bx.mk (HB.out.trans (k1.mono HB.out.size))
       have X1 := Boxed.new w1 123 (.slice a n c)
       have X1c := X1.cell
       have BA := Bx.mk (above_new w1 (.cells #[.slice a n c] 123))
       have BN := Bx.mk (above_new w1 (.cells #[.slice none 0 0] 123))
       have VA := (HV.out.keep (k1.block _ hvl)).keep (BA.out.block _ (Nat.lt_of_lt_of_le hvl k1.size))
       have v0 := VA.c0
       have v1 := VA.c1
       have v2 := VA.c2
       have v3 := VA.c3
       have v4 := VA.c4
       have v5 := VA.c5
       clear k1 X1 VA
       rcases ho with ⟨ht, hi, rfl⟩ | ⟨hno, rfl⟩)
    | (go_at_call 102; refine (H2.out (w1.alloc (.cells #[.slice a n c] 123)) (HR.out.keep (B1.out.trans (BA.out.mono B1.out.size))) ht hi).mono ?_; clear H2; rintro e w2 ⟨ao, cc, rfl, e2, e3, e4, k2, _⟩
       have B2 := Bx.mk ((B1.out.trans (BA.out.mono B1.out.size)).trans (k2.out.mono (B1.out.trans (BA.out.mono B1.out.size)).size))
       obtain ⟨b, hb⟩ := bool_of (∀ i, i < n → img M v i = 0)
       have HBB := Bx.mk hb
       obtain ⟨bb, o, rfl, hbb, hcells⟩ := ci_cells e4.out ht.some
       have HZ := Bx.mk (all_zero bb o n cc (img M v) w2 (by have := ht.three; omega) e2 hbb hcells b hb)
       clear hb e4 hcells k2)
    | (go_at_call 99; refine HZ.out.mono ?_; clear HZ; rintro e w3 ⟨rfl, k3⟩))
  all_goals go_wp2_with fail
  · refine bodyPost_ret_by (v := .tuple #[.bool b, .int .i64 0]) (by simp [results, Try.results52, go_sem]) rfl ?_
    exact ⟨.inl ⟨ht, hi, b, HBB.out, rfl⟩, ⟨B2.out.trans (k3.mono B2.out.size)⟩⟩
  · refine bodyPost_ret_by (v := .tuple #[.bool false, .int .i64 1]) (by simp [results, Try.results52, go_sem]) rfl ?_
    exact ⟨.inr ⟨hno, rfl⟩, ⟨B1.out.trans (BN.out.mono B1.out.size)⟩⟩
end Go.Proofs.Ytnbamjoadankmaa
/- The program's temper: Kernel. -/
namespace Go.Proofs.Ytnbamjoadankmaa
open Go.RowKit D
theorem map_box (w : World) (a : Option Addr) (n c : Nat) : ∀ W, w.alloc (.cells #[.slice a n c] 57) = W → Boxed W w.heap.size 57 (.slice a n c) ∧ Below w.heap.size w W ∧ W.heap.size = w.heap.size + 1 := by
  rintro W rfl
  exact ⟨Boxed.new w 57 (.slice a n c), (Below.refl _ w).alloc (Nat.le_refl _) _, by simp⟩
/-- What temper.Kernel answers. -/
def TkOut (M : Nat → Nat → Int) (n : Nat) (e : Ending) (w' : World) : Prop :=
  (Tm M n ∧ KerOut M n e w') ∨ (¬ Tm M n ∧ e = .returned (.tuple #[.slice none 0 0, .int .i64 1]))
set_option maxRecDepth 100000 in
set_option maxHeartbeats 8000000 in
theorem TKernel_any (a : Option Addr) (n c : Nat) (M : Nat → Nat → Int) (w : World) (hc1 : n ≤ c) (hc2 : c ≤ maxLen) (hR : CV w a n M) :
    Calls Try.prog 54 #[.agg #[.slice a n c]] w fun e w' => TkOut M n e w' ∧ Bx (Below w.heap.size w w') := by
  obtain ⟨W, hW⟩ : ∃ W, w.alloc (.cells #[.slice a n c] 57) = W := ⟨_, rfl⟩
  obtain ⟨h0, hb, hs⟩ := map_box w a n c W hW
  have m0 := h0.cell
  have HM := Bx.mk h0
  have hl := h0.lt
  have HB := Bx.mk hb
  have HR := Bx.mk hR
  have H2 := Bx.mk (fun w => kernel_pub a n c M w hc1 hc2)
  by_cases ht : Tm M n
  · have H1 := Bx.mk (tvalid_any a n c M W hc1 hc2 (hR.keep hb) true (by simp [ht]))
    have HT := Bx.mk ht
    clear hR h0 hb ht hs
    go_enter Try.func54, Try.ntmps54
    go_wp2_with (first
      | (go_at_call 47; refine H1.out.mono ?_; clear H1 hW; rintro e w1 ⟨rfl, k1⟩
         have B1 := Bx.mk (HB.out.trans (k1.mono HB.out.size))
         have m1 : w1.cell? ⟨w.heap.size, 0, none⟩ = some (.slice a n c) := (cell_same (k1.block _ hl)).trans HM.out.cell
         clear k1)
      | (go_at_call 24; refine (H2.out w1 (HR.out.keep B1.out)).mono ?_; clear H2; rintro e w2 ⟨(⟨hno, rfl⟩ | ⟨hv, ho, hc, q, O, p, rfl, hcv, hqc, hcm, hq6, hO, h1, h2⟩), k2⟩))
    all_goals go_wp2_with fail
    · exact absurd HT.out.vm hno
    · refine bodyPost_ret_by (v := .tuple #[.slice ho q hc, .int .i64 0]) (by simp [results, Try.results54, go_sem]) rfl ?_
      exact ⟨.inl ⟨HT.out, .inr ⟨hv, ho, hc, q, O, p, rfl, hcv, hqc, hcm, hq6, hO, h1, h2⟩⟩, ⟨B1.out.trans (k2.mono B1.out.size)⟩⟩
  · have H1 := Bx.mk (tvalid_any a n c M W hc1 hc2 (hR.keep hb) false (by simp [ht]))
    have HT := Bx.mk ht
    clear hR h0 hb ht hs
    go_enter Try.func54, Try.ntmps54
    go_wp2_with (first
      | (go_at_call 47; refine H1.out.mono ?_; clear H1 hW; rintro e w1 ⟨rfl, k1⟩
         have B1 := Bx.mk (HB.out.trans (k1.mono HB.out.size))
         clear k1))
    refine bodyPost_ret_by (v := .tuple #[.slice none 0 0, .int .i64 1]) (by simp [results, Try.results54, go_sem]) rfl ?_
    exact ⟨.inr ⟨HT.out, rfl⟩, B1⟩
end Go.Proofs.Ytnbamjoadankmaa
