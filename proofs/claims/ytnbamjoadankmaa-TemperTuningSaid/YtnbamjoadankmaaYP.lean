/- The program's temper: all over pitches. -/
import Derived.Test.YtnbamjoadankmaaYK
import Derived.Test.YtnbamjoadankmaaWS
namespace Go.Proofs.Ytnbamjoadankmaa
open Go.RowKit D
set_option maxRecDepth 100000 in
set_option maxHeartbeats 4000000 in
theorem not_pitch (x : Nat → Int) (fb : Nat) (w : World) (hfb : fb < w.heap.size) (hf : w.cell? ⟨fb, 0, none⟩ = some (.func (.func 108) #[] #[])) (b : Bool) (hb : b = true ↔ Pv x) : Calls Try.prog 142 #[PV x, .pointer (some ⟨fb, 0, none⟩)] w fun e w' => e = .returned (.bool (!b)) ∧ Below w.heap.size w w' := by
  have hA := above_new w (.cells #[.int .i64 (x 0), .int .i64 (x 1), .int .i64 (x 2), .int .i64 (x 3), .int .i64 (x 4), .int .i64 (x 5)] 65)
  have hV := VT.new w 65 x
  have f0 : (w.alloc (.cells #[.int .i64 (x 0), .int .i64 (x 1), .int .i64 (x 2), .int .i64 (x 3), .int .i64 (x 4), .int .i64 (x 5)] 65)).cell? ⟨fb, 0, none⟩ = some (.func (.func 108) #[] #[]) := (cell_same (hA.block fb hfb)).trans hf
  have v0 := hV.c0
  have v1 := hV.c1
  have v2 := hV.c2
  have v3 := hV.c3
  have v4 := hV.c4
  have v5 := hV.c5
  have HA := Bx.mk hA
  have PF := Bx.mk (fun w => pitchvalid_any x w b hb)
  unfold PV at PF ⊢
  clear hb hV hA hf
  go_enter Try.func142, Try.ntmps142
  go_wp2_with (go_at_call 108; refine (PF.out _).mono ?_; rintro e w2 ⟨rfl, k2⟩)
  go_ret
  exact ⟨rfl, HA.out.trans (k2.mono HA.out.size)⟩
theorem bad_pitch (G : Nat → Nat → Int) : ∀ n, ∃ p, p ≤ n ∧ (∀ j, j < p → Pv (G j)) ∧ (p < n → ¬ Pv (G p))
  | 0 => ⟨0, Nat.le_refl _, fun j hj => by omega, fun h => by omega⟩
  | n + 1 => by
    obtain ⟨p, a, b, c⟩ := bad_pitch G n
    by_cases e : p < n
    · exact ⟨p, by omega, b, fun _ => c e⟩
    · obtain rfl : p = n := by omega
      by_cases x : Pv (G p)
      · refine ⟨p + 1, by omega, fun j hj => ?_, fun h => by omega⟩
        by_cases y : j = p
        · rw [y]; exact x
        · exact b j (by omega)
      · exact ⟨p, by omega, b, fun _ => x⟩
set_option maxRecDepth 100000 in
set_option maxHeartbeats 8000000 in
theorem indexf_pitch (go : Option Addr) (n c fb : Nat) (G : Nat → Nat → Int) (w : World) (hn : n ≤ 1000) (hcn : n ≤ c) (hS : CV w go n G) (hfb : fb < w.heap.size) (hf : w.cell? ⟨fb, 0, none⟩ = some (.func (.func 108) #[] #[])) (p : Nat) (hp : p ≤ n) (h0 : ∀ j, j < p → Pv (G j)) (h1 : p < n → ¬ Pv (G p)) :
    Calls Try.prog 157 #[.slice go n c, .func (.func 142) #[] #[.pointer (some ⟨fb, 0, none⟩)]] w fun e w' => e = .returned (.int .i64 (if p < n then (p : Int) else -1)) ∧ Below w.heap.size w w' := by
  have H0 := Bx.mk h0
  have H1 := Bx.mk h1
  have HS := Bx.mk hS
  have HF := Bx.mk hf
  have HFB := Bx.mk hfb
  clear h0 h1 hS hf hfb
  go_enter Try.func157, Try.ntmps157
  go_wp2_with fail
  go_loopw [8] (fun ix wr => ∃ i : Nat, i ≤ p ∧ ix = .int .i64 i ∧ Bx (Below w.heap.size w wr)) (fun ix _ => n + 1 - (intOf ix).toNat)
  case atStart => exact ⟨0, by omega, rfl, ⟨Below.refl _ _⟩⟩
  case round =>
    obtain ⟨i, hi, rfl, HB⟩ := hrel
    by_cases hi6 : i < n
    · obtain ⟨b6, o6, rfl, hb6, hcr⟩ := HS.out (by omega)
      obtain ⟨a0, a1, a2, a3, a4, a5⟩ := row_six hcr hb6 HB.out hi6
      have hin : (i : Int) < (n : Int) := by omega
      obtain ⟨x, hx⟩ : ∃ x, G i = x := ⟨_, rfl⟩
      rw [hx] at a0 a1 a2 a3 a4 a5
      have HX := Bx.mk hx
      clear hcr hx
      obtain ⟨b, hb⟩ := bool_of (Pv x)
      have HP := Bx.mk hb
      have HBA := HB
      have f1 := (HBA.out.cell (p := ⟨fb, 0, none⟩) HFB.out).trans HF.out
      have PF := Bx.mk (not_pitch x fb wr (Nat.lt_of_lt_of_le HFB.out HBA.out.size) f1 b hb)
      unfold PV at PF
      clear hb f1
      by_cases hip : i < p
      · obtain rfl : b = true := HP.out.2 (by rw [← HX.out]; exact H0.out i hip)
        go_wp2_with (go_at_call 142; refine PF.out.mono ?_; clear PF; rintro e w2 ⟨rfl, k2⟩; have B2 := Bx.mk (HBA.out.trans (k2.mono HBA.out.size)); clear k2)
        exact ⟨⟨i + 1, by omega, by go_num, B2⟩, by simp [intOf]; omega⟩
      · obtain rfl : i = p := by omega
        obtain rfl : b = false := by
          cases b with
          | false => rfl
          | true => exact absurd (by rw [HX.out]; exact HP.out.1 rfl) (H1.out hi6)
        go_wp2_with (go_at_call 142; refine PF.out.mono ?_; clear PF; rintro e w2 ⟨rfl, k2⟩; have B2 := Bx.mk (HBA.out.trans (k2.mono HBA.out.size)); clear k2)
        go_ret
        exact ⟨by first | rfl | (rw [if_pos hi6]; rfl) | rw [if_pos hi6], B2.out⟩
    · obtain rfl : i = p := by omega
      obtain rfl : i = n := by omega
      go_wp2_with fail
      go_ret
      exact ⟨by first | rfl | (rw [if_neg hi6]; rfl) | rw [if_neg hi6], HB.out⟩
end Go.Proofs.Ytnbamjoadankmaa
/- The program's temper: all over pitches. -/
namespace Go.Proofs.Ytnbamjoadankmaa
open Go.RowKit D
set_option maxHeartbeats 4000000 in
theorem containsf_pitch (go : Option Addr) (n c fb : Nat) (G : Nat → Nat → Int) (w : World) (hn : n ≤ 1000) (hcn : n ≤ c) (hS : CV w go n G) (hfb : fb < w.heap.size) (hf : w.cell? ⟨fb, 0, none⟩ = some (.func (.func 108) #[] #[])) (b : Bool) (hb : b = true ↔ ∀ j, j < n → Pv (G j)) :
    Calls Try.prog 141 #[.slice go n c, .func (.func 142) #[] #[.pointer (some ⟨fb, 0, none⟩)]] w fun e w' => e = .returned (.bool (!b)) ∧ Below w.heap.size w w' := by
  obtain ⟨p, hp, h0, h1⟩ := bad_pitch G n
  have PI := Bx.mk (indexf_pitch go n c fb G w hn hcn hS hfb hf p hp h0 h1)
  by_cases hpn : p < n
  · obtain rfl : b = false := by
      cases b with
      | false => rfl
      | true => exact absurd (hb.1 rfl p hpn) (h1 hpn)
    rw [if_pos hpn] at PI
    have hge : (p : Int) ≥ 0 := by omega
    clear hS hf hb h0 h1
    go_enter Try.func141, Try.ntmps141
    go_wp2_with (go_at_call 157; refine PI.out.mono ?_; rintro e w2 ⟨rfl, k2⟩)
    go_ret
    exact ⟨by simp, k2⟩
  · obtain rfl : b = true := hb.2 fun j hj => h0 j (by omega)
    rw [if_neg hpn] at PI
    clear hS hf hb h0 h1
    go_enter Try.func141, Try.ntmps141
    go_wp2_with (go_at_call 157; refine PI.out.mono ?_; rintro e w2 ⟨rfl, k2⟩)
    go_ret
    exact ⟨by simp, k2⟩
set_option maxHeartbeats 4000000 in
theorem all_pitch (go : Option Addr) (n c : Nat) (G : Nat → Nat → Int) (w : World) (hn : n ≤ 1000) (hcn : n ≤ c) (hS : CV w go n G) (b : Bool) (hb : b = true ↔ ∀ j, j < n → Pv (G j)) :
    Calls Try.prog 107 #[.slice go n c, .func (.func 108) #[] #[]] w fun e w' => e = .returned (.bool b) ∧ Below w.heap.size w w' := by
  have hfc := (Boxed.new w 129 (.func (.func 108) #[] #[])).cell
  have hfl := (Boxed.new w 129 (.func (.func 108) #[] #[])).lt
  have HA := Bx.mk ((Below.refl w.heap.size w).alloc (Nat.le_refl _) (.cells #[.func (.func 108) #[] #[]] 129))
  have PC := Bx.mk (containsf_pitch go n c w.heap.size G (w.alloc (.cells #[.func (.func 108) #[] #[]] 129)) hn hcn (hS.keep HA.out) hfl hfc b hb)
  clear hS hb hfc hfl
  go_enter Try.func107, Try.ntmps107
  go_wp2_with (go_at_call 141; refine PC.out.mono ?_; rintro e w2 ⟨rfl, k2⟩)
  go_ret
  exact ⟨by simp, HA.out.trans (k2.mono HA.out.size)⟩
end Go.Proofs.Ytnbamjoadankmaa
/- The program's temper: all over intervals. -/
namespace Go.Proofs.Ytnbamjoadankmaa
open Go.RowKit D
set_option maxRecDepth 100000 in
set_option maxHeartbeats 4000000 in
theorem not_vec (x : Nat → Int) (fb : Nat) (w : World) (hfb : fb < w.heap.size) (hf : w.cell? ⟨fb, 0, none⟩ = some (.func (.func 63) #[] #[])) (b : Bool) (hb : b = true ↔ Iv x) : Calls Try.prog 140 #[PV x, .pointer (some ⟨fb, 0, none⟩)] w fun e w' => e = .returned (.bool (!b)) ∧ Below w.heap.size w w' := by
  have hA := above_new w (.cells #[.int .i64 (x 0), .int .i64 (x 1), .int .i64 (x 2), .int .i64 (x 3), .int .i64 (x 4), .int .i64 (x 5)] 36)
  have hV := VT.new w 36 x
  have f0 : (w.alloc (.cells #[.int .i64 (x 0), .int .i64 (x 1), .int .i64 (x 2), .int .i64 (x 3), .int .i64 (x 4), .int .i64 (x 5)] 36)).cell? ⟨fb, 0, none⟩ = some (.func (.func 63) #[] #[]) := (cell_same (hA.block fb hfb)).trans hf
  have v0 := hV.c0
  have v1 := hV.c1
  have v2 := hV.c2
  have v3 := hV.c3
  have v4 := hV.c4
  have v5 := hV.c5
  have HA := Bx.mk hA
  have PF := Bx.mk (fun w => interval_any x w b hb)
  unfold PV at PF ⊢
  clear hb hV hA hf
  go_enter Try.func140, Try.ntmps140
  go_wp2_with (go_at_call 63; refine (PF.out _).mono ?_; rintro e w2 ⟨rfl, k2⟩)
  go_ret
  exact ⟨rfl, HA.out.trans (k2.mono HA.out.size)⟩
theorem bad_vec (G : Nat → Nat → Int) : ∀ n, ∃ p, p ≤ n ∧ (∀ j, j < p → Iv (G j)) ∧ (p < n → ¬ Iv (G p))
  | 0 => ⟨0, Nat.le_refl _, fun j hj => by omega, fun h => by omega⟩
  | n + 1 => by
    obtain ⟨p, a, b, c⟩ := bad_vec G n
    by_cases e : p < n
    · exact ⟨p, by omega, b, fun _ => c e⟩
    · obtain rfl : p = n := by omega
      by_cases x : Iv (G p)
      · refine ⟨p + 1, by omega, fun j hj => ?_, fun h => by omega⟩
        by_cases y : j = p
        · rw [y]; exact x
        · exact b j (by omega)
      · exact ⟨p, by omega, b, fun _ => x⟩
set_option maxRecDepth 100000 in
set_option maxHeartbeats 8000000 in
theorem indexf_vec (go : Option Addr) (n c fb : Nat) (G : Nat → Nat → Int) (w : World) (hn : n ≤ 1000) (hcn : n ≤ c) (hS : CV w go n G) (hfb : fb < w.heap.size) (hf : w.cell? ⟨fb, 0, none⟩ = some (.func (.func 63) #[] #[])) (p : Nat) (hp : p ≤ n) (h0 : ∀ j, j < p → Iv (G j)) (h1 : p < n → ¬ Iv (G p)) :
    Calls Try.prog 156 #[.slice go n c, .func (.func 140) #[] #[.pointer (some ⟨fb, 0, none⟩)]] w fun e w' => e = .returned (.int .i64 (if p < n then (p : Int) else -1)) ∧ Below w.heap.size w w' := by
  have H0 := Bx.mk h0
  have H1 := Bx.mk h1
  have HS := Bx.mk hS
  have HF := Bx.mk hf
  have HFB := Bx.mk hfb
  clear h0 h1 hS hf hfb
  go_enter Try.func156, Try.ntmps156
  go_wp2_with fail
  go_loopw [8] (fun ix wr => ∃ i : Nat, i ≤ p ∧ ix = .int .i64 i ∧ Bx (Below w.heap.size w wr)) (fun ix _ => n + 1 - (intOf ix).toNat)
  case atStart => exact ⟨0, by omega, rfl, ⟨Below.refl _ _⟩⟩
  case round =>
    obtain ⟨i, hi, rfl, HB⟩ := hrel
    by_cases hi6 : i < n
    · obtain ⟨b6, o6, rfl, hb6, hcr⟩ := HS.out (by omega)
      obtain ⟨a0, a1, a2, a3, a4, a5⟩ := row_six hcr hb6 HB.out hi6
      have hin : (i : Int) < (n : Int) := by omega
      obtain ⟨x, hx⟩ : ∃ x, G i = x := ⟨_, rfl⟩
      rw [hx] at a0 a1 a2 a3 a4 a5
      have HX := Bx.mk hx
      clear hcr hx
      obtain ⟨b, hb⟩ := bool_of (Iv x)
      have HP := Bx.mk hb
      have HBA := HB
      have f1 := (HBA.out.cell (p := ⟨fb, 0, none⟩) HFB.out).trans HF.out
      have PF := Bx.mk (not_vec x fb wr (Nat.lt_of_lt_of_le HFB.out HBA.out.size) f1 b hb)
      unfold PV at PF
      clear hb f1
      by_cases hip : i < p
      · obtain rfl : b = true := HP.out.2 (by rw [← HX.out]; exact H0.out i hip)
        go_wp2_with (go_at_call 140; refine PF.out.mono ?_; clear PF; rintro e w2 ⟨rfl, k2⟩; have B2 := Bx.mk (HBA.out.trans (k2.mono HBA.out.size)); clear k2)
        exact ⟨⟨i + 1, by omega, by go_num, B2⟩, by simp [intOf]; omega⟩
      · obtain rfl : i = p := by omega
        obtain rfl : b = false := by
          cases b with
          | false => rfl
          | true => exact absurd (by rw [HX.out]; exact HP.out.1 rfl) (H1.out hi6)
        go_wp2_with (go_at_call 140; refine PF.out.mono ?_; clear PF; rintro e w2 ⟨rfl, k2⟩; have B2 := Bx.mk (HBA.out.trans (k2.mono HBA.out.size)); clear k2)
        go_ret
        exact ⟨by first | rfl | (rw [if_pos hi6]; rfl) | rw [if_pos hi6], B2.out⟩
    · obtain rfl : i = p := by omega
      obtain rfl : i = n := by omega
      go_wp2_with fail
      go_ret
      exact ⟨by first | rfl | (rw [if_neg hi6]; rfl) | rw [if_neg hi6], HB.out⟩
set_option maxHeartbeats 4000000 in
theorem containsf_vec (go : Option Addr) (n c fb : Nat) (G : Nat → Nat → Int) (w : World) (hn : n ≤ 1000) (hcn : n ≤ c) (hS : CV w go n G) (hfb : fb < w.heap.size) (hf : w.cell? ⟨fb, 0, none⟩ = some (.func (.func 63) #[] #[])) (b : Bool) (hb : b = true ↔ ∀ j, j < n → Iv (G j)) :
    Calls Try.prog 139 #[.slice go n c, .func (.func 140) #[] #[.pointer (some ⟨fb, 0, none⟩)]] w fun e w' => e = .returned (.bool (!b)) ∧ Below w.heap.size w w' := by
  obtain ⟨p, hp, h0, h1⟩ := bad_vec G n
  have PI := Bx.mk (indexf_vec go n c fb G w hn hcn hS hfb hf p hp h0 h1)
  by_cases hpn : p < n
  · obtain rfl : b = false := by
      cases b with
      | false => rfl
      | true => exact absurd (hb.1 rfl p hpn) (h1 hpn)
    rw [if_pos hpn] at PI
    have hge : (p : Int) ≥ 0 := by omega
    clear hS hf hb h0 h1
    go_enter Try.func139, Try.ntmps139
    go_wp2_with (go_at_call 156; refine PI.out.mono ?_; rintro e w2 ⟨rfl, k2⟩)
    go_ret
    exact ⟨by simp, k2⟩
  · obtain rfl : b = true := hb.2 fun j hj => h0 j (by omega)
    rw [if_neg hpn] at PI
    clear hS hf hb h0 h1
    go_enter Try.func139, Try.ntmps139
    go_wp2_with (go_at_call 156; refine PI.out.mono ?_; rintro e w2 ⟨rfl, k2⟩)
    go_ret
    exact ⟨by simp, k2⟩
set_option maxHeartbeats 4000000 in
theorem all_vec (go : Option Addr) (n c : Nat) (G : Nat → Nat → Int) (w : World) (hn : n ≤ 1000) (hcn : n ≤ c) (hS : CV w go n G) (b : Bool) (hb : b = true ↔ ∀ j, j < n → Iv (G j)) :
    Calls Try.prog 106 #[.slice go n c, .func (.func 63) #[] #[]] w fun e w' => e = .returned (.bool b) ∧ Below w.heap.size w w' := by
  have hfc := (Boxed.new w 52 (.func (.func 63) #[] #[])).cell
  have hfl := (Boxed.new w 52 (.func (.func 63) #[] #[])).lt
  have HA := Bx.mk ((Below.refl w.heap.size w).alloc (Nat.le_refl _) (.cells #[.func (.func 63) #[] #[]] 52))
  have PC := Bx.mk (containsf_vec go n c w.heap.size G (w.alloc (.cells #[.func (.func 63) #[] #[]] 52)) hn hcn (hS.keep HA.out) hfl hfc b hb)
  clear hS hb hfc hfl
  go_enter Try.func106, Try.ntmps106
  go_wp2_with (go_at_call 139; refine PC.out.mono ?_; rintro e w2 ⟨rfl, k2⟩)
  go_ret
  exact ⟨by simp, HA.out.trans (k2.mono HA.out.size)⟩
end Go.Proofs.Ytnbamjoadankmaa
