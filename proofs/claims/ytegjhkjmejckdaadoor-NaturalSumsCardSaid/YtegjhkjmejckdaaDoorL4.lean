/- NaturalSums over three numbers. -/
import Derived.Test.YtegjhkjmejckdaaDoorT11
namespace Go.Proofs.YtegjhkjmejckdaaDoor
open Go.RowKit M
set_option maxHeartbeats 4000000 in
theorem sums_a1 {va vb vc : Value} {a b c : Nat} (w0 : World) (hL : Live w0 [(va, a), (vb, b), (vc, c)]) (h1 : Fits (a + b)) (h2 : Fits (a + b + c)) (h3 : Fits (b + c)) (h4 : Fits (a + (b + c))) :
    Calls Tryd.prog 4 #[va, vb, vc] w0 fun e w' => e = .returned (.bool true) ∧ Below w0.heap.size w0 w' := by
  have S : St w0 w0 [(va, a), (vb, b), (vc, c)] := ⟨Below.refl _ _, hL⟩
  have Bh1 := Bx.mk h1
  have Bh2 := Bx.mk h2
  have Bh3 := Bx.mk h3
  have Bh4 := Bx.mk h4
  clear hL h1 h2 h3 h4
  go_enter Tryd.func4, Tryd.ntmps4
  go_wp2_with fail
  refine Calls.mono (head_any _) ?_
  rintro e w1 ⟨rfl, hb⟩
  replace S := S.on hb
  clear hb
  go_wp2_with fail
  refine Calls.mono (three_ok (a := a) (b := b) (c := c) S.live (by simp) (by simp) (by simp)) ?_
  rintro e w1 ⟨rfl, rfl⟩
  go_wp2_with fail
  refine Calls.mono (add_ok (a := a) (b := b) S.live (by simp) (by simp) Bh1.out) ?_
  rintro e w1 ⟨vp, rfl, hl, hb⟩
  replace S := S.next hl hb
  clear hl hb
  go_wp2_with fail
  refine Calls.mono (add_ok (a := b) (b := a) S.live (by simp) (by simp) (by rw [Nat.add_comm]; exact Bh1.out)) ?_
  rintro e w1 ⟨vq, rfl, hl, hb⟩
  replace S := S.next hl hb
  clear hl hb
  go_wp2_with fail
  refine Calls.mono (same_yes (a := (a + b)) (b := (b + a)) S.live (by simp) (by simp) (Nat.add_comm a b)) ?_
  rintro e w1 ⟨rfl, hl, hb⟩
  replace S := S.next hl hb
  clear hl hb
  go_wp2_with fail
  refine Calls.mono (sub_ok (a := (a + b)) (b := b) S.live (by simp) (by simp) (Nat.le_add_left b a)) ?_
  rintro e w1 ⟨vk, rfl, hl, hb⟩
  replace S := S.next hl hb
  clear hl hb
  go_wp2_with fail
  refine Calls.mono (same_yes (a := (a + b - b)) (b := a) S.live (by simp) (by simp) (Nat.add_sub_cancel a b)) ?_
  rintro e w1 ⟨rfl, hl, hb⟩
  replace S := S.next hl hb
  clear hl hb
  go_wp2_with fail
  refine Calls.mono (valid_ok (a := (a + b)) S.live (by simp)) ?_
  rintro e w1 ⟨rfl, rfl⟩
  go_wp2_with fail
  refine Calls.mono (add_ok (a := (a + b)) (b := c) S.live (by simp) (by simp) Bh2.out) ?_
  rintro e w1 ⟨vs, rfl, hl, hb⟩
  replace S := S.next hl hb
  clear hl hb
  go_wp2_with fail
  refine Calls.mono (add_ok (a := b) (b := c) S.live (by simp) (by simp) Bh3.out) ?_
  rintro e w1 ⟨vt, rfl, hl, hb⟩
  replace S := S.next hl hb
  clear hl hb
  go_wp2_with fail
  refine Calls.mono (add_ok (a := a) (b := (b + c)) S.live (by simp) (by simp) Bh4.out) ?_
  rintro e w1 ⟨vu, rfl, hl, hb⟩
  replace S := S.next hl hb
  clear hl hb
  go_wp2_with fail
  refine Calls.mono (same_yes (a := (a + b + c)) (b := (a + (b + c))) S.live (by simp) (by simp) (Nat.add_assoc a b c)) ?_
  rintro e w1 ⟨rfl, hl, hb⟩
  replace S := S.next hl hb
  clear hl hb
  go_wp2
  go_ret
  exact ⟨rfl, S.below⟩
set_option maxHeartbeats 4000000 in
theorem sums_a2 {va vb vc : Value} {a b c : Nat} (w0 : World) (hL : Live w0 [(va, a), (vb, b), (vc, c)]) (h1 : Fits (a + b)) (h2 : Over (a + b + c)) (h3 : Fits (b + c)) (h4 : Over (a + (b + c))) :
    Calls Tryd.prog 4 #[va, vb, vc] w0 fun e w' => e = .returned (.bool true) ∧ Below w0.heap.size w0 w' := by
  have S : St w0 w0 [(va, a), (vb, b), (vc, c)] := ⟨Below.refl _ _, hL⟩
  have Bh1 := Bx.mk h1
  have Bh2 := Bx.mk h2
  have Bh3 := Bx.mk h3
  have Bh4 := Bx.mk h4
  clear hL h1 h2 h3 h4
  go_enter Tryd.func4, Tryd.ntmps4
  go_wp2_with fail
  refine Calls.mono (head_any _) ?_
  rintro e w1 ⟨rfl, hb⟩
  replace S := S.on hb
  clear hb
  go_wp2_with fail
  refine Calls.mono (three_ok (a := a) (b := b) (c := c) S.live (by simp) (by simp) (by simp)) ?_
  rintro e w1 ⟨rfl, rfl⟩
  go_wp2_with fail
  refine Calls.mono (add_ok (a := a) (b := b) S.live (by simp) (by simp) Bh1.out) ?_
  rintro e w1 ⟨vp, rfl, hl, hb⟩
  replace S := S.next hl hb
  clear hl hb
  go_wp2_with fail
  refine Calls.mono (add_ok (a := b) (b := a) S.live (by simp) (by simp) (by rw [Nat.add_comm]; exact Bh1.out)) ?_
  rintro e w1 ⟨vq, rfl, hl, hb⟩
  replace S := S.next hl hb
  clear hl hb
  go_wp2_with fail
  refine Calls.mono (same_yes (a := (a + b)) (b := (b + a)) S.live (by simp) (by simp) (Nat.add_comm a b)) ?_
  rintro e w1 ⟨rfl, hl, hb⟩
  replace S := S.next hl hb
  clear hl hb
  go_wp2_with fail
  refine Calls.mono (sub_ok (a := (a + b)) (b := b) S.live (by simp) (by simp) (Nat.le_add_left b a)) ?_
  rintro e w1 ⟨vk, rfl, hl, hb⟩
  replace S := S.next hl hb
  clear hl hb
  go_wp2_with fail
  refine Calls.mono (same_yes (a := (a + b - b)) (b := a) S.live (by simp) (by simp) (Nat.add_sub_cancel a b)) ?_
  rintro e w1 ⟨rfl, hl, hb⟩
  replace S := S.next hl hb
  clear hl hb
  go_wp2_with fail
  refine Calls.mono (valid_ok (a := (a + b)) S.live (by simp)) ?_
  rintro e w1 ⟨rfl, rfl⟩
  go_wp2_with fail
  refine Calls.mono (add_over (a := (a + b)) (b := c) S.live (by simp) (by simp) Bh2.out) ?_
  rintro e w1 ⟨vs, rfl, hl, hb⟩
  replace S := S.next hl hb
  clear hl hb
  go_wp2_with fail
  refine Calls.mono (add_ok (a := b) (b := c) S.live (by simp) (by simp) Bh3.out) ?_
  rintro e w1 ⟨vt, rfl, hl, hb⟩
  replace S := S.next hl hb
  clear hl hb
  go_wp2_with fail
  refine Calls.mono (add_over (a := a) (b := (b + c)) S.live (by simp) (by simp) Bh4.out) ?_
  rintro e w1 ⟨vu, rfl, hl, hb⟩
  replace S := S.next hl hb
  clear hl hb
  go_wp2
  go_ret
  exact ⟨rfl, S.below⟩
set_option maxHeartbeats 4000000 in
theorem sums_a3 {va vb vc : Value} {a b c : Nat} (w0 : World) (hL : Live w0 [(va, a), (vb, b), (vc, c)]) (h1 : Fits (a + b)) (h2 : Over (a + b + c)) (h3 : Over (b + c)) :
    Calls Tryd.prog 4 #[va, vb, vc] w0 fun e w' => e = .returned (.bool true) ∧ Below w0.heap.size w0 w' := by
  have S : St w0 w0 [(va, a), (vb, b), (vc, c)] := ⟨Below.refl _ _, hL⟩
  have Bh1 := Bx.mk h1
  have Bh2 := Bx.mk h2
  have Bh3 := Bx.mk h3
  clear hL h1 h2 h3
  go_enter Tryd.func4, Tryd.ntmps4
  go_wp2_with fail
  refine Calls.mono (head_any _) ?_
  rintro e w1 ⟨rfl, hb⟩
  replace S := S.on hb
  clear hb
  go_wp2_with fail
  refine Calls.mono (three_ok (a := a) (b := b) (c := c) S.live (by simp) (by simp) (by simp)) ?_
  rintro e w1 ⟨rfl, rfl⟩
  go_wp2_with fail
  refine Calls.mono (add_ok (a := a) (b := b) S.live (by simp) (by simp) Bh1.out) ?_
  rintro e w1 ⟨vp, rfl, hl, hb⟩
  replace S := S.next hl hb
  clear hl hb
  go_wp2_with fail
  refine Calls.mono (add_ok (a := b) (b := a) S.live (by simp) (by simp) (by rw [Nat.add_comm]; exact Bh1.out)) ?_
  rintro e w1 ⟨vq, rfl, hl, hb⟩
  replace S := S.next hl hb
  clear hl hb
  go_wp2_with fail
  refine Calls.mono (same_yes (a := (a + b)) (b := (b + a)) S.live (by simp) (by simp) (Nat.add_comm a b)) ?_
  rintro e w1 ⟨rfl, hl, hb⟩
  replace S := S.next hl hb
  clear hl hb
  go_wp2_with fail
  refine Calls.mono (sub_ok (a := (a + b)) (b := b) S.live (by simp) (by simp) (Nat.le_add_left b a)) ?_
  rintro e w1 ⟨vk, rfl, hl, hb⟩
  replace S := S.next hl hb
  clear hl hb
  go_wp2_with fail
  refine Calls.mono (same_yes (a := (a + b - b)) (b := a) S.live (by simp) (by simp) (Nat.add_sub_cancel a b)) ?_
  rintro e w1 ⟨rfl, hl, hb⟩
  replace S := S.next hl hb
  clear hl hb
  go_wp2_with fail
  refine Calls.mono (valid_ok (a := (a + b)) S.live (by simp)) ?_
  rintro e w1 ⟨rfl, rfl⟩
  go_wp2_with fail
  refine Calls.mono (add_over (a := (a + b)) (b := c) S.live (by simp) (by simp) Bh2.out) ?_
  rintro e w1 ⟨vs, rfl, hl, hb⟩
  replace S := S.next hl hb
  clear hl hb
  go_wp2_with fail
  refine Calls.mono (add_over (a := b) (b := c) S.live (by simp) (by simp) Bh3.out) ?_
  rintro e w1 ⟨vt, rfl, hl, hb⟩
  replace S := S.next hl hb
  clear hl hb
  go_wp2
  go_ret
  exact ⟨rfl, S.below⟩
set_option maxHeartbeats 4000000 in
theorem sums_b1 {va vb vc : Value} {a b c : Nat} (w0 : World) (hL : Live w0 [(va, a), (vb, b), (vc, c)]) (h1 : Over (a + b)) (h3 : Fits (b + c)) (h4 : Over (a + (b + c))) :
    Calls Tryd.prog 4 #[va, vb, vc] w0 fun e w' => e = .returned (.bool true) ∧ Below w0.heap.size w0 w' := by
  have S : St w0 w0 [(va, a), (vb, b), (vc, c)] := ⟨Below.refl _ _, hL⟩
  have Bh1 := Bx.mk h1
  have Bh3 := Bx.mk h3
  have Bh4 := Bx.mk h4
  clear hL h1 h3 h4
  go_enter Tryd.func4, Tryd.ntmps4
  go_wp2_with fail
  refine Calls.mono (head_any _) ?_
  rintro e w1 ⟨rfl, hb⟩
  replace S := S.on hb
  clear hb
  go_wp2_with fail
  refine Calls.mono (three_ok (a := a) (b := b) (c := c) S.live (by simp) (by simp) (by simp)) ?_
  rintro e w1 ⟨rfl, rfl⟩
  go_wp2_with fail
  refine Calls.mono (add_over (a := a) (b := b) S.live (by simp) (by simp) Bh1.out) ?_
  rintro e w1 ⟨vp, rfl, hl, hb⟩
  replace S := S.next hl hb
  clear hl hb
  go_wp2_with fail
  refine Calls.mono (add_over (a := b) (b := a) S.live (by simp) (by simp) (by rw [Nat.add_comm]; exact Bh1.out)) ?_
  rintro e w1 ⟨vq, rfl, hl, hb⟩
  replace S := S.next hl hb
  clear hl hb
  go_wp2_with fail
  refine Calls.mono (same_yes (a := 0) (b := 0) S.live (by simp) (by simp) rfl) ?_
  rintro e w1 ⟨rfl, hl, hb⟩
  replace S := S.next hl hb
  clear hl hb
  go_wp2_with fail
  refine Calls.mono (add_ok (a := b) (b := c) S.live (by simp) (by simp) Bh3.out) ?_
  rintro e w1 ⟨vt, rfl, hl, hb⟩
  replace S := S.next hl hb
  clear hl hb
  go_wp2_with fail
  refine Calls.mono (add_over (a := a) (b := (b + c)) S.live (by simp) (by simp) Bh4.out) ?_
  rintro e w1 ⟨vu, rfl, hl, hb⟩
  replace S := S.next hl hb
  clear hl hb
  go_wp2
  go_ret
  exact ⟨rfl, S.below⟩
set_option maxHeartbeats 4000000 in
theorem sums_b2 {va vb vc : Value} {a b c : Nat} (w0 : World) (hL : Live w0 [(va, a), (vb, b), (vc, c)]) (h1 : Over (a + b)) (h3 : Over (b + c)) :
    Calls Tryd.prog 4 #[va, vb, vc] w0 fun e w' => e = .returned (.bool true) ∧ Below w0.heap.size w0 w' := by
  have S : St w0 w0 [(va, a), (vb, b), (vc, c)] := ⟨Below.refl _ _, hL⟩
  have Bh1 := Bx.mk h1
  have Bh3 := Bx.mk h3
  clear hL h1 h3
  go_enter Tryd.func4, Tryd.ntmps4
  go_wp2_with fail
  refine Calls.mono (head_any _) ?_
  rintro e w1 ⟨rfl, hb⟩
  replace S := S.on hb
  clear hb
  go_wp2_with fail
  refine Calls.mono (three_ok (a := a) (b := b) (c := c) S.live (by simp) (by simp) (by simp)) ?_
  rintro e w1 ⟨rfl, rfl⟩
  go_wp2_with fail
  refine Calls.mono (add_over (a := a) (b := b) S.live (by simp) (by simp) Bh1.out) ?_
  rintro e w1 ⟨vp, rfl, hl, hb⟩
  replace S := S.next hl hb
  clear hl hb
  go_wp2_with fail
  refine Calls.mono (add_over (a := b) (b := a) S.live (by simp) (by simp) (by rw [Nat.add_comm]; exact Bh1.out)) ?_
  rintro e w1 ⟨vq, rfl, hl, hb⟩
  replace S := S.next hl hb
  clear hl hb
  go_wp2_with fail
  refine Calls.mono (same_yes (a := 0) (b := 0) S.live (by simp) (by simp) rfl) ?_
  rintro e w1 ⟨rfl, hl, hb⟩
  replace S := S.next hl hb
  clear hl hb
  go_wp2_with fail
  refine Calls.mono (add_over (a := b) (b := c) S.live (by simp) (by simp) Bh3.out) ?_
  rintro e w1 ⟨vt, rfl, hl, hb⟩
  replace S := S.next hl hb
  clear hl hb
  go_wp2
  go_ret
  exact ⟨rfl, S.below⟩
theorem sums_not {va vb vc : Value} (w0 : World) (h : ∀ w', Below w0.heap.size w0 w' → Calls Tryd.prog 34 #[va, vb, vc] w' fun e w2 => e = .returned (.bool false) ∧ w' = w2) :
    Calls Tryd.prog 4 #[va, vb, vc] w0 fun e w' => e = .returned (.bool true) ∧ Below w0.heap.size w0 w' := by
  have H := Bx.mk h
  clear h
  go_enter Tryd.func4, Tryd.ntmps4
  go_wp2_with fail
  refine Calls.mono (head_any _) ?_
  rintro e w1 ⟨rfl, hb⟩
  go_wp2_with fail
  refine Calls.mono (H.out _ hb) ?_
  rintro e w2 ⟨rfl, rfl⟩
  go_wp2
  go_ret
  exact ⟨rfl, hb⟩
theorem sums_all {va vb vc : Value} {a b c : Nat} (w0 : World) (hL : Live w0 [(va, a), (vb, b), (vc, c)]) :
    Calls Tryd.prog 4 #[va, vb, vc] w0 fun e w' => e = .returned (.bool true) ∧ Below w0.heap.size w0 w' := by
  rcases fits_or (a + b) with h1 | h1
  · rcases fits_or (a + b + c) with h2 | h2
    · exact sums_a1 w0 hL h1 h2 (h2.mono (by omega)) (h2.mono (by omega))
    · rcases fits_or (b + c) with h3 | h3
      · exact sums_a2 w0 hL h1 h2 h3 (h2.mono (by omega))
      · exact sums_a3 w0 hL h1 h2 h3
  · rcases fits_or (b + c) with h3 | h3
    · exact sums_b1 w0 hL h1 h3 (h1.mono (by omega))
    · exact sums_b2 w0 hL h1 h3
end Go.Proofs.YtegjhkjmejckdaaDoor
