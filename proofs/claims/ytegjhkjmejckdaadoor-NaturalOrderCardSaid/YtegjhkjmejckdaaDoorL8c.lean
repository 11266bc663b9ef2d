/- x -/
import Derived.Test.YtegjhkjmejckdaaDoorL8a
namespace Go.Proofs.YtegjhkjmejckdaaDoor
open Go.RowKit M
set_option maxHeartbeats 4000000 in
set_option maxRecDepth 20000 in
theorem order_lt_lt_n {va vb : Value} {co : Option Addr} {cc : Nat} {a b c : Nat} (w0 : World) (hL : Live w0 [(va, a), (vb, b), (.slice co (limbs c).length cc, c)]) (hx : a < b) (hy : b < c) (hc : c ≠ 0) (hz : (((limbs c).length : Int) == 0) = false) :
    Calls Tryd.prog 8 #[va, vb, .slice co (limbs c).length cc] w0 fun e w' => e = .returned (.bool true) ∧ Below w0.heap.size w0 w' := by
  have S : St w0 w0 [(va, a), (vb, b), (.slice co (limbs c).length cc, c)] := ⟨Below.refl _ _, hL⟩
  have Bhx := Bx.mk hx
  have Bhy := Bx.mk hy
  have Bhc := Bx.mk hc
  clear hL hx hy hc
  go_enter Tryd.func8, Tryd.ntmps8
  go_wp2_with fail
  refine Calls.mono (head_any _) ?_
  rintro e w1 ⟨rfl, hb⟩
  replace S := S.on hb
  clear hb
  go_wp2_with fail
  refine Calls.mono (three_ok (a := a) (b := b) (c := c) S.live (by simp) (by simp) (by simp)) ?_
  rintro e w1 ⟨rfl, rfl⟩
  go_wp2_with fail
  refine Calls.mono (cmp_lt (a := a) (b := b) S.live (by simp) (by simp) Bhx.out) ?_
  rintro e w1 ⟨rfl, hl, hb⟩
  replace S := S.next hl hb
  clear hl hb
  go_wp2_with fail
  refine Calls.mono (cmp_lt (a := b) (b := c) S.live (by simp) (by simp) Bhy.out) ?_
  rintro e w1 ⟨rfl, hl, hb⟩
  replace S := S.next hl hb
  clear hl hb
  go_wp2_with fail
  refine Calls.mono (cmp_lt (a := a) (b := c) S.live (by simp) (by simp) (by have := Bhx.out; have := Bhy.out; omega)) ?_
  rintro e w1 ⟨rfl, hl, hb⟩
  replace S := S.next hl hb
  clear hl hb
  go_wp2_with fail
  refine Calls.mono (cmp_gt (a := b) (b := a) S.live (by simp) (by simp) Bhx.out) ?_
  rintro e w1 ⟨rfl, hl, hb⟩
  replace S := S.next hl hb
  clear hl hb
  go_wp2_with fail
  refine Calls.mono (same_no (a := a) (b := b) S.live (by simp) (by simp) (Nat.ne_of_lt Bhx.out)) ?_
  rintro e w1 ⟨rfl, hl, hb⟩
  replace S := S.next hl hb
  clear hl hb
  go_wp2_with fail
  refine Calls.mono (sub_under (a := a) (b := b) S.live (by simp) (by simp) Bhx.out) ?_
  rintro e w1 ⟨vd, rfl, hl, hb⟩
  replace S := S.next hl hb
  clear hl hb
  rcases fits_or (a + c) with g1 | g1
  · go_wp2_with fail
    refine Calls.mono (add_ok (a := a) (b := c) S.live (by simp) (by simp) g1) ?_
    rintro e w1 ⟨vp, rfl, hl, hb⟩
    replace S := S.next hl hb
    clear hl hb
    rcases fits_or (b + c) with g2 | g2
    · go_wp2_with fail
      refine Calls.mono (add_ok (a := b) (b := c) S.live (by simp) (by simp) g2) ?_
      rintro e w1 ⟨vq, rfl, hl, hb⟩
      replace S := S.next hl hb
      clear hl hb
      go_wp2_with fail
      refine Calls.mono (cmp_lt (a := (a + c)) (b := (b + c)) S.live (by simp) (by simp) (by have := Bhx.out; omega)) ?_
      rintro e w1 ⟨rfl, hl, hb⟩
      replace S := S.next hl hb
      clear hl hb
      rcases fits_or (a * c) with g3 | g3
      · go_wp2_with fail
        refine Calls.mono (mul_ok (a := a) (b := c) S.live (by simp) (by simp) g3) ?_
        rintro e w1 ⟨vm, rfl, hl, hb⟩
        replace S := S.next hl hb
        clear hl hb
        rcases fits_or (b * c) with g4 | g4
        · go_wp2_with fail
          refine Calls.mono (mul_ok (a := b) (b := c) S.live (by simp) (by simp) g4) ?_
          rintro e w1 ⟨vn, rfl, hl, hb⟩
          replace S := S.next hl hb
          clear hl hb
          go_wp2_with fail
          refine Calls.mono (cmp_lt (a := (a * c)) (b := (b * c)) S.live (by simp) (by simp) (Nat.mul_lt_mul_of_pos_right Bhx.out (Nat.pos_of_ne_zero Bhc.out))) ?_
          rintro e w1 ⟨rfl, hl, hb⟩
          replace S := S.next hl hb
          clear hl hb
          go_wp2
          go_ret
          exact ⟨rfl, S.below⟩
        · go_wp2_with fail
          refine Calls.mono (mul_big (a := b) (b := c) S.live (by simp) (by simp) g4) ?_
          rintro e w1 ⟨vn, rfl, hl, hb⟩
          replace S := S.next hl hb
          clear hl hb
          go_wp2
          go_ret
          exact ⟨rfl, S.below⟩
      · go_wp2_with fail
        refine Calls.mono (mul_big (a := a) (b := c) S.live (by simp) (by simp) g3) ?_
        rintro e w1 ⟨vm, rfl, hl, hb⟩
        replace S := S.next hl hb
        clear hl hb
        go_wp2_with fail
        refine Calls.mono (mul_var (a := b) (b := c) S.live (by simp) (by simp)) ?_
        rintro e w1 ⟨vn, vns, vnx, rfl, hl, hb⟩
        replace S := S.next hl hb
        clear hl hb
        go_wp2
        go_ret
        exact ⟨rfl, S.below⟩
    · go_wp2_with fail
      refine Calls.mono (add_over (a := b) (b := c) S.live (by simp) (by simp) g2) ?_
      rintro e w1 ⟨vq, rfl, hl, hb⟩
      replace S := S.next hl hb
      clear hl hb
      rcases fits_or (a * c) with g3 | g3
      · go_wp2_with fail
        refine Calls.mono (mul_ok (a := a) (b := c) S.live (by simp) (by simp) g3) ?_
        rintro e w1 ⟨vm, rfl, hl, hb⟩
        replace S := S.next hl hb
        clear hl hb
        rcases fits_or (b * c) with g4 | g4
        · go_wp2_with fail
          refine Calls.mono (mul_ok (a := b) (b := c) S.live (by simp) (by simp) g4) ?_
          rintro e w1 ⟨vn, rfl, hl, hb⟩
          replace S := S.next hl hb
          clear hl hb
          go_wp2_with fail
          refine Calls.mono (cmp_lt (a := (a * c)) (b := (b * c)) S.live (by simp) (by simp) (Nat.mul_lt_mul_of_pos_right Bhx.out (Nat.pos_of_ne_zero Bhc.out))) ?_
          rintro e w1 ⟨rfl, hl, hb⟩
          replace S := S.next hl hb
          clear hl hb
          go_wp2
          go_ret
          exact ⟨rfl, S.below⟩
        · go_wp2_with fail
          refine Calls.mono (mul_big (a := b) (b := c) S.live (by simp) (by simp) g4) ?_
          rintro e w1 ⟨vn, rfl, hl, hb⟩
          replace S := S.next hl hb
          clear hl hb
          go_wp2
          go_ret
          exact ⟨rfl, S.below⟩
      · go_wp2_with fail
        refine Calls.mono (mul_big (a := a) (b := c) S.live (by simp) (by simp) g3) ?_
        rintro e w1 ⟨vm, rfl, hl, hb⟩
        replace S := S.next hl hb
        clear hl hb
        go_wp2_with fail
        refine Calls.mono (mul_var (a := b) (b := c) S.live (by simp) (by simp)) ?_
        rintro e w1 ⟨vn, vns, vnx, rfl, hl, hb⟩
        replace S := S.next hl hb
        clear hl hb
        go_wp2
        go_ret
        exact ⟨rfl, S.below⟩
  · go_wp2_with fail
    refine Calls.mono (add_over (a := a) (b := c) S.live (by simp) (by simp) g1) ?_
    rintro e w1 ⟨vp, rfl, hl, hb⟩
    replace S := S.next hl hb
    clear hl hb
    go_wp2_with fail
    refine Calls.mono (add_var (a := b) (b := c) S.live (by simp) (by simp)) ?_
    rintro e w1 ⟨vq, vqs, vqx, rfl, hl, hb⟩
    replace S := S.next hl hb
    clear hl hb
    rcases fits_or (a * c) with g3 | g3
    · go_wp2_with fail
      refine Calls.mono (mul_ok (a := a) (b := c) S.live (by simp) (by simp) g3) ?_
      rintro e w1 ⟨vm, rfl, hl, hb⟩
      replace S := S.next hl hb
      clear hl hb
      rcases fits_or (b * c) with g4 | g4
      · go_wp2_with fail
        refine Calls.mono (mul_ok (a := b) (b := c) S.live (by simp) (by simp) g4) ?_
        rintro e w1 ⟨vn, rfl, hl, hb⟩
        replace S := S.next hl hb
        clear hl hb
        go_wp2_with fail
        refine Calls.mono (cmp_lt (a := (a * c)) (b := (b * c)) S.live (by simp) (by simp) (Nat.mul_lt_mul_of_pos_right Bhx.out (Nat.pos_of_ne_zero Bhc.out))) ?_
        rintro e w1 ⟨rfl, hl, hb⟩
        replace S := S.next hl hb
        clear hl hb
        go_wp2
        go_ret
        exact ⟨rfl, S.below⟩
      · go_wp2_with fail
        refine Calls.mono (mul_big (a := b) (b := c) S.live (by simp) (by simp) g4) ?_
        rintro e w1 ⟨vn, rfl, hl, hb⟩
        replace S := S.next hl hb
        clear hl hb
        go_wp2
        go_ret
        exact ⟨rfl, S.below⟩
    · go_wp2_with fail
      refine Calls.mono (mul_big (a := a) (b := c) S.live (by simp) (by simp) g3) ?_
      rintro e w1 ⟨vm, rfl, hl, hb⟩
      replace S := S.next hl hb
      clear hl hb
      go_wp2_with fail
      refine Calls.mono (mul_var (a := b) (b := c) S.live (by simp) (by simp)) ?_
      rintro e w1 ⟨vn, vns, vnx, rfl, hl, hb⟩
      replace S := S.next hl hb
      clear hl hb
      go_wp2
      go_ret
      exact ⟨rfl, S.below⟩
set_option maxHeartbeats 4000000 in
set_option maxRecDepth 20000 in
theorem order_lt_gt_z {va vb : Value} {co : Option Addr} {cc : Nat} {a b c : Nat} (w0 : World) (hL : Live w0 [(va, a), (vb, b), (.slice co (limbs c).length cc, c)]) (hx : a < b) (hy : c < b) (hz : (((limbs c).length : Int) == 0) = true) :
    Calls Tryd.prog 8 #[va, vb, .slice co (limbs c).length cc] w0 fun e w' => e = .returned (.bool true) ∧ Below w0.heap.size w0 w' := by
  have S : St w0 w0 [(va, a), (vb, b), (.slice co (limbs c).length cc, c)] := ⟨Below.refl _ _, hL⟩
  have Bhx := Bx.mk hx
  have Bhy := Bx.mk hy
  clear hL hx hy
  go_enter Tryd.func8, Tryd.ntmps8
  go_wp2_with fail
  refine Calls.mono (head_any _) ?_
  rintro e w1 ⟨rfl, hb⟩
  replace S := S.on hb
  clear hb
  go_wp2_with fail
  refine Calls.mono (three_ok (a := a) (b := b) (c := c) S.live (by simp) (by simp) (by simp)) ?_
  rintro e w1 ⟨rfl, rfl⟩
  go_wp2_with fail
  refine Calls.mono (cmp_lt (a := a) (b := b) S.live (by simp) (by simp) Bhx.out) ?_
  rintro e w1 ⟨rfl, hl, hb⟩
  replace S := S.next hl hb
  clear hl hb
  go_wp2_with fail
  refine Calls.mono (cmp_gt (a := b) (b := c) S.live (by simp) (by simp) Bhy.out) ?_
  rintro e w1 ⟨rfl, hl, hb⟩
  replace S := S.next hl hb
  clear hl hb
  go_wp2_with fail
  refine Calls.mono (cmp_var (a := a) (b := c) S.live (by simp) (by simp)) ?_
  rintro e w1 ⟨nz, rfl, hl, hb⟩
  replace S := S.next hl hb
  clear hl hb
  go_wp2_with fail
  refine Calls.mono (cmp_gt (a := b) (b := a) S.live (by simp) (by simp) Bhx.out) ?_
  rintro e w1 ⟨rfl, hl, hb⟩
  replace S := S.next hl hb
  clear hl hb
  go_wp2_with fail
  refine Calls.mono (same_no (a := a) (b := b) S.live (by simp) (by simp) (Nat.ne_of_lt Bhx.out)) ?_
  rintro e w1 ⟨rfl, hl, hb⟩
  replace S := S.next hl hb
  clear hl hb
  go_wp2_with fail
  refine Calls.mono (sub_under (a := a) (b := b) S.live (by simp) (by simp) Bhx.out) ?_
  rintro e w1 ⟨vd, rfl, hl, hb⟩
  replace S := S.next hl hb
  clear hl hb
  rcases fits_or (a + c) with g1 | g1
  · go_wp2_with fail
    refine Calls.mono (add_ok (a := a) (b := c) S.live (by simp) (by simp) g1) ?_
    rintro e w1 ⟨vp, rfl, hl, hb⟩
    replace S := S.next hl hb
    clear hl hb
    rcases fits_or (b + c) with g2 | g2
    · go_wp2_with fail
      refine Calls.mono (add_ok (a := b) (b := c) S.live (by simp) (by simp) g2) ?_
      rintro e w1 ⟨vq, rfl, hl, hb⟩
      replace S := S.next hl hb
      clear hl hb
      go_wp2_with fail
      refine Calls.mono (cmp_lt (a := (a + c)) (b := (b + c)) S.live (by simp) (by simp) (by have := Bhx.out; omega)) ?_
      rintro e w1 ⟨rfl, hl, hb⟩
      replace S := S.next hl hb
      clear hl hb
      go_wp2_with fail
      refine Calls.mono (mul_var (a := a) (b := c) S.live (by simp) (by simp)) ?_
      rintro e w1 ⟨vm, vms, vmx, rfl, hl, hb⟩
      replace S := S.next hl hb
      clear hl hb
      go_wp2_with fail
      refine Calls.mono (mul_var (a := b) (b := c) S.live (by simp) (by simp)) ?_
      rintro e w1 ⟨vn, vns, vnx, rfl, hl, hb⟩
      replace S := S.next hl hb
      clear hl hb
      go_wp2
      go_ret
      exact ⟨rfl, S.below⟩
    · go_wp2_with fail
      refine Calls.mono (add_over (a := b) (b := c) S.live (by simp) (by simp) g2) ?_
      rintro e w1 ⟨vq, rfl, hl, hb⟩
      replace S := S.next hl hb
      clear hl hb
      go_wp2_with fail
      refine Calls.mono (mul_var (a := a) (b := c) S.live (by simp) (by simp)) ?_
      rintro e w1 ⟨vm, vms, vmx, rfl, hl, hb⟩
      replace S := S.next hl hb
      clear hl hb
      go_wp2_with fail
      refine Calls.mono (mul_var (a := b) (b := c) S.live (by simp) (by simp)) ?_
      rintro e w1 ⟨vn, vns, vnx, rfl, hl, hb⟩
      replace S := S.next hl hb
      clear hl hb
      go_wp2
      go_ret
      exact ⟨rfl, S.below⟩
  · go_wp2_with fail
    refine Calls.mono (add_over (a := a) (b := c) S.live (by simp) (by simp) g1) ?_
    rintro e w1 ⟨vp, rfl, hl, hb⟩
    replace S := S.next hl hb
    clear hl hb
    go_wp2_with fail
    refine Calls.mono (add_var (a := b) (b := c) S.live (by simp) (by simp)) ?_
    rintro e w1 ⟨vq, vqs, vqx, rfl, hl, hb⟩
    replace S := S.next hl hb
    clear hl hb
    go_wp2_with fail
    refine Calls.mono (mul_var (a := a) (b := c) S.live (by simp) (by simp)) ?_
    rintro e w1 ⟨vm, vms, vmx, rfl, hl, hb⟩
    replace S := S.next hl hb
    clear hl hb
    go_wp2_with fail
    refine Calls.mono (mul_var (a := b) (b := c) S.live (by simp) (by simp)) ?_
    rintro e w1 ⟨vn, vns, vnx, rfl, hl, hb⟩
    replace S := S.next hl hb
    clear hl hb
    go_wp2
    go_ret
    exact ⟨rfl, S.below⟩
set_option maxHeartbeats 4000000 in
set_option maxRecDepth 20000 in
theorem order_eq_lt_n {va vb : Value} {co : Option Addr} {cc : Nat} {a b c : Nat} (w0 : World) (hL : Live w0 [(va, a), (vb, b), (.slice co (limbs c).length cc, c)]) (hx : a = b) (hy : b < c) (hc : c ≠ 0) (hz : (((limbs c).length : Int) == 0) = false) :
    Calls Tryd.prog 8 #[va, vb, .slice co (limbs c).length cc] w0 fun e w' => e = .returned (.bool true) ∧ Below w0.heap.size w0 w' := by
  have S : St w0 w0 [(va, a), (vb, b), (.slice co (limbs c).length cc, c)] := ⟨Below.refl _ _, hL⟩
  have Bhx := Bx.mk hx
  have Bhy := Bx.mk hy
  have Bhc := Bx.mk hc
  clear hL hx hy hc
  go_enter Tryd.func8, Tryd.ntmps8
  go_wp2_with fail
  refine Calls.mono (head_any _) ?_
  rintro e w1 ⟨rfl, hb⟩
  replace S := S.on hb
  clear hb
  go_wp2_with fail
  refine Calls.mono (three_ok (a := a) (b := b) (c := c) S.live (by simp) (by simp) (by simp)) ?_
  rintro e w1 ⟨rfl, rfl⟩
  go_wp2_with fail
  refine Calls.mono (cmp_eq (a := a) (b := b) S.live (by simp) (by simp) Bhx.out) ?_
  rintro e w1 ⟨rfl, hl, hb⟩
  replace S := S.next hl hb
  clear hl hb
  go_wp2_with fail
  refine Calls.mono (cmp_lt (a := b) (b := c) S.live (by simp) (by simp) Bhy.out) ?_
  rintro e w1 ⟨rfl, hl, hb⟩
  replace S := S.next hl hb
  clear hl hb
  go_wp2_with fail
  refine Calls.mono (cmp_lt (a := a) (b := c) S.live (by simp) (by simp) (by have := Bhx.out; have := Bhy.out; omega)) ?_
  rintro e w1 ⟨rfl, hl, hb⟩
  replace S := S.next hl hb
  clear hl hb
  go_wp2_with fail
  refine Calls.mono (cmp_eq (a := b) (b := a) S.live (by simp) (by simp) Bhx.out.symm) ?_
  rintro e w1 ⟨rfl, hl, hb⟩
  replace S := S.next hl hb
  clear hl hb
  go_wp2_with fail
  refine Calls.mono (same_yes (a := a) (b := b) S.live (by simp) (by simp) Bhx.out) ?_
  rintro e w1 ⟨rfl, hl, hb⟩
  replace S := S.next hl hb
  clear hl hb
  go_wp2_with fail
  refine Calls.mono (sub_ok (a := a) (b := b) S.live (by simp) (by simp) (by have := Bhx.out; omega)) ?_
  rintro e w1 ⟨vd, rfl, hl, hb⟩
  replace S := S.next hl hb
  clear hl hb
  rcases fits_or (a + c) with g1 | g1
  · go_wp2_with fail
    refine Calls.mono (add_ok (a := a) (b := c) S.live (by simp) (by simp) g1) ?_
    rintro e w1 ⟨vp, rfl, hl, hb⟩
    replace S := S.next hl hb
    clear hl hb
    rcases fits_or (b + c) with g2 | g2
    · go_wp2_with fail
      refine Calls.mono (add_ok (a := b) (b := c) S.live (by simp) (by simp) g2) ?_
      rintro e w1 ⟨vq, rfl, hl, hb⟩
      replace S := S.next hl hb
      clear hl hb
      go_wp2_with fail
      refine Calls.mono (cmp_eq (a := (a + c)) (b := (b + c)) S.live (by simp) (by simp) (by have := Bhx.out; omega)) ?_
      rintro e w1 ⟨rfl, hl, hb⟩
      replace S := S.next hl hb
      clear hl hb
      rcases fits_or (a * c) with g3 | g3
      · go_wp2_with fail
        refine Calls.mono (mul_ok (a := a) (b := c) S.live (by simp) (by simp) g3) ?_
        rintro e w1 ⟨vm, rfl, hl, hb⟩
        replace S := S.next hl hb
        clear hl hb
        rcases fits_or (b * c) with g4 | g4
        · go_wp2_with fail
          refine Calls.mono (mul_ok (a := b) (b := c) S.live (by simp) (by simp) g4) ?_
          rintro e w1 ⟨vn, rfl, hl, hb⟩
          replace S := S.next hl hb
          clear hl hb
          go_wp2_with fail
          refine Calls.mono (cmp_eq (a := (a * c)) (b := (b * c)) S.live (by simp) (by simp) (by rw [Bhx.out])) ?_
          rintro e w1 ⟨rfl, hl, hb⟩
          replace S := S.next hl hb
          clear hl hb
          go_wp2
          go_ret
          exact ⟨rfl, S.below⟩
        · go_wp2_with fail
          refine Calls.mono (mul_big (a := b) (b := c) S.live (by simp) (by simp) g4) ?_
          rintro e w1 ⟨vn, rfl, hl, hb⟩
          replace S := S.next hl hb
          clear hl hb
          go_wp2
          go_ret
          exact ⟨rfl, S.below⟩
      · go_wp2_with fail
        refine Calls.mono (mul_big (a := a) (b := c) S.live (by simp) (by simp) g3) ?_
        rintro e w1 ⟨vm, rfl, hl, hb⟩
        replace S := S.next hl hb
        clear hl hb
        go_wp2_with fail
        refine Calls.mono (mul_var (a := b) (b := c) S.live (by simp) (by simp)) ?_
        rintro e w1 ⟨vn, vns, vnx, rfl, hl, hb⟩
        replace S := S.next hl hb
        clear hl hb
        go_wp2
        go_ret
        exact ⟨rfl, S.below⟩
    · go_wp2_with fail
      refine Calls.mono (add_over (a := b) (b := c) S.live (by simp) (by simp) g2) ?_
      rintro e w1 ⟨vq, rfl, hl, hb⟩
      replace S := S.next hl hb
      clear hl hb
      rcases fits_or (a * c) with g3 | g3
      · go_wp2_with fail
        refine Calls.mono (mul_ok (a := a) (b := c) S.live (by simp) (by simp) g3) ?_
        rintro e w1 ⟨vm, rfl, hl, hb⟩
        replace S := S.next hl hb
        clear hl hb
        rcases fits_or (b * c) with g4 | g4
        · go_wp2_with fail
          refine Calls.mono (mul_ok (a := b) (b := c) S.live (by simp) (by simp) g4) ?_
          rintro e w1 ⟨vn, rfl, hl, hb⟩
          replace S := S.next hl hb
          clear hl hb
          go_wp2_with fail
          refine Calls.mono (cmp_eq (a := (a * c)) (b := (b * c)) S.live (by simp) (by simp) (by rw [Bhx.out])) ?_
          rintro e w1 ⟨rfl, hl, hb⟩
          replace S := S.next hl hb
          clear hl hb
          go_wp2
          go_ret
          exact ⟨rfl, S.below⟩
        · go_wp2_with fail
          refine Calls.mono (mul_big (a := b) (b := c) S.live (by simp) (by simp) g4) ?_
          rintro e w1 ⟨vn, rfl, hl, hb⟩
          replace S := S.next hl hb
          clear hl hb
          go_wp2
          go_ret
          exact ⟨rfl, S.below⟩
      · go_wp2_with fail
        refine Calls.mono (mul_big (a := a) (b := c) S.live (by simp) (by simp) g3) ?_
        rintro e w1 ⟨vm, rfl, hl, hb⟩
        replace S := S.next hl hb
        clear hl hb
        go_wp2_with fail
        refine Calls.mono (mul_var (a := b) (b := c) S.live (by simp) (by simp)) ?_
        rintro e w1 ⟨vn, vns, vnx, rfl, hl, hb⟩
        replace S := S.next hl hb
        clear hl hb
        go_wp2
        go_ret
        exact ⟨rfl, S.below⟩
  · go_wp2_with fail
    refine Calls.mono (add_over (a := a) (b := c) S.live (by simp) (by simp) g1) ?_
    rintro e w1 ⟨vp, rfl, hl, hb⟩
    replace S := S.next hl hb
    clear hl hb
    go_wp2_with fail
    refine Calls.mono (add_var (a := b) (b := c) S.live (by simp) (by simp)) ?_
    rintro e w1 ⟨vq, vqs, vqx, rfl, hl, hb⟩
    replace S := S.next hl hb
    clear hl hb
    rcases fits_or (a * c) with g3 | g3
    · go_wp2_with fail
      refine Calls.mono (mul_ok (a := a) (b := c) S.live (by simp) (by simp) g3) ?_
      rintro e w1 ⟨vm, rfl, hl, hb⟩
      replace S := S.next hl hb
      clear hl hb
      rcases fits_or (b * c) with g4 | g4
      · go_wp2_with fail
        refine Calls.mono (mul_ok (a := b) (b := c) S.live (by simp) (by simp) g4) ?_
        rintro e w1 ⟨vn, rfl, hl, hb⟩
        replace S := S.next hl hb
        clear hl hb
        go_wp2_with fail
        refine Calls.mono (cmp_eq (a := (a * c)) (b := (b * c)) S.live (by simp) (by simp) (by rw [Bhx.out])) ?_
        rintro e w1 ⟨rfl, hl, hb⟩
        replace S := S.next hl hb
        clear hl hb
        go_wp2
        go_ret
        exact ⟨rfl, S.below⟩
      · go_wp2_with fail
        refine Calls.mono (mul_big (a := b) (b := c) S.live (by simp) (by simp) g4) ?_
        rintro e w1 ⟨vn, rfl, hl, hb⟩
        replace S := S.next hl hb
        clear hl hb
        go_wp2
        go_ret
        exact ⟨rfl, S.below⟩
    · go_wp2_with fail
      refine Calls.mono (mul_big (a := a) (b := c) S.live (by simp) (by simp) g3) ?_
      rintro e w1 ⟨vm, rfl, hl, hb⟩
      replace S := S.next hl hb
      clear hl hb
      go_wp2_with fail
      refine Calls.mono (mul_var (a := b) (b := c) S.live (by simp) (by simp)) ?_
      rintro e w1 ⟨vn, vns, vnx, rfl, hl, hb⟩
      replace S := S.next hl hb
      clear hl hb
      go_wp2
      go_ret
      exact ⟨rfl, S.below⟩
set_option maxHeartbeats 4000000 in
set_option maxRecDepth 20000 in
theorem order_eq_gt_z {va vb : Value} {co : Option Addr} {cc : Nat} {a b c : Nat} (w0 : World) (hL : Live w0 [(va, a), (vb, b), (.slice co (limbs c).length cc, c)]) (hx : a = b) (hy : c < b) (hz : (((limbs c).length : Int) == 0) = true) :
    Calls Tryd.prog 8 #[va, vb, .slice co (limbs c).length cc] w0 fun e w' => e = .returned (.bool true) ∧ Below w0.heap.size w0 w' := by
  have S : St w0 w0 [(va, a), (vb, b), (.slice co (limbs c).length cc, c)] := ⟨Below.refl _ _, hL⟩
  have Bhx := Bx.mk hx
  have Bhy := Bx.mk hy
  clear hL hx hy
  go_enter Tryd.func8, Tryd.ntmps8
  go_wp2_with fail
  refine Calls.mono (head_any _) ?_
  rintro e w1 ⟨rfl, hb⟩
  replace S := S.on hb
  clear hb
  go_wp2_with fail
  refine Calls.mono (three_ok (a := a) (b := b) (c := c) S.live (by simp) (by simp) (by simp)) ?_
  rintro e w1 ⟨rfl, rfl⟩
  go_wp2_with fail
  refine Calls.mono (cmp_eq (a := a) (b := b) S.live (by simp) (by simp) Bhx.out) ?_
  rintro e w1 ⟨rfl, hl, hb⟩
  replace S := S.next hl hb
  clear hl hb
  go_wp2_with fail
  refine Calls.mono (cmp_gt (a := b) (b := c) S.live (by simp) (by simp) Bhy.out) ?_
  rintro e w1 ⟨rfl, hl, hb⟩
  replace S := S.next hl hb
  clear hl hb
  go_wp2_with fail
  refine Calls.mono (cmp_gt (a := a) (b := c) S.live (by simp) (by simp) (by have := Bhx.out; have := Bhy.out; omega)) ?_
  rintro e w1 ⟨rfl, hl, hb⟩
  replace S := S.next hl hb
  clear hl hb
  go_wp2_with fail
  refine Calls.mono (cmp_eq (a := b) (b := a) S.live (by simp) (by simp) Bhx.out.symm) ?_
  rintro e w1 ⟨rfl, hl, hb⟩
  replace S := S.next hl hb
  clear hl hb
  go_wp2_with fail
  refine Calls.mono (same_yes (a := a) (b := b) S.live (by simp) (by simp) Bhx.out) ?_
  rintro e w1 ⟨rfl, hl, hb⟩
  replace S := S.next hl hb
  clear hl hb
  go_wp2_with fail
  refine Calls.mono (sub_ok (a := a) (b := b) S.live (by simp) (by simp) (by have := Bhx.out; omega)) ?_
  rintro e w1 ⟨vd, rfl, hl, hb⟩
  replace S := S.next hl hb
  clear hl hb
  rcases fits_or (a + c) with g1 | g1
  · go_wp2_with fail
    refine Calls.mono (add_ok (a := a) (b := c) S.live (by simp) (by simp) g1) ?_
    rintro e w1 ⟨vp, rfl, hl, hb⟩
    replace S := S.next hl hb
    clear hl hb
    rcases fits_or (b + c) with g2 | g2
    · go_wp2_with fail
      refine Calls.mono (add_ok (a := b) (b := c) S.live (by simp) (by simp) g2) ?_
      rintro e w1 ⟨vq, rfl, hl, hb⟩
      replace S := S.next hl hb
      clear hl hb
      go_wp2_with fail
      refine Calls.mono (cmp_eq (a := (a + c)) (b := (b + c)) S.live (by simp) (by simp) (by have := Bhx.out; omega)) ?_
      rintro e w1 ⟨rfl, hl, hb⟩
      replace S := S.next hl hb
      clear hl hb
      go_wp2_with fail
      refine Calls.mono (mul_var (a := a) (b := c) S.live (by simp) (by simp)) ?_
      rintro e w1 ⟨vm, vms, vmx, rfl, hl, hb⟩
      replace S := S.next hl hb
      clear hl hb
      go_wp2_with fail
      refine Calls.mono (mul_var (a := b) (b := c) S.live (by simp) (by simp)) ?_
      rintro e w1 ⟨vn, vns, vnx, rfl, hl, hb⟩
      replace S := S.next hl hb
      clear hl hb
      go_wp2
      go_ret
      exact ⟨rfl, S.below⟩
    · go_wp2_with fail
      refine Calls.mono (add_over (a := b) (b := c) S.live (by simp) (by simp) g2) ?_
      rintro e w1 ⟨vq, rfl, hl, hb⟩
      replace S := S.next hl hb
      clear hl hb
      go_wp2_with fail
      refine Calls.mono (mul_var (a := a) (b := c) S.live (by simp) (by simp)) ?_
      rintro e w1 ⟨vm, vms, vmx, rfl, hl, hb⟩
      replace S := S.next hl hb
      clear hl hb
      go_wp2_with fail
      refine Calls.mono (mul_var (a := b) (b := c) S.live (by simp) (by simp)) ?_
      rintro e w1 ⟨vn, vns, vnx, rfl, hl, hb⟩
      replace S := S.next hl hb
      clear hl hb
      go_wp2
      go_ret
      exact ⟨rfl, S.below⟩
  · go_wp2_with fail
    refine Calls.mono (add_over (a := a) (b := c) S.live (by simp) (by simp) g1) ?_
    rintro e w1 ⟨vp, rfl, hl, hb⟩
    replace S := S.next hl hb
    clear hl hb
    go_wp2_with fail
    refine Calls.mono (add_var (a := b) (b := c) S.live (by simp) (by simp)) ?_
    rintro e w1 ⟨vq, vqs, vqx, rfl, hl, hb⟩
    replace S := S.next hl hb
    clear hl hb
    go_wp2_with fail
    refine Calls.mono (mul_var (a := a) (b := c) S.live (by simp) (by simp)) ?_
    rintro e w1 ⟨vm, vms, vmx, rfl, hl, hb⟩
    replace S := S.next hl hb
    clear hl hb
    go_wp2_with fail
    refine Calls.mono (mul_var (a := b) (b := c) S.live (by simp) (by simp)) ?_
    rintro e w1 ⟨vn, vns, vnx, rfl, hl, hb⟩
    replace S := S.next hl hb
    clear hl hb
    go_wp2
    go_ret
    exact ⟨rfl, S.below⟩
set_option maxHeartbeats 4000000 in
set_option maxRecDepth 20000 in
theorem order_gt_None_n {va vb : Value} {co : Option Addr} {cc : Nat} {a b c : Nat} (w0 : World) (hL : Live w0 [(va, a), (vb, b), (.slice co (limbs c).length cc, c)]) (hx : b < a) (hc : c ≠ 0) (hz : (((limbs c).length : Int) == 0) = false) :
    Calls Tryd.prog 8 #[va, vb, .slice co (limbs c).length cc] w0 fun e w' => e = .returned (.bool true) ∧ Below w0.heap.size w0 w' := by
  have S : St w0 w0 [(va, a), (vb, b), (.slice co (limbs c).length cc, c)] := ⟨Below.refl _ _, hL⟩
  have Bhx := Bx.mk hx
  have Bhc := Bx.mk hc
  clear hL hx hc
  go_enter Tryd.func8, Tryd.ntmps8
  go_wp2_with fail
  refine Calls.mono (head_any _) ?_
  rintro e w1 ⟨rfl, hb⟩
  replace S := S.on hb
  clear hb
  go_wp2_with fail
  refine Calls.mono (three_ok (a := a) (b := b) (c := c) S.live (by simp) (by simp) (by simp)) ?_
  rintro e w1 ⟨rfl, rfl⟩
  go_wp2_with fail
  refine Calls.mono (cmp_gt (a := a) (b := b) S.live (by simp) (by simp) Bhx.out) ?_
  rintro e w1 ⟨rfl, hl, hb⟩
  replace S := S.next hl hb
  clear hl hb
  go_wp2_with fail
  refine Calls.mono (cmp_var (a := b) (b := c) S.live (by simp) (by simp)) ?_
  rintro e w1 ⟨ny, rfl, hl, hb⟩
  replace S := S.next hl hb
  clear hl hb
  go_wp2_with fail
  refine Calls.mono (cmp_var (a := a) (b := c) S.live (by simp) (by simp)) ?_
  rintro e w1 ⟨nz, rfl, hl, hb⟩
  replace S := S.next hl hb
  clear hl hb
  go_wp2_with fail
  refine Calls.mono (cmp_lt (a := b) (b := a) S.live (by simp) (by simp) Bhx.out) ?_
  rintro e w1 ⟨rfl, hl, hb⟩
  replace S := S.next hl hb
  clear hl hb
  go_wp2_with fail
  refine Calls.mono (same_no (a := a) (b := b) S.live (by simp) (by simp) (Nat.ne_of_gt Bhx.out)) ?_
  rintro e w1 ⟨rfl, hl, hb⟩
  replace S := S.next hl hb
  clear hl hb
  go_wp2_with fail
  refine Calls.mono (sub_ok (a := a) (b := b) S.live (by simp) (by simp) (by have := Bhx.out; omega)) ?_
  rintro e w1 ⟨vd, rfl, hl, hb⟩
  replace S := S.next hl hb
  clear hl hb
  rcases fits_or (a + c) with g1 | g1
  · go_wp2_with fail
    refine Calls.mono (add_ok (a := a) (b := c) S.live (by simp) (by simp) g1) ?_
    rintro e w1 ⟨vp, rfl, hl, hb⟩
    replace S := S.next hl hb
    clear hl hb
    rcases fits_or (b + c) with g2 | g2
    · go_wp2_with fail
      refine Calls.mono (add_ok (a := b) (b := c) S.live (by simp) (by simp) g2) ?_
      rintro e w1 ⟨vq, rfl, hl, hb⟩
      replace S := S.next hl hb
      clear hl hb
      go_wp2_with fail
      refine Calls.mono (cmp_gt (a := (a + c)) (b := (b + c)) S.live (by simp) (by simp) (by have := Bhx.out; omega)) ?_
      rintro e w1 ⟨rfl, hl, hb⟩
      replace S := S.next hl hb
      clear hl hb
      rcases fits_or (a * c) with g3 | g3
      · go_wp2_with fail
        refine Calls.mono (mul_ok (a := a) (b := c) S.live (by simp) (by simp) g3) ?_
        rintro e w1 ⟨vm, rfl, hl, hb⟩
        replace S := S.next hl hb
        clear hl hb
        rcases fits_or (b * c) with g4 | g4
        · go_wp2_with fail
          refine Calls.mono (mul_ok (a := b) (b := c) S.live (by simp) (by simp) g4) ?_
          rintro e w1 ⟨vn, rfl, hl, hb⟩
          replace S := S.next hl hb
          clear hl hb
          go_wp2_with fail
          refine Calls.mono (cmp_gt (a := (a * c)) (b := (b * c)) S.live (by simp) (by simp) (Nat.mul_lt_mul_of_pos_right Bhx.out (Nat.pos_of_ne_zero Bhc.out))) ?_
          rintro e w1 ⟨rfl, hl, hb⟩
          replace S := S.next hl hb
          clear hl hb
          go_wp2
          go_ret
          exact ⟨rfl, S.below⟩
        · go_wp2_with fail
          refine Calls.mono (mul_big (a := b) (b := c) S.live (by simp) (by simp) g4) ?_
          rintro e w1 ⟨vn, rfl, hl, hb⟩
          replace S := S.next hl hb
          clear hl hb
          go_wp2
          go_ret
          exact ⟨rfl, S.below⟩
      · go_wp2_with fail
        refine Calls.mono (mul_big (a := a) (b := c) S.live (by simp) (by simp) g3) ?_
        rintro e w1 ⟨vm, rfl, hl, hb⟩
        replace S := S.next hl hb
        clear hl hb
        go_wp2_with fail
        refine Calls.mono (mul_var (a := b) (b := c) S.live (by simp) (by simp)) ?_
        rintro e w1 ⟨vn, vns, vnx, rfl, hl, hb⟩
        replace S := S.next hl hb
        clear hl hb
        go_wp2
        go_ret
        exact ⟨rfl, S.below⟩
    · go_wp2_with fail
      refine Calls.mono (add_over (a := b) (b := c) S.live (by simp) (by simp) g2) ?_
      rintro e w1 ⟨vq, rfl, hl, hb⟩
      replace S := S.next hl hb
      clear hl hb
      rcases fits_or (a * c) with g3 | g3
      · go_wp2_with fail
        refine Calls.mono (mul_ok (a := a) (b := c) S.live (by simp) (by simp) g3) ?_
        rintro e w1 ⟨vm, rfl, hl, hb⟩
        replace S := S.next hl hb
        clear hl hb
        rcases fits_or (b * c) with g4 | g4
        · go_wp2_with fail
          refine Calls.mono (mul_ok (a := b) (b := c) S.live (by simp) (by simp) g4) ?_
          rintro e w1 ⟨vn, rfl, hl, hb⟩
          replace S := S.next hl hb
          clear hl hb
          go_wp2_with fail
          refine Calls.mono (cmp_gt (a := (a * c)) (b := (b * c)) S.live (by simp) (by simp) (Nat.mul_lt_mul_of_pos_right Bhx.out (Nat.pos_of_ne_zero Bhc.out))) ?_
          rintro e w1 ⟨rfl, hl, hb⟩
          replace S := S.next hl hb
          clear hl hb
          go_wp2
          go_ret
          exact ⟨rfl, S.below⟩
        · go_wp2_with fail
          refine Calls.mono (mul_big (a := b) (b := c) S.live (by simp) (by simp) g4) ?_
          rintro e w1 ⟨vn, rfl, hl, hb⟩
          replace S := S.next hl hb
          clear hl hb
          go_wp2
          go_ret
          exact ⟨rfl, S.below⟩
      · go_wp2_with fail
        refine Calls.mono (mul_big (a := a) (b := c) S.live (by simp) (by simp) g3) ?_
        rintro e w1 ⟨vm, rfl, hl, hb⟩
        replace S := S.next hl hb
        clear hl hb
        go_wp2_with fail
        refine Calls.mono (mul_var (a := b) (b := c) S.live (by simp) (by simp)) ?_
        rintro e w1 ⟨vn, vns, vnx, rfl, hl, hb⟩
        replace S := S.next hl hb
        clear hl hb
        go_wp2
        go_ret
        exact ⟨rfl, S.below⟩
  · go_wp2_with fail
    refine Calls.mono (add_over (a := a) (b := c) S.live (by simp) (by simp) g1) ?_
    rintro e w1 ⟨vp, rfl, hl, hb⟩
    replace S := S.next hl hb
    clear hl hb
    go_wp2_with fail
    refine Calls.mono (add_var (a := b) (b := c) S.live (by simp) (by simp)) ?_
    rintro e w1 ⟨vq, vqs, vqx, rfl, hl, hb⟩
    replace S := S.next hl hb
    clear hl hb
    rcases fits_or (a * c) with g3 | g3
    · go_wp2_with fail
      refine Calls.mono (mul_ok (a := a) (b := c) S.live (by simp) (by simp) g3) ?_
      rintro e w1 ⟨vm, rfl, hl, hb⟩
      replace S := S.next hl hb
      clear hl hb
      rcases fits_or (b * c) with g4 | g4
      · go_wp2_with fail
        refine Calls.mono (mul_ok (a := b) (b := c) S.live (by simp) (by simp) g4) ?_
        rintro e w1 ⟨vn, rfl, hl, hb⟩
        replace S := S.next hl hb
        clear hl hb
        go_wp2_with fail
        refine Calls.mono (cmp_gt (a := (a * c)) (b := (b * c)) S.live (by simp) (by simp) (Nat.mul_lt_mul_of_pos_right Bhx.out (Nat.pos_of_ne_zero Bhc.out))) ?_
        rintro e w1 ⟨rfl, hl, hb⟩
        replace S := S.next hl hb
        clear hl hb
        go_wp2
        go_ret
        exact ⟨rfl, S.below⟩
      · go_wp2_with fail
        refine Calls.mono (mul_big (a := b) (b := c) S.live (by simp) (by simp) g4) ?_
        rintro e w1 ⟨vn, rfl, hl, hb⟩
        replace S := S.next hl hb
        clear hl hb
        go_wp2
        go_ret
        exact ⟨rfl, S.below⟩
    · go_wp2_with fail
      refine Calls.mono (mul_big (a := a) (b := c) S.live (by simp) (by simp) g3) ?_
      rintro e w1 ⟨vm, rfl, hl, hb⟩
      replace S := S.next hl hb
      clear hl hb
      go_wp2_with fail
      refine Calls.mono (mul_var (a := b) (b := c) S.live (by simp) (by simp)) ?_
      rintro e w1 ⟨vn, vns, vnx, rfl, hl, hb⟩
      replace S := S.next hl hb
      clear hl hb
      go_wp2
      go_ret
      exact ⟨rfl, S.below⟩
end Go.Proofs.YtegjhkjmejckdaaDoor
