/- x -/
import Derived.Test.YtegjhkjmejckdaaDoorT12
namespace Go.Proofs.YtegjhkjmejckdaaDoor
open Go.RowKit M
set_option maxHeartbeats 4000000 in
set_option maxRecDepth 20000 in
theorem prod_nz_ss {ao bo : Option Addr} {ca cb : Nat} {vc : Value} {a b c : Nat} (w0 : World) (hL : Live w0 [(.slice ao (limbs a).length ca, a), (.slice bo (limbs b).length cb, b), (vc, c)]) (h1 : Fits (a * b)) (z1 : (((limbs a).length : Int) == 0) = false) (z2 : (((limbs b).length : Int) == 0) = false) (z3 : (((limbs (a * b)).length : Int) == 0) = false) (h2 : Fits (b * c)) (h3 : Fits (a * b * c)) (h4 : Fits (a * (b * c))) (h5 : Fits (b + c)) (h6 : Fits (a * (b + c))) (h7 : Fits (a * c)) (h8 : Fits (a * b + a * c)) :
    Calls Tryd.prog 5 #[.slice ao (limbs a).length ca, .slice bo (limbs b).length cb, vc] w0 fun e w' => e = .returned (.bool true) ∧ Below w0.heap.size w0 w' := by
  have S : St w0 w0 [(.slice ao (limbs a).length ca, a), (.slice bo (limbs b).length cb, b), (vc, c)] := ⟨Below.refl _ _, hL⟩
  have Bh1 := Bx.mk h1
  have Bh2 := Bx.mk h2
  have Bh3 := Bx.mk h3
  have Bh4 := Bx.mk h4
  have Bh5 := Bx.mk h5
  have Bh6 := Bx.mk h6
  have Bh7 := Bx.mk h7
  have Bh8 := Bx.mk h8
  clear hL h1 h2 h3 h4 h5 h6 h7 h8
  go_enter Tryd.func5, Tryd.ntmps5
  go_wp2_with fail
  refine Calls.mono (head_any _) ?_
  rintro e w1 ⟨rfl, hb⟩
  replace S := S.on hb
  clear hb
  go_wp2_with fail
  refine Calls.mono (three_ok (a := a) (b := b) (c := c) S.live (by simp) (by simp) (by simp)) ?_
  rintro e w1 ⟨rfl, rfl⟩
  go_wp2_with fail
  refine Calls.mono (mul_ok (a := a) (b := b) S.live (by simp) (by simp) Bh1.out) ?_
  rintro e w1 ⟨vp, rfl, hl, hb⟩
  replace S := S.next hl hb
  clear hl hb
  obtain ⟨po, pc, rfl, -⟩ := (show Nm _ vp (a * b) from S.live (vp, (a * b)) (by simp)).shape
  go_wp2_with fail
  refine Calls.mono (mul_ok (a := b) (b := a) S.live (by simp) (by simp) (by rw [Nat.mul_comm]; exact Bh1.out)) ?_
  rintro e w1 ⟨vq, rfl, hl, hb⟩
  replace S := S.next hl hb
  clear hl hb
  go_wp2_with fail
  refine Calls.mono (same_yes (a := (a * b)) (b := (b * a)) S.live (by simp) (by simp) (Nat.mul_comm a b)) ?_
  rintro e w1 ⟨rfl, hl, hb⟩
  replace S := S.next hl hb
  clear hl hb
  go_wp2_with fail
  refine Calls.mono (valid_ok (a := (a * b)) S.live (by simp)) ?_
  rintro e w1 ⟨rfl, rfl⟩
  go_wp2_with fail
  refine Calls.mono (mul_ok (a := b) (b := c) S.live (by simp) (by simp) Bh2.out) ?_
  rintro e w1 ⟨vr, rfl, hl, hb⟩
  replace S := S.next hl hb
  clear hl hb
  go_wp2_with fail
  refine Calls.mono (mul_ok (a := (a * b)) (b := c) S.live (by simp) (by simp) Bh3.out) ?_
  rintro e w1 ⟨vu, rfl, hl, hb⟩
  replace S := S.next hl hb
  clear hl hb
  go_wp2_with fail
  refine Calls.mono (mul_ok (a := a) (b := (b * c)) S.live (by simp) (by simp) Bh4.out) ?_
  rintro e w1 ⟨vv, rfl, hl, hb⟩
  replace S := S.next hl hb
  clear hl hb
  go_wp2_with fail
  refine Calls.mono (same_yes (a := (a * b * c)) (b := (a * (b * c))) S.live (by simp) (by simp) (Nat.mul_assoc a b c)) ?_
  rintro e w1 ⟨rfl, hl, hb⟩
  replace S := S.next hl hb
  clear hl hb
  go_wp2_with fail
  refine Calls.mono (add_ok (a := b) (b := c) S.live (by simp) (by simp) Bh5.out) ?_
  rintro e w1 ⟨vw, rfl, hl, hb⟩
  replace S := S.next hl hb
  clear hl hb
  go_wp2_with fail
  refine Calls.mono (mul_ok (a := a) (b := (b + c)) S.live (by simp) (by simp) Bh6.out) ?_
  rintro e w1 ⟨vx, rfl, hl, hb⟩
  replace S := S.next hl hb
  clear hl hb
  go_wp2_with fail
  refine Calls.mono (mul_ok (a := a) (b := c) S.live (by simp) (by simp) Bh7.out) ?_
  rintro e w1 ⟨vy, rfl, hl, hb⟩
  replace S := S.next hl hb
  clear hl hb
  go_wp2_with fail
  refine Calls.mono (add_ok (a := (a * b)) (b := (a * c)) S.live (by simp) (by simp) Bh8.out) ?_
  rintro e w1 ⟨vz, rfl, hl, hb⟩
  replace S := S.next hl hb
  clear hl hb
  go_wp2_with fail
  refine Calls.mono (same_yes (a := (a * (b + c))) (b := (a * b + a * c)) S.live (by simp) (by simp) (Nat.mul_add a b c)) ?_
  rintro e w1 ⟨rfl, hl, hb⟩
  replace S := S.next hl hb
  clear hl hb
  go_wp2
  go_ret
  exact ⟨rfl, S.below⟩
set_option maxHeartbeats 4000000 in
set_option maxRecDepth 20000 in
theorem prod_nz_so {ao bo : Option Addr} {ca cb : Nat} {vc : Value} {a b c : Nat} (w0 : World) (hL : Live w0 [(.slice ao (limbs a).length ca, a), (.slice bo (limbs b).length cb, b), (vc, c)]) (h1 : Fits (a * b)) (z1 : (((limbs a).length : Int) == 0) = false) (z2 : (((limbs b).length : Int) == 0) = false) (z3 : (((limbs (a * b)).length : Int) == 0) = false) (h2 : Fits (b * c)) (h3 : Fits (a * b * c)) (h4 : Fits (a * (b * c))) (h5 : Fits (b + c)) (h6 : Over (a * (b + c))) :
    Calls Tryd.prog 5 #[.slice ao (limbs a).length ca, .slice bo (limbs b).length cb, vc] w0 fun e w' => e = .returned (.bool true) ∧ Below w0.heap.size w0 w' := by
  have S : St w0 w0 [(.slice ao (limbs a).length ca, a), (.slice bo (limbs b).length cb, b), (vc, c)] := ⟨Below.refl _ _, hL⟩
  have Bh1 := Bx.mk h1
  have Bh2 := Bx.mk h2
  have Bh3 := Bx.mk h3
  have Bh4 := Bx.mk h4
  have Bh5 := Bx.mk h5
  have Bh6 := Bx.mk h6
  clear hL h1 h2 h3 h4 h5 h6
  go_enter Tryd.func5, Tryd.ntmps5
  go_wp2_with fail
  refine Calls.mono (head_any _) ?_
  rintro e w1 ⟨rfl, hb⟩
  replace S := S.on hb
  clear hb
  go_wp2_with fail
  refine Calls.mono (three_ok (a := a) (b := b) (c := c) S.live (by simp) (by simp) (by simp)) ?_
  rintro e w1 ⟨rfl, rfl⟩
  go_wp2_with fail
  refine Calls.mono (mul_ok (a := a) (b := b) S.live (by simp) (by simp) Bh1.out) ?_
  rintro e w1 ⟨vp, rfl, hl, hb⟩
  replace S := S.next hl hb
  clear hl hb
  obtain ⟨po, pc, rfl, -⟩ := (show Nm _ vp (a * b) from S.live (vp, (a * b)) (by simp)).shape
  go_wp2_with fail
  refine Calls.mono (mul_ok (a := b) (b := a) S.live (by simp) (by simp) (by rw [Nat.mul_comm]; exact Bh1.out)) ?_
  rintro e w1 ⟨vq, rfl, hl, hb⟩
  replace S := S.next hl hb
  clear hl hb
  go_wp2_with fail
  refine Calls.mono (same_yes (a := (a * b)) (b := (b * a)) S.live (by simp) (by simp) (Nat.mul_comm a b)) ?_
  rintro e w1 ⟨rfl, hl, hb⟩
  replace S := S.next hl hb
  clear hl hb
  go_wp2_with fail
  refine Calls.mono (valid_ok (a := (a * b)) S.live (by simp)) ?_
  rintro e w1 ⟨rfl, rfl⟩
  go_wp2_with fail
  refine Calls.mono (mul_ok (a := b) (b := c) S.live (by simp) (by simp) Bh2.out) ?_
  rintro e w1 ⟨vr, rfl, hl, hb⟩
  replace S := S.next hl hb
  clear hl hb
  go_wp2_with fail
  refine Calls.mono (mul_ok (a := (a * b)) (b := c) S.live (by simp) (by simp) Bh3.out) ?_
  rintro e w1 ⟨vu, rfl, hl, hb⟩
  replace S := S.next hl hb
  clear hl hb
  go_wp2_with fail
  refine Calls.mono (mul_ok (a := a) (b := (b * c)) S.live (by simp) (by simp) Bh4.out) ?_
  rintro e w1 ⟨vv, rfl, hl, hb⟩
  replace S := S.next hl hb
  clear hl hb
  go_wp2_with fail
  refine Calls.mono (same_yes (a := (a * b * c)) (b := (a * (b * c))) S.live (by simp) (by simp) (Nat.mul_assoc a b c)) ?_
  rintro e w1 ⟨rfl, hl, hb⟩
  replace S := S.next hl hb
  clear hl hb
  go_wp2_with fail
  refine Calls.mono (add_ok (a := b) (b := c) S.live (by simp) (by simp) Bh5.out) ?_
  rintro e w1 ⟨vw, rfl, hl, hb⟩
  replace S := S.next hl hb
  clear hl hb
  go_wp2_with fail
  refine Calls.mono (mul_big (a := a) (b := (b + c)) S.live (by simp) (by simp) Bh6.out) ?_
  rintro e w1 ⟨vx, rfl, hl, hb⟩
  replace S := S.next hl hb
  clear hl hb
  go_wp2_with fail
  refine Calls.mono (mul_var (a := a) (b := c) S.live (by simp) (by simp)) ?_
  rintro e w1 ⟨vy, vys, vyx, rfl, hl, hb⟩
  replace S := S.next hl hb
  clear hl hb
  go_wp2_with fail
  refine Calls.mono (add_var (a := (a * b)) (b := vys) S.live (by simp) (by simp)) ?_
  rintro e w1 ⟨vz, vzs, vzx, rfl, hl, hb⟩
  replace S := S.next hl hb
  clear hl hb
  go_wp2
  go_ret
  exact ⟨rfl, S.below⟩
set_option maxHeartbeats 4000000 in
set_option maxRecDepth 20000 in
theorem prod_nz_sv {ao bo : Option Addr} {ca cb : Nat} {vc : Value} {a b c : Nat} (w0 : World) (hL : Live w0 [(.slice ao (limbs a).length ca, a), (.slice bo (limbs b).length cb, b), (vc, c)]) (h1 : Fits (a * b)) (z1 : (((limbs a).length : Int) == 0) = false) (z2 : (((limbs b).length : Int) == 0) = false) (z3 : (((limbs (a * b)).length : Int) == 0) = false) (h2 : Fits (b * c)) (h3 : Fits (a * b * c)) (h4 : Fits (a * (b * c))) (h5 : Over (b + c)) :
    Calls Tryd.prog 5 #[.slice ao (limbs a).length ca, .slice bo (limbs b).length cb, vc] w0 fun e w' => e = .returned (.bool true) ∧ Below w0.heap.size w0 w' := by
  have S : St w0 w0 [(.slice ao (limbs a).length ca, a), (.slice bo (limbs b).length cb, b), (vc, c)] := ⟨Below.refl _ _, hL⟩
  have Bh1 := Bx.mk h1
  have Bh2 := Bx.mk h2
  have Bh3 := Bx.mk h3
  have Bh4 := Bx.mk h4
  have Bh5 := Bx.mk h5
  clear hL h1 h2 h3 h4 h5
  go_enter Tryd.func5, Tryd.ntmps5
  go_wp2_with fail
  refine Calls.mono (head_any _) ?_
  rintro e w1 ⟨rfl, hb⟩
  replace S := S.on hb
  clear hb
  go_wp2_with fail
  refine Calls.mono (three_ok (a := a) (b := b) (c := c) S.live (by simp) (by simp) (by simp)) ?_
  rintro e w1 ⟨rfl, rfl⟩
  go_wp2_with fail
  refine Calls.mono (mul_ok (a := a) (b := b) S.live (by simp) (by simp) Bh1.out) ?_
  rintro e w1 ⟨vp, rfl, hl, hb⟩
  replace S := S.next hl hb
  clear hl hb
  obtain ⟨po, pc, rfl, -⟩ := (show Nm _ vp (a * b) from S.live (vp, (a * b)) (by simp)).shape
  go_wp2_with fail
  refine Calls.mono (mul_ok (a := b) (b := a) S.live (by simp) (by simp) (by rw [Nat.mul_comm]; exact Bh1.out)) ?_
  rintro e w1 ⟨vq, rfl, hl, hb⟩
  replace S := S.next hl hb
  clear hl hb
  go_wp2_with fail
  refine Calls.mono (same_yes (a := (a * b)) (b := (b * a)) S.live (by simp) (by simp) (Nat.mul_comm a b)) ?_
  rintro e w1 ⟨rfl, hl, hb⟩
  replace S := S.next hl hb
  clear hl hb
  go_wp2_with fail
  refine Calls.mono (valid_ok (a := (a * b)) S.live (by simp)) ?_
  rintro e w1 ⟨rfl, rfl⟩
  go_wp2_with fail
  refine Calls.mono (mul_ok (a := b) (b := c) S.live (by simp) (by simp) Bh2.out) ?_
  rintro e w1 ⟨vr, rfl, hl, hb⟩
  replace S := S.next hl hb
  clear hl hb
  go_wp2_with fail
  refine Calls.mono (mul_ok (a := (a * b)) (b := c) S.live (by simp) (by simp) Bh3.out) ?_
  rintro e w1 ⟨vu, rfl, hl, hb⟩
  replace S := S.next hl hb
  clear hl hb
  go_wp2_with fail
  refine Calls.mono (mul_ok (a := a) (b := (b * c)) S.live (by simp) (by simp) Bh4.out) ?_
  rintro e w1 ⟨vv, rfl, hl, hb⟩
  replace S := S.next hl hb
  clear hl hb
  go_wp2_with fail
  refine Calls.mono (same_yes (a := (a * b * c)) (b := (a * (b * c))) S.live (by simp) (by simp) (Nat.mul_assoc a b c)) ?_
  rintro e w1 ⟨rfl, hl, hb⟩
  replace S := S.next hl hb
  clear hl hb
  go_wp2_with fail
  refine Calls.mono (add_over (a := b) (b := c) S.live (by simp) (by simp) Bh5.out) ?_
  rintro e w1 ⟨vw, rfl, hl, hb⟩
  replace S := S.next hl hb
  clear hl hb
  go_wp2_with fail
  refine Calls.mono (mul_var (a := a) (b := 0) S.live (by simp) (by simp)) ?_
  rintro e w1 ⟨vx, vxs, vxx, rfl, hl, hb⟩
  replace S := S.next hl hb
  clear hl hb
  go_wp2_with fail
  refine Calls.mono (mul_var (a := a) (b := c) S.live (by simp) (by simp)) ?_
  rintro e w1 ⟨vy, vys, vyx, rfl, hl, hb⟩
  replace S := S.next hl hb
  clear hl hb
  go_wp2_with fail
  refine Calls.mono (add_var (a := (a * b)) (b := vys) S.live (by simp) (by simp)) ?_
  rintro e w1 ⟨vz, vzs, vzx, rfl, hl, hb⟩
  replace S := S.next hl hb
  clear hl hb
  go_wp2
  go_ret
  exact ⟨rfl, S.below⟩
set_option maxHeartbeats 4000000 in
set_option maxRecDepth 20000 in
theorem prod_nz_os {ao bo : Option Addr} {ca cb : Nat} {vc : Value} {a b c : Nat} (w0 : World) (hL : Live w0 [(.slice ao (limbs a).length ca, a), (.slice bo (limbs b).length cb, b), (vc, c)]) (h1 : Fits (a * b)) (z1 : (((limbs a).length : Int) == 0) = false) (z2 : (((limbs b).length : Int) == 0) = false) (z3 : (((limbs (a * b)).length : Int) == 0) = false) (h2 : Fits (b * c)) (h3 : Over (a * b * c)) (h5 : Fits (b + c)) (h6 : Fits (a * (b + c))) (h7 : Fits (a * c)) (h8 : Fits (a * b + a * c)) :
    Calls Tryd.prog 5 #[.slice ao (limbs a).length ca, .slice bo (limbs b).length cb, vc] w0 fun e w' => e = .returned (.bool true) ∧ Below w0.heap.size w0 w' := by
  have S : St w0 w0 [(.slice ao (limbs a).length ca, a), (.slice bo (limbs b).length cb, b), (vc, c)] := ⟨Below.refl _ _, hL⟩
  have Bh1 := Bx.mk h1
  have Bh2 := Bx.mk h2
  have Bh3 := Bx.mk h3
  have Bh5 := Bx.mk h5
  have Bh6 := Bx.mk h6
  have Bh7 := Bx.mk h7
  have Bh8 := Bx.mk h8
  clear hL h1 h2 h3 h5 h6 h7 h8
  go_enter Tryd.func5, Tryd.ntmps5
  go_wp2_with fail
  refine Calls.mono (head_any _) ?_
  rintro e w1 ⟨rfl, hb⟩
  replace S := S.on hb
  clear hb
  go_wp2_with fail
  refine Calls.mono (three_ok (a := a) (b := b) (c := c) S.live (by simp) (by simp) (by simp)) ?_
  rintro e w1 ⟨rfl, rfl⟩
  go_wp2_with fail
  refine Calls.mono (mul_ok (a := a) (b := b) S.live (by simp) (by simp) Bh1.out) ?_
  rintro e w1 ⟨vp, rfl, hl, hb⟩
  replace S := S.next hl hb
  clear hl hb
  obtain ⟨po, pc, rfl, -⟩ := (show Nm _ vp (a * b) from S.live (vp, (a * b)) (by simp)).shape
  go_wp2_with fail
  refine Calls.mono (mul_ok (a := b) (b := a) S.live (by simp) (by simp) (by rw [Nat.mul_comm]; exact Bh1.out)) ?_
  rintro e w1 ⟨vq, rfl, hl, hb⟩
  replace S := S.next hl hb
  clear hl hb
  go_wp2_with fail
  refine Calls.mono (same_yes (a := (a * b)) (b := (b * a)) S.live (by simp) (by simp) (Nat.mul_comm a b)) ?_
  rintro e w1 ⟨rfl, hl, hb⟩
  replace S := S.next hl hb
  clear hl hb
  go_wp2_with fail
  refine Calls.mono (valid_ok (a := (a * b)) S.live (by simp)) ?_
  rintro e w1 ⟨rfl, rfl⟩
  go_wp2_with fail
  refine Calls.mono (mul_ok (a := b) (b := c) S.live (by simp) (by simp) Bh2.out) ?_
  rintro e w1 ⟨vr, rfl, hl, hb⟩
  replace S := S.next hl hb
  clear hl hb
  go_wp2_with fail
  refine Calls.mono (mul_big (a := (a * b)) (b := c) S.live (by simp) (by simp) Bh3.out) ?_
  rintro e w1 ⟨vu, rfl, hl, hb⟩
  replace S := S.next hl hb
  clear hl hb
  go_wp2_with fail
  refine Calls.mono (mul_var (a := a) (b := (b * c)) S.live (by simp) (by simp)) ?_
  rintro e w1 ⟨vv, vvs, vvx, rfl, hl, hb⟩
  replace S := S.next hl hb
  clear hl hb
  go_wp2_with fail
  refine Calls.mono (add_ok (a := b) (b := c) S.live (by simp) (by simp) Bh5.out) ?_
  rintro e w1 ⟨vw, rfl, hl, hb⟩
  replace S := S.next hl hb
  clear hl hb
  go_wp2_with fail
  refine Calls.mono (mul_ok (a := a) (b := (b + c)) S.live (by simp) (by simp) Bh6.out) ?_
  rintro e w1 ⟨vx, rfl, hl, hb⟩
  replace S := S.next hl hb
  clear hl hb
  go_wp2_with fail
  refine Calls.mono (mul_ok (a := a) (b := c) S.live (by simp) (by simp) Bh7.out) ?_
  rintro e w1 ⟨vy, rfl, hl, hb⟩
  replace S := S.next hl hb
  clear hl hb
  go_wp2_with fail
  refine Calls.mono (add_ok (a := (a * b)) (b := (a * c)) S.live (by simp) (by simp) Bh8.out) ?_
  rintro e w1 ⟨vz, rfl, hl, hb⟩
  replace S := S.next hl hb
  clear hl hb
  go_wp2_with fail
  refine Calls.mono (same_yes (a := (a * (b + c))) (b := (a * b + a * c)) S.live (by simp) (by simp) (Nat.mul_add a b c)) ?_
  rintro e w1 ⟨rfl, hl, hb⟩
  replace S := S.next hl hb
  clear hl hb
  go_wp2
  go_ret
  exact ⟨rfl, S.below⟩
set_option maxHeartbeats 4000000 in
set_option maxRecDepth 20000 in
theorem prod_nz_oo {ao bo : Option Addr} {ca cb : Nat} {vc : Value} {a b c : Nat} (w0 : World) (hL : Live w0 [(.slice ao (limbs a).length ca, a), (.slice bo (limbs b).length cb, b), (vc, c)]) (h1 : Fits (a * b)) (z1 : (((limbs a).length : Int) == 0) = false) (z2 : (((limbs b).length : Int) == 0) = false) (z3 : (((limbs (a * b)).length : Int) == 0) = false) (h2 : Fits (b * c)) (h3 : Over (a * b * c)) (h5 : Fits (b + c)) (h6 : Over (a * (b + c))) :
    Calls Tryd.prog 5 #[.slice ao (limbs a).length ca, .slice bo (limbs b).length cb, vc] w0 fun e w' => e = .returned (.bool true) ∧ Below w0.heap.size w0 w' := by
  have S : St w0 w0 [(.slice ao (limbs a).length ca, a), (.slice bo (limbs b).length cb, b), (vc, c)] := ⟨Below.refl _ _, hL⟩
  have Bh1 := Bx.mk h1
  have Bh2 := Bx.mk h2
  have Bh3 := Bx.mk h3
  have Bh5 := Bx.mk h5
  have Bh6 := Bx.mk h6
  clear hL h1 h2 h3 h5 h6
  go_enter Tryd.func5, Tryd.ntmps5
  go_wp2_with fail
  refine Calls.mono (head_any _) ?_
  rintro e w1 ⟨rfl, hb⟩
  replace S := S.on hb
  clear hb
  go_wp2_with fail
  refine Calls.mono (three_ok (a := a) (b := b) (c := c) S.live (by simp) (by simp) (by simp)) ?_
  rintro e w1 ⟨rfl, rfl⟩
  go_wp2_with fail
  refine Calls.mono (mul_ok (a := a) (b := b) S.live (by simp) (by simp) Bh1.out) ?_
  rintro e w1 ⟨vp, rfl, hl, hb⟩
  replace S := S.next hl hb
  clear hl hb
  obtain ⟨po, pc, rfl, -⟩ := (show Nm _ vp (a * b) from S.live (vp, (a * b)) (by simp)).shape
  go_wp2_with fail
  refine Calls.mono (mul_ok (a := b) (b := a) S.live (by simp) (by simp) (by rw [Nat.mul_comm]; exact Bh1.out)) ?_
  rintro e w1 ⟨vq, rfl, hl, hb⟩
  replace S := S.next hl hb
  clear hl hb
  go_wp2_with fail
  refine Calls.mono (same_yes (a := (a * b)) (b := (b * a)) S.live (by simp) (by simp) (Nat.mul_comm a b)) ?_
  rintro e w1 ⟨rfl, hl, hb⟩
  replace S := S.next hl hb
  clear hl hb
  go_wp2_with fail
  refine Calls.mono (valid_ok (a := (a * b)) S.live (by simp)) ?_
  rintro e w1 ⟨rfl, rfl⟩
  go_wp2_with fail
  refine Calls.mono (mul_ok (a := b) (b := c) S.live (by simp) (by simp) Bh2.out) ?_
  rintro e w1 ⟨vr, rfl, hl, hb⟩
  replace S := S.next hl hb
  clear hl hb
  go_wp2_with fail
  refine Calls.mono (mul_big (a := (a * b)) (b := c) S.live (by simp) (by simp) Bh3.out) ?_
  rintro e w1 ⟨vu, rfl, hl, hb⟩
  replace S := S.next hl hb
  clear hl hb
  go_wp2_with fail
  refine Calls.mono (mul_var (a := a) (b := (b * c)) S.live (by simp) (by simp)) ?_
  rintro e w1 ⟨vv, vvs, vvx, rfl, hl, hb⟩
  replace S := S.next hl hb
  clear hl hb
  go_wp2_with fail
  refine Calls.mono (add_ok (a := b) (b := c) S.live (by simp) (by simp) Bh5.out) ?_
  rintro e w1 ⟨vw, rfl, hl, hb⟩
  replace S := S.next hl hb
  clear hl hb
  go_wp2_with fail
  refine Calls.mono (mul_big (a := a) (b := (b + c)) S.live (by simp) (by simp) Bh6.out) ?_
  rintro e w1 ⟨vx, rfl, hl, hb⟩
  replace S := S.next hl hb
  clear hl hb
  go_wp2_with fail
  refine Calls.mono (mul_var (a := a) (b := c) S.live (by simp) (by simp)) ?_
  rintro e w1 ⟨vy, vys, vyx, rfl, hl, hb⟩
  replace S := S.next hl hb
  clear hl hb
  go_wp2_with fail
  refine Calls.mono (add_var (a := (a * b)) (b := vys) S.live (by simp) (by simp)) ?_
  rintro e w1 ⟨vz, vzs, vzx, rfl, hl, hb⟩
  replace S := S.next hl hb
  clear hl hb
  go_wp2
  go_ret
  exact ⟨rfl, S.below⟩
set_option maxHeartbeats 4000000 in
set_option maxRecDepth 20000 in
theorem prod_nz_ov {ao bo : Option Addr} {ca cb : Nat} {vc : Value} {a b c : Nat} (w0 : World) (hL : Live w0 [(.slice ao (limbs a).length ca, a), (.slice bo (limbs b).length cb, b), (vc, c)]) (h1 : Fits (a * b)) (z1 : (((limbs a).length : Int) == 0) = false) (z2 : (((limbs b).length : Int) == 0) = false) (z3 : (((limbs (a * b)).length : Int) == 0) = false) (h2 : Fits (b * c)) (h3 : Over (a * b * c)) (h5 : Over (b + c)) :
    Calls Tryd.prog 5 #[.slice ao (limbs a).length ca, .slice bo (limbs b).length cb, vc] w0 fun e w' => e = .returned (.bool true) ∧ Below w0.heap.size w0 w' := by
  have S : St w0 w0 [(.slice ao (limbs a).length ca, a), (.slice bo (limbs b).length cb, b), (vc, c)] := ⟨Below.refl _ _, hL⟩
  have Bh1 := Bx.mk h1
  have Bh2 := Bx.mk h2
  have Bh3 := Bx.mk h3
  have Bh5 := Bx.mk h5
  clear hL h1 h2 h3 h5
  go_enter Tryd.func5, Tryd.ntmps5
  go_wp2_with fail
  refine Calls.mono (head_any _) ?_
  rintro e w1 ⟨rfl, hb⟩
  replace S := S.on hb
  clear hb
  go_wp2_with fail
  refine Calls.mono (three_ok (a := a) (b := b) (c := c) S.live (by simp) (by simp) (by simp)) ?_
  rintro e w1 ⟨rfl, rfl⟩
  go_wp2_with fail
  refine Calls.mono (mul_ok (a := a) (b := b) S.live (by simp) (by simp) Bh1.out) ?_
  rintro e w1 ⟨vp, rfl, hl, hb⟩
  replace S := S.next hl hb
  clear hl hb
  obtain ⟨po, pc, rfl, -⟩ := (show Nm _ vp (a * b) from S.live (vp, (a * b)) (by simp)).shape
  go_wp2_with fail
  refine Calls.mono (mul_ok (a := b) (b := a) S.live (by simp) (by simp) (by rw [Nat.mul_comm]; exact Bh1.out)) ?_
  rintro e w1 ⟨vq, rfl, hl, hb⟩
  replace S := S.next hl hb
  clear hl hb
  go_wp2_with fail
  refine Calls.mono (same_yes (a := (a * b)) (b := (b * a)) S.live (by simp) (by simp) (Nat.mul_comm a b)) ?_
  rintro e w1 ⟨rfl, hl, hb⟩
  replace S := S.next hl hb
  clear hl hb
  go_wp2_with fail
  refine Calls.mono (valid_ok (a := (a * b)) S.live (by simp)) ?_
  rintro e w1 ⟨rfl, rfl⟩
  go_wp2_with fail
  refine Calls.mono (mul_ok (a := b) (b := c) S.live (by simp) (by simp) Bh2.out) ?_
  rintro e w1 ⟨vr, rfl, hl, hb⟩
  replace S := S.next hl hb
  clear hl hb
  go_wp2_with fail
  refine Calls.mono (mul_big (a := (a * b)) (b := c) S.live (by simp) (by simp) Bh3.out) ?_
  rintro e w1 ⟨vu, rfl, hl, hb⟩
  replace S := S.next hl hb
  clear hl hb
  go_wp2_with fail
  refine Calls.mono (mul_var (a := a) (b := (b * c)) S.live (by simp) (by simp)) ?_
  rintro e w1 ⟨vv, vvs, vvx, rfl, hl, hb⟩
  replace S := S.next hl hb
  clear hl hb
  go_wp2_with fail
  refine Calls.mono (add_over (a := b) (b := c) S.live (by simp) (by simp) Bh5.out) ?_
  rintro e w1 ⟨vw, rfl, hl, hb⟩
  replace S := S.next hl hb
  clear hl hb
  go_wp2_with fail
  refine Calls.mono (mul_var (a := a) (b := 0) S.live (by simp) (by simp)) ?_
  rintro e w1 ⟨vx, vxs, vxx, rfl, hl, hb⟩
  replace S := S.next hl hb
  clear hl hb
  go_wp2_with fail
  refine Calls.mono (mul_var (a := a) (b := c) S.live (by simp) (by simp)) ?_
  rintro e w1 ⟨vy, vys, vyx, rfl, hl, hb⟩
  replace S := S.next hl hb
  clear hl hb
  go_wp2_with fail
  refine Calls.mono (add_var (a := (a * b)) (b := vys) S.live (by simp) (by simp)) ?_
  rintro e w1 ⟨vz, vzs, vzx, rfl, hl, hb⟩
  replace S := S.next hl hb
  clear hl hb
  go_wp2
  go_ret
  exact ⟨rfl, S.below⟩
set_option maxHeartbeats 4000000 in
set_option maxRecDepth 20000 in
theorem prod_nz_vs {ao bo : Option Addr} {ca cb : Nat} {vc : Value} {a b c : Nat} (w0 : World) (hL : Live w0 [(.slice ao (limbs a).length ca, a), (.slice bo (limbs b).length cb, b), (vc, c)]) (h1 : Fits (a * b)) (z1 : (((limbs a).length : Int) == 0) = false) (z2 : (((limbs b).length : Int) == 0) = false) (z3 : (((limbs (a * b)).length : Int) == 0) = false) (h2 : Over (b * c)) (h5 : Fits (b + c)) (h6 : Fits (a * (b + c))) (h7 : Fits (a * c)) (h8 : Fits (a * b + a * c)) :
    Calls Tryd.prog 5 #[.slice ao (limbs a).length ca, .slice bo (limbs b).length cb, vc] w0 fun e w' => e = .returned (.bool true) ∧ Below w0.heap.size w0 w' := by
  have S : St w0 w0 [(.slice ao (limbs a).length ca, a), (.slice bo (limbs b).length cb, b), (vc, c)] := ⟨Below.refl _ _, hL⟩
  have Bh1 := Bx.mk h1
  have Bh2 := Bx.mk h2
  have Bh5 := Bx.mk h5
  have Bh6 := Bx.mk h6
  have Bh7 := Bx.mk h7
  have Bh8 := Bx.mk h8
  clear hL h1 h2 h5 h6 h7 h8
  go_enter Tryd.func5, Tryd.ntmps5
  go_wp2_with fail
  refine Calls.mono (head_any _) ?_
  rintro e w1 ⟨rfl, hb⟩
  replace S := S.on hb
  clear hb
  go_wp2_with fail
  refine Calls.mono (three_ok (a := a) (b := b) (c := c) S.live (by simp) (by simp) (by simp)) ?_
  rintro e w1 ⟨rfl, rfl⟩
  go_wp2_with fail
  refine Calls.mono (mul_ok (a := a) (b := b) S.live (by simp) (by simp) Bh1.out) ?_
  rintro e w1 ⟨vp, rfl, hl, hb⟩
  replace S := S.next hl hb
  clear hl hb
  obtain ⟨po, pc, rfl, -⟩ := (show Nm _ vp (a * b) from S.live (vp, (a * b)) (by simp)).shape
  go_wp2_with fail
  refine Calls.mono (mul_ok (a := b) (b := a) S.live (by simp) (by simp) (by rw [Nat.mul_comm]; exact Bh1.out)) ?_
  rintro e w1 ⟨vq, rfl, hl, hb⟩
  replace S := S.next hl hb
  clear hl hb
  go_wp2_with fail
  refine Calls.mono (same_yes (a := (a * b)) (b := (b * a)) S.live (by simp) (by simp) (Nat.mul_comm a b)) ?_
  rintro e w1 ⟨rfl, hl, hb⟩
  replace S := S.next hl hb
  clear hl hb
  go_wp2_with fail
  refine Calls.mono (valid_ok (a := (a * b)) S.live (by simp)) ?_
  rintro e w1 ⟨rfl, rfl⟩
  go_wp2_with fail
  refine Calls.mono (mul_big (a := b) (b := c) S.live (by simp) (by simp) Bh2.out) ?_
  rintro e w1 ⟨vr, rfl, hl, hb⟩
  replace S := S.next hl hb
  clear hl hb
  go_wp2_with fail
  refine Calls.mono (mul_var (a := (a * b)) (b := c) S.live (by simp) (by simp)) ?_
  rintro e w1 ⟨vu, vus, vux, rfl, hl, hb⟩
  replace S := S.next hl hb
  clear hl hb
  go_wp2_with fail
  refine Calls.mono (mul_var (a := a) (b := 0) S.live (by simp) (by simp)) ?_
  rintro e w1 ⟨vv, vvs, vvx, rfl, hl, hb⟩
  replace S := S.next hl hb
  clear hl hb
  go_wp2_with fail
  refine Calls.mono (add_ok (a := b) (b := c) S.live (by simp) (by simp) Bh5.out) ?_
  rintro e w1 ⟨vw, rfl, hl, hb⟩
  replace S := S.next hl hb
  clear hl hb
  go_wp2_with fail
  refine Calls.mono (mul_ok (a := a) (b := (b + c)) S.live (by simp) (by simp) Bh6.out) ?_
  rintro e w1 ⟨vx, rfl, hl, hb⟩
  replace S := S.next hl hb
  clear hl hb
  go_wp2_with fail
  refine Calls.mono (mul_ok (a := a) (b := c) S.live (by simp) (by simp) Bh7.out) ?_
  rintro e w1 ⟨vy, rfl, hl, hb⟩
  replace S := S.next hl hb
  clear hl hb
  go_wp2_with fail
  refine Calls.mono (add_ok (a := (a * b)) (b := (a * c)) S.live (by simp) (by simp) Bh8.out) ?_
  rintro e w1 ⟨vz, rfl, hl, hb⟩
  replace S := S.next hl hb
  clear hl hb
  go_wp2_with fail
  refine Calls.mono (same_yes (a := (a * (b + c))) (b := (a * b + a * c)) S.live (by simp) (by simp) (Nat.mul_add a b c)) ?_
  rintro e w1 ⟨rfl, hl, hb⟩
  replace S := S.next hl hb
  clear hl hb
  go_wp2
  go_ret
  exact ⟨rfl, S.below⟩
set_option maxHeartbeats 4000000 in
set_option maxRecDepth 20000 in
theorem prod_nz_vo {ao bo : Option Addr} {ca cb : Nat} {vc : Value} {a b c : Nat} (w0 : World) (hL : Live w0 [(.slice ao (limbs a).length ca, a), (.slice bo (limbs b).length cb, b), (vc, c)]) (h1 : Fits (a * b)) (z1 : (((limbs a).length : Int) == 0) = false) (z2 : (((limbs b).length : Int) == 0) = false) (z3 : (((limbs (a * b)).length : Int) == 0) = false) (h2 : Over (b * c)) (h5 : Fits (b + c)) (h6 : Over (a * (b + c))) :
    Calls Tryd.prog 5 #[.slice ao (limbs a).length ca, .slice bo (limbs b).length cb, vc] w0 fun e w' => e = .returned (.bool true) ∧ Below w0.heap.size w0 w' := by
  have S : St w0 w0 [(.slice ao (limbs a).length ca, a), (.slice bo (limbs b).length cb, b), (vc, c)] := ⟨Below.refl _ _, hL⟩
  have Bh1 := Bx.mk h1
  have Bh2 := Bx.mk h2
  have Bh5 := Bx.mk h5
  have Bh6 := Bx.mk h6
  clear hL h1 h2 h5 h6
  go_enter Tryd.func5, Tryd.ntmps5
  go_wp2_with fail
  refine Calls.mono (head_any _) ?_
  rintro e w1 ⟨rfl, hb⟩
  replace S := S.on hb
  clear hb
  go_wp2_with fail
  refine Calls.mono (three_ok (a := a) (b := b) (c := c) S.live (by simp) (by simp) (by simp)) ?_
  rintro e w1 ⟨rfl, rfl⟩
  go_wp2_with fail
  refine Calls.mono (mul_ok (a := a) (b := b) S.live (by simp) (by simp) Bh1.out) ?_
  rintro e w1 ⟨vp, rfl, hl, hb⟩
  replace S := S.next hl hb
  clear hl hb
  obtain ⟨po, pc, rfl, -⟩ := (show Nm _ vp (a * b) from S.live (vp, (a * b)) (by simp)).shape
  go_wp2_with fail
  refine Calls.mono (mul_ok (a := b) (b := a) S.live (by simp) (by simp) (by rw [Nat.mul_comm]; exact Bh1.out)) ?_
  rintro e w1 ⟨vq, rfl, hl, hb⟩
  replace S := S.next hl hb
  clear hl hb
  go_wp2_with fail
  refine Calls.mono (same_yes (a := (a * b)) (b := (b * a)) S.live (by simp) (by simp) (Nat.mul_comm a b)) ?_
  rintro e w1 ⟨rfl, hl, hb⟩
  replace S := S.next hl hb
  clear hl hb
  go_wp2_with fail
  refine Calls.mono (valid_ok (a := (a * b)) S.live (by simp)) ?_
  rintro e w1 ⟨rfl, rfl⟩
  go_wp2_with fail
  refine Calls.mono (mul_big (a := b) (b := c) S.live (by simp) (by simp) Bh2.out) ?_
  rintro e w1 ⟨vr, rfl, hl, hb⟩
  replace S := S.next hl hb
  clear hl hb
  go_wp2_with fail
  refine Calls.mono (mul_var (a := (a * b)) (b := c) S.live (by simp) (by simp)) ?_
  rintro e w1 ⟨vu, vus, vux, rfl, hl, hb⟩
  replace S := S.next hl hb
  clear hl hb
  go_wp2_with fail
  refine Calls.mono (mul_var (a := a) (b := 0) S.live (by simp) (by simp)) ?_
  rintro e w1 ⟨vv, vvs, vvx, rfl, hl, hb⟩
  replace S := S.next hl hb
  clear hl hb
  go_wp2_with fail
  refine Calls.mono (add_ok (a := b) (b := c) S.live (by simp) (by simp) Bh5.out) ?_
  rintro e w1 ⟨vw, rfl, hl, hb⟩
  replace S := S.next hl hb
  clear hl hb
  go_wp2_with fail
  refine Calls.mono (mul_big (a := a) (b := (b + c)) S.live (by simp) (by simp) Bh6.out) ?_
  rintro e w1 ⟨vx, rfl, hl, hb⟩
  replace S := S.next hl hb
  clear hl hb
  go_wp2_with fail
  refine Calls.mono (mul_var (a := a) (b := c) S.live (by simp) (by simp)) ?_
  rintro e w1 ⟨vy, vys, vyx, rfl, hl, hb⟩
  replace S := S.next hl hb
  clear hl hb
  go_wp2_with fail
  refine Calls.mono (add_var (a := (a * b)) (b := vys) S.live (by simp) (by simp)) ?_
  rintro e w1 ⟨vz, vzs, vzx, rfl, hl, hb⟩
  replace S := S.next hl hb
  clear hl hb
  go_wp2
  go_ret
  exact ⟨rfl, S.below⟩
set_option maxHeartbeats 4000000 in
set_option maxRecDepth 20000 in
theorem prod_nz_vv {ao bo : Option Addr} {ca cb : Nat} {vc : Value} {a b c : Nat} (w0 : World) (hL : Live w0 [(.slice ao (limbs a).length ca, a), (.slice bo (limbs b).length cb, b), (vc, c)]) (h1 : Fits (a * b)) (z1 : (((limbs a).length : Int) == 0) = false) (z2 : (((limbs b).length : Int) == 0) = false) (z3 : (((limbs (a * b)).length : Int) == 0) = false) (h2 : Over (b * c)) (h5 : Over (b + c)) :
    Calls Tryd.prog 5 #[.slice ao (limbs a).length ca, .slice bo (limbs b).length cb, vc] w0 fun e w' => e = .returned (.bool true) ∧ Below w0.heap.size w0 w' := by
  have S : St w0 w0 [(.slice ao (limbs a).length ca, a), (.slice bo (limbs b).length cb, b), (vc, c)] := ⟨Below.refl _ _, hL⟩
  have Bh1 := Bx.mk h1
  have Bh2 := Bx.mk h2
  have Bh5 := Bx.mk h5
  clear hL h1 h2 h5
  go_enter Tryd.func5, Tryd.ntmps5
  go_wp2_with fail
  refine Calls.mono (head_any _) ?_
  rintro e w1 ⟨rfl, hb⟩
  replace S := S.on hb
  clear hb
  go_wp2_with fail
  refine Calls.mono (three_ok (a := a) (b := b) (c := c) S.live (by simp) (by simp) (by simp)) ?_
  rintro e w1 ⟨rfl, rfl⟩
  go_wp2_with fail
  refine Calls.mono (mul_ok (a := a) (b := b) S.live (by simp) (by simp) Bh1.out) ?_
  rintro e w1 ⟨vp, rfl, hl, hb⟩
  replace S := S.next hl hb
  clear hl hb
  obtain ⟨po, pc, rfl, -⟩ := (show Nm _ vp (a * b) from S.live (vp, (a * b)) (by simp)).shape
  go_wp2_with fail
  refine Calls.mono (mul_ok (a := b) (b := a) S.live (by simp) (by simp) (by rw [Nat.mul_comm]; exact Bh1.out)) ?_
  rintro e w1 ⟨vq, rfl, hl, hb⟩
  replace S := S.next hl hb
  clear hl hb
  go_wp2_with fail
  refine Calls.mono (same_yes (a := (a * b)) (b := (b * a)) S.live (by simp) (by simp) (Nat.mul_comm a b)) ?_
  rintro e w1 ⟨rfl, hl, hb⟩
  replace S := S.next hl hb
  clear hl hb
  go_wp2_with fail
  refine Calls.mono (valid_ok (a := (a * b)) S.live (by simp)) ?_
  rintro e w1 ⟨rfl, rfl⟩
  go_wp2_with fail
  refine Calls.mono (mul_big (a := b) (b := c) S.live (by simp) (by simp) Bh2.out) ?_
  rintro e w1 ⟨vr, rfl, hl, hb⟩
  replace S := S.next hl hb
  clear hl hb
  go_wp2_with fail
  refine Calls.mono (mul_var (a := (a * b)) (b := c) S.live (by simp) (by simp)) ?_
  rintro e w1 ⟨vu, vus, vux, rfl, hl, hb⟩
  replace S := S.next hl hb
  clear hl hb
  go_wp2_with fail
  refine Calls.mono (mul_var (a := a) (b := 0) S.live (by simp) (by simp)) ?_
  rintro e w1 ⟨vv, vvs, vvx, rfl, hl, hb⟩
  replace S := S.next hl hb
  clear hl hb
  go_wp2_with fail
  refine Calls.mono (add_over (a := b) (b := c) S.live (by simp) (by simp) Bh5.out) ?_
  rintro e w1 ⟨vw, rfl, hl, hb⟩
  replace S := S.next hl hb
  clear hl hb
  go_wp2_with fail
  refine Calls.mono (mul_var (a := a) (b := 0) S.live (by simp) (by simp)) ?_
  rintro e w1 ⟨vx, vxs, vxx, rfl, hl, hb⟩
  replace S := S.next hl hb
  clear hl hb
  go_wp2_with fail
  refine Calls.mono (mul_var (a := a) (b := c) S.live (by simp) (by simp)) ?_
  rintro e w1 ⟨vy, vys, vyx, rfl, hl, hb⟩
  replace S := S.next hl hb
  clear hl hb
  go_wp2_with fail
  refine Calls.mono (add_var (a := (a * b)) (b := vys) S.live (by simp) (by simp)) ?_
  rintro e w1 ⟨vz, vzs, vzx, rfl, hl, hb⟩
  replace S := S.next hl hb
  clear hl hb
  go_wp2
  go_ret
  exact ⟨rfl, S.below⟩
theorem prod_nz {ao bo : Option Addr} {ca cb : Nat} {vc : Value} {a b c : Nat} (w0 : World) (hL : Live w0 [(.slice ao (limbs a).length ca, a), (.slice bo (limbs b).length cb, b), (vc, c)]) (h1 : Fits (a * b)) (z1 : (((limbs a).length : Int) == 0) = false) (z2 : (((limbs b).length : Int) == 0) = false) (z3 : (((limbs (a * b)).length : Int) == 0) = false) :
    Calls Tryd.prog 5 #[.slice ao (limbs a).length ca, .slice bo (limbs b).length cb, vc] w0 fun e w' => e = .returned (.bool true) ∧ Below w0.heap.size w0 w' := by
  have hc : Fits c := (show Nm w0 vc c from hL (vc, c) (by simp)).fits
  have hac : Fits (a * (b + c)) → Fits (a * c) := fun h => h.mono (Nat.mul_le_mul_left a (Nat.le_add_left c b))
  have hsum : Fits (a * (b + c)) → Fits (a * b + a * c) := fun h => by rw [← Nat.mul_add]; exact h
  have hass : Fits (a * b * c) → Fits (a * (b * c)) := fun h => by rw [← Nat.mul_assoc]; exact h
  rcases fits_or (b * c) with h2 | h2
  · rcases fits_or (a * b * c) with h3 | h3
    · rcases fits_or (b + c) with h5 | h5
      · rcases fits_or (a * (b + c)) with h6 | h6
        · exact prod_nz_ss w0 hL h1 z1 z2 z3 h2 h3 (hass h3) h5 h6 (hac h6) (hsum h6)
        · exact prod_nz_so w0 hL h1 z1 z2 z3 h2 h3 (hass h3) h5 h6
      · exact prod_nz_sv w0 hL h1 z1 z2 z3 h2 h3 (hass h3) h5
    · rcases fits_or (b + c) with h5 | h5
      · rcases fits_or (a * (b + c)) with h6 | h6
        · exact prod_nz_os w0 hL h1 z1 z2 z3 h2 h3 h5 h6 (hac h6) (hsum h6)
        · exact prod_nz_oo w0 hL h1 z1 z2 z3 h2 h3 h5 h6
      · exact prod_nz_ov w0 hL h1 z1 z2 z3 h2 h3 h5
  · rcases fits_or (b + c) with h5 | h5
    · rcases fits_or (a * (b + c)) with h6 | h6
      · exact prod_nz_vs w0 hL h1 z1 z2 z3 h2 h5 h6 (hac h6) (hsum h6)
      · exact prod_nz_vo w0 hL h1 z1 z2 z3 h2 h5 h6
    · exact prod_nz_vv w0 hL h1 z1 z2 z3 h2 h5
end Go.Proofs.YtegjhkjmejckdaaDoor
