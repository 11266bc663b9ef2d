/- the head that each law calls. -/
import Derived.Test.YtegjhkjmejckdaaDoorT8
namespace Go.Proofs.YtegjhkjmejckdaaDoor
open Go.RowKit M
/-- Where a law stands: what it has kept since its start, and the numbers that it holds. -/
structure St (w0 w : World) (L : List (Value × Nat)) : Prop where
  below : Below w0.heap.size w0 w
  live : Live w L
theorem St.next {w0 w w' : World} {L L' : List (Value × Nat)} (S : St w0 w L) (hl : Live w' L') (hb : Below w.heap.size w w') : St w0 w' L' :=
  ⟨S.below.trans (hb.mono S.below.size), hl⟩
theorem St.on {w0 w w' : World} {L : List (Value × Nat)} (S : St w0 w L) (hb : Below w.heap.size w w') : St w0 w' L := S.next (S.live.keep hb) hb
theorem nm_lit (w : World) (xs : List Int) (a : Nat) (ho : Ok xs) (hl : xs.getLast? ≠ some 0) (he : val xs = a) (hlen : xs.length ≤ 640) :
    Nm (w.alloc (.cells (xs.map (Value.int .u32)).toArray 42)) (.slice (some ⟨w.heap.size, 0, none⟩) xs.length xs.length) a := by
  have e : limbs a = xs := by have := limbs_val ho hl; rwa [he, Int.toNat_natCast] at this
  refine ⟨⟨limbs_length_le.1 (by rw [e]; exact hlen)⟩, ⟨ok_limbs a, ?_⟩⟩
  rw [e]
  refine ⟨some ⟨w.heap.size, 0, none⟩, xs.length, rfl, Nat.le_refl _, by unfold maxLen; omega, fun _ => ⟨_, rfl, by simp, fun i hi => ?_⟩⟩
  have hadd : (⟨w.heap.size, 0, none⟩ : Addr).add i = ⟨w.heap.size, i, none⟩ := by unfold Addr.add; split <;> simp_all
  rw [hadd]
  have hg : (w.alloc (.cells (xs.map (Value.int .u32)).toArray 42)).heap[w.heap.size]? = some (.cells (xs.map (Value.int .u32)).toArray 42 (0, 0)) := Array.getElem?_push_size
  simp only [World.cell?, hg]
  simp [List.getD, hi]
theorem St.lit {w0 w : World} {L : List (Value × Nat)} (S : St w0 w L) (xs : List Int) (a : Nat) (ho : Ok xs) (hl : xs.getLast? ≠ some 0) (he : val xs = a) (hlen : xs.length ≤ 640) :
    St w0 (w.alloc (.cells (xs.map (Value.int .u32)).toArray 42)) ((.slice (some ⟨w.heap.size, 0, none⟩) xs.length xs.length, a) :: L) :=
  ⟨S.below.alloc S.below.size _, (S.live.keep ((Below.refl _ _).alloc (Nat.le_refl _) _)).cons (nm_lit w xs a ho hl he hlen)⟩
theorem tx_lit {n : Nat} (l : List Int) (h : isDec l = true) (e : dval l = n) : tx n = strOfNums l := by unfold tx; rw [← e, text_dval h]
section
variable {w0 w : World} {L : List (Value × Nat)} {va vb : Value} {a b : Nat}
theorem same_yes (hL : Live w L) (ha : (va, a) ∈ L) (hb : (vb, b) ∈ L) (h : a = b) : Calls Tryd.prog 15 #[va, vb] w fun e w' => e = .returned (.bool true) ∧ Live w' L ∧ Below w.heap.size w w' := by
  have := same_ok hL ha hb
  rwa [decide_eq_true h] at this
theorem same_no (hL : Live w L) (ha : (va, a) ∈ L) (hb : (vb, b) ∈ L) (h : a ≠ b) : Calls Tryd.prog 15 #[va, vb] w fun e w' => e = .returned (.bool false) ∧ Live w' L ∧ Below w.heap.size w w' := by
  have := same_ok hL ha hb
  rwa [decide_eq_false h] at this
theorem cmp_lt (hL : Live w L) (ha : (va, a) ∈ L) (hb : (vb, b) ∈ L) (h : a < b) : Calls Tryd.prog 28 #[va, vb] w fun e w' => e = .returned (.tuple #[.int .i64 (-1), .int .i64 0]) ∧ Live w' L ∧ Below w.heap.size w w' := by
  have := cmp_ok hL ha hb
  rwa [cmpI_lt (by omega)] at this
theorem cmp_gt (hL : Live w L) (ha : (va, a) ∈ L) (hb : (vb, b) ∈ L) (h : b < a) : Calls Tryd.prog 28 #[va, vb] w fun e w' => e = .returned (.tuple #[.int .i64 1, .int .i64 0]) ∧ Live w' L ∧ Below w.heap.size w w' := by
  have := cmp_ok hL ha hb
  rwa [cmpI_gt (by omega)] at this
theorem cmp_eq (hL : Live w L) (ha : (va, a) ∈ L) (hb : (vb, b) ∈ L) (h : a = b) : Calls Tryd.prog 28 #[va, vb] w fun e w' => e = .returned (.tuple #[.int .i64 0, .int .i64 0]) ∧ Live w' L ∧ Below w.heap.size w w' := by
  have := cmp_ok hL ha hb
  subst h
  rwa [cmpI_eq] at this
end
theorem fits_small {a : Nat} (h : a < 340282366920938463463374607431768211456) : Fits a := by
  refine ⟨?_⟩
  have h2 : pw 4 = 340282366920938463463374607431768211456 := by simp [pw]
  have := pw_le (show 4 ≤ 640 by omega)
  omega
theorem text_is {w : World} {L : List (Value × Nat)} {va : Value} {a : Nat} {s : ByteArray} (h : tx a = s) (hL : Live w L) (ha : (va, a) ∈ L) : Calls Tryd.prog 30 #[va] w fun e w' => e = .returned (.tuple #[.string s, .int .i64 0]) ∧ Live w' L ∧ Below w.heap.size w w' := by
  have := text_ok hL ha
  rwa [h] at this
theorem parse_lit {w : World} {L : List (Value × Nat)} {s : ByteArray} {n : Nat} (h : dval (letters s) = n) (hL : Live w L) (hsz : s.size ≤ maxLen) (hd : isDec (letters s) = true) (hs : Fits n) : Calls Tryd.prog 32 #[.string s] w (Step w L n 0) := by
  subst h; exact parse_ok s hL hsz hd hs
theorem valid_two (w : World) : Calls Tryd.prog 13 #[.slice (some ⟨w.heap.size, 0, none⟩) 2 2] (w.alloc (.cells #[.int .u32 1, .int .u32 0] 42)) fun e w' => e = .returned (.bool false) ∧ w.alloc (.cells #[.int .u32 1, .int .u32 0] 42) = w' := by
  refine valid_any (some ⟨w.heap.size, 0, none⟩) [1, 0] 2 2 _ rfl fun _ => ⟨_, rfl, by simp, fun i hi => ?_⟩
  have hadd : (⟨w.heap.size, 0, none⟩ : Addr).add i = ⟨w.heap.size, i, none⟩ := by unfold Addr.add; split <;> simp_all
  rw [hadd]
  have hg : (w.alloc (.cells #[.int .u32 1, .int .u32 0] 42)).heap[w.heap.size]? = some (.cells #[.int .u32 1, .int .u32 0] 42 (0, 0)) := Array.getElem?_push_size
  simp only [World.cell?, hg]
  rcases i with _ | _ | i
  · rfl
  · rfl
  · simp at hi; omega
set_option maxHeartbeats 4000000 in
set_option maxRecDepth 10000 in
theorem head_any (w0 : World) : Calls Tryd.prog 12 #[] w0 fun e w' => e = .returned (.bool true) ∧ Below w0.heap.size w0 w' := by
  have S : St w0 w0 [] := ⟨Below.refl _ _, fun p hp => by cases hp⟩
  have ht1 : tx 18446744065119617025 = ⟨#[49, 56, 52, 52, 54, 55, 52, 52, 48, 54, 53, 49, 49, 57, 54, 49, 55, 48, 50, 53]⟩ := (tx_lit [49, 56, 52, 52, 54, 55, 52, 52, 48, 54, 53, 49, 49, 57, 54, 49, 55, 48, 50, 53] (by decide) (by decide)).trans rfl
  have ht2 : tx 100000000000000000000 = ⟨#[49, 48, 48, 48, 48, 48, 48, 48, 48, 48, 48, 48, 48, 48, 48, 48, 48, 48, 48, 48, 48]⟩ := (tx_lit [49, 48, 48, 48, 48, 48, 48, 48, 48, 48, 48, 48, 48, 48, 48, 48, 48, 48, 48, 48, 48] (by decide) (by decide)).trans rfl
  have hp1 : dval (letters ⟨#[49, 56, 52, 52, 54, 55, 52, 52, 48, 54, 53, 49, 49, 57, 54, 49, 55, 48, 50, 53]⟩) = 18446744065119617025 := by decide
  go_enter Tryd.func12, Tryd.ntmps12
  go_wp2_with fail
  refine Calls.mono (make_ok 4294967296 S.live (by decide)) ?_
  rintro e w1 ⟨vw, rfl, hl, hb⟩
  replace S := S.next hl hb
  clear hl hb
  go_wp2_with fail
  replace S := S.lit [4294967295] 4294967295 (by intro x hx; simp at hx; omega) (by simp) (by simp [val]) (by simp)
  refine Calls.mono (mul_ok (a := 4294967295) (b := 4294967295) S.live (by simp) (by simp) (fits_small (by decide))) ?_
  rintro e w1 ⟨va, rfl, hl, hb⟩
  replace S : St w0 w1 ((va, 18446744065119617025) :: _) := S.next hl hb
  clear hl hb
  go_wp2_with fail
  refine Calls.mono (text_is ht1 S.live (by simp)) ?_
  rintro e w1 ⟨rfl, hl, hb⟩
  replace S := S.next hl hb
  clear hl hb
  go_wp2_with fail
  replace S := S.lit [1] 1 (by intro x hx; simp at hx; omega) (by simp) (by simp [val]) (by simp)
  refine Calls.mono (sub_ok (a := 4294967296) (b := 1) S.live (by simp) (by simp) (by decide)) ?_
  rintro e w1 ⟨vc, rfl, hl, hb⟩
  replace S : St w0 w1 ((vc, 4294967295) :: _) := S.next hl hb
  clear hl hb
  go_wp2_with fail
  replace S := S.lit [0, 0, 0, 1] 79228162514264337593543950336 (by intro x hx; simp at hx; omega) (by simp) (by simp [val]) (by simp)
  replace S := S.lit [1, 1] 4294967297 (by intro x hx; simp at hx; omega) (by simp) (by simp [val]) (by simp)
  refine Calls.mono (div_ok (a := 79228162514264337593543950336) (b := 4294967297) S.live (by simp) (by simp) (by decide)) ?_
  rintro e w1 ⟨vq, vr, rfl, hl, hb⟩
  replace S : St w0 w1 ((vq, 18446744069414584320) :: (vr, 4294967296) :: _) := S.next hl hb
  clear hl hb
  go_wp2_with fail
  replace S := S.lit [10] 10 (by intro x hx; simp at hx; omega) (by simp) (by simp [val]) (by simp)
  refine Calls.mono (pow_ok (a := 10) 20 S.live (by simp) (by decide) (fits_small (by decide))) ?_
  rintro e w1 ⟨vp, rfl, hl, hb⟩
  replace S : St w0 w1 ((vp, 100000000000000000000) :: _) := S.next hl hb
  clear hl hb
  go_wp2_with fail
  refine Calls.mono (text_is ht2 S.live (by simp)) ?_
  rintro e w1 ⟨rfl, hl, hb⟩
  replace S := S.next hl hb
  clear hl hb
  go_wp2_with fail
  replace S := S.lit [1] 1 (by intro x hx; simp at hx; omega) (by simp) (by simp [val]) (by simp)
  replace S := S.lit [2] 2 (by intro x hx; simp at hx; omega) (by simp) (by simp [val]) (by simp)
  refine Calls.mono (sub_under (a := 1) (b := 2) S.live (by simp) (by simp) (by decide)) ?_
  rintro e w1 ⟨vx, rfl, hl, hb⟩
  replace S := S.next hl hb
  clear hl hb
  go_wp2_with fail
  refine Calls.mono (parse_not ⟨#[48, 49]⟩ S.live (by decide) (by decide)) ?_
  rintro e w1 ⟨vy, rfl, hl, hb⟩
  replace S := S.next hl hb
  clear hl hb
  go_wp2_with fail
  refine Calls.mono (parse_lit hp1 S.live (by decide) (by decide) (fits_small (by decide))) ?_
  rintro e w1 ⟨vn, rfl, hl, hb⟩
  replace S := S.next hl hb
  clear hl hb
  go_wp2_with fail
  replace S := S.lit [0, 1] 4294967296 (by intro x hx; simp at hx; omega) (by simp) (by simp [val]) (by simp)
  refine Calls.mono (same_yes (a := 4294967296) (b := 4294967296) S.live (by simp) (by simp) rfl) ?_
  rintro e w1 ⟨rfl, hl, hb⟩
  replace S := S.next hl hb
  clear hl hb
  go_wp2_with fail
  replace S := S.lit [1, 4294967294] 18446744065119617025 (by intro x hx; simp at hx; omega) (by simp) (by simp [val]) (by simp)
  refine Calls.mono (same_yes (a := 18446744065119617025) (b := 18446744065119617025) S.live (by simp) (by simp) rfl) ?_
  rintro e w1 ⟨rfl, hl, hb⟩
  replace S := S.next hl hb
  clear hl hb
  go_wp2_with fail
  refine Calls.mono (same_yes (a := 18446744065119617025) (b := 18446744065119617025) S.live (by simp) (by simp) rfl) ?_
  rintro e w1 ⟨rfl, hl, hb⟩
  replace S := S.next hl hb
  clear hl hb
  go_wp2_with fail
  refine Calls.mono (same_yes (a := 4294967295) (b := 4294967295) S.live (by simp) (by simp) rfl) ?_
  rintro e w1 ⟨rfl, hl, hb⟩
  replace S := S.next hl hb
  clear hl hb
  go_wp2_with fail
  replace S := S.lit [0, 4294967295] 18446744069414584320 (by intro x hx; simp at hx; omega) (by simp) (by simp [val]) (by simp)
  refine Calls.mono (same_yes (a := 18446744069414584320) (b := 18446744069414584320) S.live (by simp) (by simp) rfl) ?_
  rintro e w1 ⟨rfl, hl, hb⟩
  replace S := S.next hl hb
  clear hl hb
  go_wp2_with fail
  refine Calls.mono (same_yes (a := 4294967296) (b := 4294967296) S.live (by simp) (by simp) rfl) ?_
  rintro e w1 ⟨rfl, hl, hb⟩
  replace S := S.next hl hb
  clear hl hb
  go_wp2_with fail
  refine Calls.mono (valid_ok (S.live.keep (Below.refl _ _) |>.cons (Nm.nil _)) (List.mem_cons_self ..)) ?_
  rintro e w1 ⟨rfl, rfl⟩
  go_wp2_with fail
  refine Calls.mono (valid_two _) ?_
  rintro e w2 ⟨rfl, rfl⟩
  replace S := S.on ((Below.refl _ _).alloc (Nat.le_refl _) (.cells #[.int .u32 1, .int .u32 0] 42))
  go_wp2
  go_ret
  exact ⟨rfl, S.below⟩
end Go.Proofs.YtegjhkjmejckdaaDoor
