/- The mathematics of the laws on minors: what the reference's Divisor returns for Hermite forms, given rows and kernels. -/
import Derived.Test.YtnbamjoadankmaaR14
import Derived.Test.YtnbamjoadankmaaKP
namespace Go.Proofs.Ytnbamjoadankmaa
open Go.RowKit D
theorem perm_range {l : List Nat} {q : Nat} (hnd : l.Nodup) (hl : l.length = q) (hb : ∀ i ∈ l, i < q) : l.Perm (List.range q) := by
  refine (List.perm_ext_iff_of_nodup hnd List.nodup_range).2 fun a => ⟨fun x => List.mem_range.2 (hb a x), fun x => ?_⟩
  refine Classical.not_not.1 fun y => ?_
  have := List.Nodup.length_le_of_subset (List.nodup_cons.2 ⟨y, hnd⟩) (l₂ := List.range q) (by
    intro z hz; rcases List.mem_cons.1 hz with rfl | hz
    · exact x
    · exact List.mem_range.2 (hb z hz))
  simp at this; omega
/-- A combination of the greatest minors of as many rows is a multiple of one function of the columns. -/
theorem cb_full {O : Nat → Nat → Int} {q m : Nat} {f : List Nat → Int} (h : Cb O q m q f) : ∃ c : Int, ∀ js, (∀ j ∈ js, j < m) → f js = c * mn ((List.range q).map O) js := by
  induction h with
  | zero h => exact ⟨0, fun js hj => by rw [h js hj]; omega⟩
  | step c ts hl ht _ hh ih =>
    obtain ⟨a, ha⟩ := ih
    have ⟨b, hb⟩ : ∃ b : Int, ∀ js, mn (ts.map O) js = b * mn ((List.range q).map O) js := by
      by_cases hn : ts.Nodup
      · obtain ⟨b, _, hb⟩ := mn_permI (perm_range hn hl ht)
        exact ⟨b, hb O⟩
      · exact ⟨0, fun js => by
          rw [mn_dup (fun x => hn ?_) js]
          · omega
          · exact (List.pairwise_map.1 x).imp fun hab e => hab (by rw [e])⟩
    exact ⟨c * b + a, fun js hj => by rw [hh js hj, ha js hj, hb]; grind⟩
/-- No greatest minor of the Hermite form exceeds the volume. -/
theorem hf_minor {M O : Nat → Nat → Int} {n q : Nat} {p : Nat → Nat} (hv : VM M n) (h : Hf O q 6 p) (h1 : ∀ t, t < n → Sp O q 6 (M t)) (h2 : ∀ i, i < q → Sp M n 6 (O i)) {js : List Nat} (hl : js.length = q) (hj : ∀ j ∈ js, j < 6) : (mn ((List.range q).map O) js).natAbs ≤ 1000000000 := by
  obtain ⟨is, hl', hn, h0⟩ := h.rows_at h2
  have hc := Cb.rows (M := O) (n := q) (m := 6) (us := is.map M) (by intro u hu; obtain ⟨i, hi, rfl⟩ := List.mem_map.1 hu; exact h1 i (hn i hi))
  rw [List.length_map, hl'] at hc
  obtain ⟨c, hc⟩ := cb_full hc
  have hb := vm_any hv (is := is) (js := js) (by omega) hn hj
  have hc0 : c ≠ 0 := fun e0 => h0 (by
    rw [hc _ (by intro j hj; obtain ⟨k, hk, rfl⟩ := List.mem_map.1 hj; exact h.lt k (List.mem_range.1 hk)), e0]; omega)
  rw [hc js hj, Int.natAbs_mul] at hb
  exact Nat.le_trans (Nat.le_mul_of_pos_left _ (by omega)) hb
theorem row_six {w w' : World} {b o n : Nat} {M : Nat → Nat → Int} (hcr : ∀ i j, i < n → j < 6 → w.cell? ⟨b, o + i * 6 + j, none⟩ = some (.int .i64 (M i j))) (hb : b < w.heap.size) (hB : Below w.heap.size w w') {i : Nat} (hi : i < n) :
    w'.cell? ⟨b, o + i * 6, none⟩ = some (.int .i64 (M i 0)) ∧ w'.cell? ⟨b, o + i * 6 + 1, none⟩ = some (.int .i64 (M i 1)) ∧ w'.cell? ⟨b, o + i * 6 + 2, none⟩ = some (.int .i64 (M i 2)) ∧ w'.cell? ⟨b, o + i * 6 + 3, none⟩ = some (.int .i64 (M i 3)) ∧ w'.cell? ⟨b, o + i * 6 + 4, none⟩ = some (.int .i64 (M i 4)) ∧ w'.cell? ⟨b, o + i * 6 + 5, none⟩ = some (.int .i64 (M i 5)) := by
  have h : ∀ j, j < 6 → w'.cell? ⟨b, o + i * 6 + j, none⟩ = some (.int .i64 (M i j)) := fun j hj => (hB.cell (p := ⟨b, o + i * 6 + j, none⟩) hb).trans (hcr i j hi hj)
  exact ⟨h 0 (by omega), h 1 (by omega), h 2 (by omega), h 3 (by omega), h 4 (by omega), h 5 (by omega)⟩
theorem wrap_small {z : Int} (h : z.natAbs ≤ 1000000000) : wrap64 z = z := by unfold wrap64; omega
/-- What the reference's Divisor returns has the divisors of all minors of the size, where these are bounded. -/
theorem divW_dv {M : Nat → Nat → Int} {n k : Nat} (hb : ∀ is ∈ subs n k, ∀ js ∈ subs 6 k, (mn (is.map M) js).natAbs ≤ 1000000000) (d : Nat) : d ∣ divW M n k ↔ Dv M n 6 k (d : Int) := by
  unfold divW
  rw [gcd2_dvd, dv_subs]
  constructor
  · rintro ⟨_, h⟩ is hi js hj
    have := h is hi js hj
    rw [wrap_small (hb is hi js hj)] at this
    exact Int.ofNat_dvd_left.2 this
  · intro h
    refine ⟨Nat.dvd_zero d, fun is hi js hj => ?_⟩
    rw [wrap_small (hb is hi js hj)]
    exact Int.ofNat_dvd_left.1 (h is hi js hj)
theorem vm_subs {M : Nat → Nat → Int} {n k : Nat} (hv : VM M n) : ∀ is ∈ subs n k, ∀ js ∈ subs 6 k, (mn (is.map M) js).natAbs ≤ 1000000000 := fun is hi js hj => by
  obtain ⟨a, _, b⟩ := subs_mem hi
  obtain ⟨c, _, d⟩ := subs_mem hj
  exact vm_any hv (by omega) b d
theorem divW_rank {M O : Nat → Nat → Int} {n q : Nat} {p : Nat → Nat} (hv : VM M n) (h : Hf O q 6 p) (h1 : ∀ t, t < n → Sp O q 6 (M t)) (h2 : ∀ i, i < q → Sp M n 6 (O i)) : divW O q q = divW M n q ∧ divW M n (q + 1) = 0 := by
  have a : ∀ d : Nat, d ∣ divW O q q ↔ Dv O q 6 q (d : Int) := divW_dv fun is hi js hj => by
    obtain ⟨x1, x2, x3⟩ := subs_mem hi
    obtain ⟨y1, _, y3⟩ := subs_mem hj
    rw [full_list x1 x2 x3]
    exact hf_minor hv h h1 h2 y1 y3
  have b : ∀ d : Nat, d ∣ divW M n q ↔ Dv M n 6 q (d : Int) := divW_dv (vm_subs hv)
  have e : ∀ d : Nat, d ∣ divW O q q ↔ d ∣ divW M n q := fun d => by
    rw [a, b]; exact ⟨fun x => x.rows h1, fun x => x.rows h2⟩
  refine ⟨Nat.dvd_antisymm ((e _).1 (Nat.dvd_refl _)) ((e _).2 (Nat.dvd_refl _)), ?_⟩
  have c := (divW_dv (k := q + 1) (vm_subs hv) 0).2 ((h.rank h1 h2 (q + 1)).2 (by omega))
  exact Nat.zero_dvd.1 c
/-- The bound of the elements of the Hermite form. -/
theorem hf_entry {M O : Nat → Nat → Int} {n q : Nat} {p : Nat → Nat} (hv : VM M n) (hq : q ≤ 6) (h : Hf O q 6 p) (h1 : ∀ t, t < n → Sp O q 6 (M t)) (h2 : ∀ i, i < q → Sp M n 6 (O i)) : ∀ i j, i < q → j < 6 → (O i j).natAbs ≤ 6000000000 := fun i j hi hj =>
  Nat.le_trans (h.bound h1 h2 hi hj) (by have := Nat.mul_le_mul hq hv.2.2; omega)
/-- The kernel's last rank. -/
theorem ker_rank (M : Nat → Nat → Int) (n : Nat) : ∃ r, ∀ k, Dv M n 6 k 0 ↔ r < k := by
  obtain ⟨is, cs, hG⟩ := Gr.exists_le M n 6
  exact ⟨cs.length, hG.rank⟩
theorem ker_entry {M K : Nat → Nat → Int} {n u : Nat} {p : Nat → Nat} (hv : VM M n) (h : Hf K u 6 p) (h1 : ∀ i k, i < u → k < n → dot 6 (M k) (K i) = 0) (h2 : ∀ y, (∀ k, k < n → dot 6 (M k) y = 0) → Sp K u 6 y) : ∀ i j, i < u → j < 6 → (K i j).natAbs ≤ 6000000000 := fun i j hi hj => by
  obtain ⟨r, hr⟩ := ker_rank M n
  exact Nat.le_trans (h.ker_bound h1 h2 hr hi hj) (by have := Nat.mul_le_mul_left 6 hv.2.2; omega)
theorem ker_sat {M K : Nat → Nat → Int} {n u : Nat} (h1 : ∀ i k, i < u → k < n → dot 6 (M k) (K i) = 0) (h2 : ∀ y, (∀ k, k < n → dot 6 (M k) y = 0) → Sp K u 6 y) : ∀ (d : Int) (v : Nat → Int), d ≠ 0 → Sp K u 6 (fun j => d * v j) → Sp K u 6 v := fun d v hd hs => by
  refine h2 v fun k hk => ?_
  obtain ⟨c, hc⟩ := hs
  have e : dot 6 (M k) (fun j => d * v j) = d * dot 6 (M k) v := by
    show sm 6 _ = d * sm 6 _
    rw [← sm_mul]; exact sm_congr fun j _ => by grind
  have e2 : dot 6 (M k) (fun j => d * v j) = sm u (fun t => c t * dot 6 (M k) (K t)) := by
    have : dot 6 (M k) (fun j => d * v j) = sm 6 (fun j => sm u (fun t => c t * (M k j * K t j))) := sm_congr fun j hj => by
      rw [hc j hj, ← sm_mul]; exact sm_congr fun t _ => by grind
    rw [this, sm_comm]; exact sm_congr fun t _ => sm_mul _ _ _
  rw [e, sm_congr (g := fun _ => 0) fun t ht => by rw [h1 t k ht hk]; omega, sm_zero] at e2
  exact (Int.mul_eq_zero.1 e2).resolve_left hd
theorem ker_divW {M K : Nat → Nat → Int} {n u : Nat} {p : Nat → Nat} (hv : VM M n) (h : Hf K u 6 p) (h1 : ∀ i k, i < u → k < n → dot 6 (M k) (K i) = 0) (h2 : ∀ y, (∀ k, k < n → dot 6 (M k) y = 0) → Sp K u 6 y) : divW K u u = 1 := by
  obtain ⟨is, cs, hG⟩ := Gr.exists_le M n 6
  obtain ⟨hr6, hu⟩ := ker_count h h1 h2 hG.rank
  have a : ∀ d : Nat, d ∣ divW K u u ↔ Dv K u 6 u (d : Int) := divW_dv fun is' hi js hj => by
    obtain ⟨x1, x2, x3⟩ := subs_mem hi
    obtain ⟨y1, y2, y3⟩ := subs_mem hj
    rw [full_list x1 x2 x3]
    refine Nat.le_trans (ker_minor hG.len hG.rows hG.cols hG.ne ((hG.rank _).2 (by omega)) h1 h2 y2 y3 y1 (by omega)) ?_
    have hnd : js.Nodup := y2.imp fun h => Nat.ne_of_lt h
    exact vm_any hv (by have := rest_length hnd y3; have := hG.len; omega) hG.rows (fun j hj => (mem_rest.1 hj).1)
  have b := h.sat_minors (ker_sat h1 h2) ((a _).1 (Nat.dvd_refl _))
  have : divW K u u ∣ 1 := by exact_mod_cast b
  exact Nat.dvd_one.1 this
theorem divs_rank {M : Nat → Nat → Int} {n q r : Nat} {g : Nat → Nat} (hq : ∀ k, Dv M n 6 k 0 ↔ q < k) (hg : ∀ k d, Dv M n 6 k d ↔ d ∣ (g k : Int)) (hp : ∀ k, k < r → 0 < g (k + 1) ∧ g (k + 1) ≤ 1000000000) (h0 : g (r + 1) = 0) : r = q := by
  have e : ∀ k, g k = 0 ↔ q < k := fun k => by
    rw [← hq k, hg k 0]
    exact ⟨fun e => by rw [e]; exact Int.dvd_refl _, fun e => by have := Int.zero_dvd.1 e; omega⟩
  have a := (e (r + 1)).1 h0
  refine Classical.byContradiction fun hne => ?_
  have hr : 0 < r := by omega
  have b := (hp (r - 1) (by omega)).1
  rw [show r - 1 + 1 = r by omega] at b
  have c := (e r).2 (by omega)
  omega
theorem dot_sp {M : Nat → Nat → Int} {n : Nat} {v y : Nat → Int} (hv : Sp M n 6 v) (h : ∀ i, i < n → dot 6 (M i) y = 0) : dot 6 v y = 0 := by
  obtain ⟨c, hc⟩ := hv
  have e : dot 6 v y = sm n (fun t => c t * dot 6 (M t) y) := by
    have : dot 6 v y = sm 6 (fun j => sm n (fun t => c t * (M t j * y j))) := sm_congr fun j hj => by
      rw [hc j hj, Int.mul_comm, ← sm_mul]; exact sm_congr fun t _ => by grind
    rw [this, sm_comm]; exact sm_congr fun t _ => sm_mul _ _ _
  rw [e, sm_congr (g := fun _ => 0) fun t ht => by rw [h t ht]; omega, sm_zero]
/-- The kernel of the kernel. -/
theorem ker_ker {M O K X : Nat → Nat → Int} {n q u v : Nat} {p pk px : Nat → Nat} (hO : Hf O q 6 p) (h1 : ∀ t, t < n → Sp O q 6 (M t)) (h2 : ∀ i, i < q → Sp M n 6 (O i))
    (hK : Hf K u 6 pk) (k1 : ∀ i k, i < u → k < n → dot 6 (M k) (K i) = 0) (k2 : ∀ y, (∀ k, k < n → dot 6 (M k) y = 0) → Sp K u 6 y)
    (hX : Hf X v 6 px) (x1 : ∀ i k, i < v → k < u → dot 6 (K k) (X i) = 0) (x2 : ∀ y, (∀ k, k < u → dot 6 (K k) y = 0) → Sp X v 6 y) :
    v = q ∧ ((∀ d, Dv M n 6 q d → d ∣ 1) → ∀ i j, i < v → j < 6 → X i j = O i j) := by
  have rM := hO.rank h1 h2
  have rK := hK.rank (M := K) (n := u) (fun i hi => Sp.unit hi) (fun i hi => Sp.unit hi)
  have c1 := ker_count hK k1 k2 rM
  have c2 := ker_count hX x1 x2 rK
  refine ⟨by omega, fun hd => ?_⟩
  have hO' : ∀ i, i < q → Sp X v 6 (O i) := fun i hi => x2 _ fun k hk => by
    rw [dot_comm]; exact dot_sp (h2 i hi) fun t ht => k1 k t hk ht
  have hX' : ∀ i, i < v → Sp O q 6 (X i) := fun i hi => by
    have := double (M := M) (K := K) (n := n) (b := u) (m := 6) (r := q) (x := X i) (fun i k hi hk => by rw [dot_comm]; exact k1 k i hk hi) (fun k hk => x1 i k hi hk)
      (fun h => by have := (rK _).1 h; omega) c1.1 hd
    exact this.trans h1
  exact (hX.one hO hO' hX').2.2
theorem small_dot {u v : Nat → Int} (hu : ∀ j, j < 6 → -1000 ≤ u j ∧ u j ≤ 1000) (hv : ∀ j, j < 6 → -1000 ≤ v j ∧ v j ≤ 1000) : wrap64 (dot 6 u v) = dot 6 u v := by
  refine wrap_small ?_
  have h := sm_abs 6 (fun j => u j * v j) (fun _ => 1000000) fun t ht => by
    have a := hu t ht; have b := hv t ht
    rw [Int.natAbs_mul]
    have x : (u t).natAbs ≤ 1000 := by omega
    have y : (v t).natAbs ≤ 1000 := by omega
    exact Nat.mul_le_mul x y
  rw [rs_const] at h
  exact Nat.le_trans h (by omega)
end Go.Proofs.Ytnbamjoadankmaa
