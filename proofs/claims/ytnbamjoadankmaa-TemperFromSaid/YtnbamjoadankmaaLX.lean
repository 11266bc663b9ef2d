/- The chapter's examples of lattices: their numbers. -/
import Derived.Test.YtnbamjoadankmaaWX
import Derived.Test.YtnbamjoadankmaaHC
namespace Go.Proofs.Ytnbamjoadankmaa
open Go.RowKit D
theorem rmd_congr {O O' : Nat → Nat → Int} {p p' : Nat → Nat} {v : Nat → Int} {q : Nat} (hp : ∀ k, k < q → p k = p' k) (hl : ∀ k, k < q → p k < 6) (hO : ∀ i j, i < q → j < 6 → O i j = O' i j) : ∀ k, k ≤ q → ∀ j, j < 6 → rmd O p v k j = rmd O' p' v k j := by
  intro k
  induction k with
  | zero => intro _ j _; rfl
  | succ k ih =>
    intro hk j hj
    show rmd O p v k j + -(rmd O p v k (p k) / O k (p k)) * O k j = rmd O' p' v k j + -(rmd O' p' v k (p' k) / O' k (p' k)) * O' k j
    rw [ih (by omega) j hj, ih (by omega) (p k) (hl k (by omega)), hO k (p k) (by omega) (hl k (by omega)), hO k j (by omega) hj, hp k (by omega)]
theorem ckf_congr {O O' : Nat → Nat → Int} {p p' : Nat → Nat} {v : Nat → Int} {q : Nat} (hp : ∀ k, k < q → p k = p' k) (hl : ∀ k, k < q → p k < 6) (hO : ∀ i j, i < q → j < 6 → O i j = O' i j) (k : Nat) (hk : k < q) : ckf O p v k = ckf O' p' v k := by
  unfold ckf
  rw [rmd_congr hp hl hO k (by omega) (p k) (hl k hk), hO k (p k) hk (hl k hk), hp k hk]
theorem Vv.congr {f g : Nat → Int} (h : ∀ j, j < 6 → f j = g j) : Vv f ↔ Vv g := ⟨fun a j hj => by rw [← h j hj]; exact a j hj, fun a j hj => by rw [h j hj]; exact a j hj⟩
theorem zero_congr {f g : Nat → Int} (h : ∀ j, j < 6 → f j = g j) : (∀ j, j < 6 → f j = 0) ↔ ∀ j, j < 6 → g j = 0 := ⟨fun a j hj => by rw [← h j hj]; exact a j hj, fun a j hj => by rw [h j hj]; exact a j hj⟩
/-- The only Hermite form of a matrix. -/
def Can (M : Nat → Nat → Int) (n : Nat) (H : Nat → Nat → Int) (r : Nat) (s : Nat → Nat) : Prop := ∀ O q p, HfS M n O q p → q = r ∧ (∀ k, k < q → p k = s k) ∧ (∀ k, k < q → p k < 6) ∧ ∀ i j, i < q → j < 6 → O i j = H i j
theorem Can.of {M H : Nat → Nat → Int} {n r : Nat} {s : Nat → Nat} (k : Hf H r 6 s) (k1 : ∀ t, t < r → Sp M n 6 (H t)) (k2 : ∀ t, t < n → Sp H r 6 (M t)) : Can M n H r s := fun O q p h => by
  have e := h.hf.one k (fun i hi => (k1 i hi).trans h.rows) (fun i hi => (h.sub i hi).trans k2)
  exact ⟨e.1, e.2.1, h.hf.lt, e.2.2⟩
theorem MemRes.at {M O H : Nat → Nat → Int} {n q r : Nat} {p s : Nat → Nat} {v : Nat → Int} {e : Ending} {w' : World} (hc : Can M n H r s) (hS : HfS M n O q p) (h : MemRes O p v q e w') : MemRes H s v r e w' := by
  obtain ⟨rfl, hp, hl, hO⟩ := hc O q p hS
  have hv := fun k (hk : k ≤ q) => Vv.congr (rmd_congr (v := v) hp hl hO k hk)
  have hz := zero_congr (rmd_congr (v := v) hp hl hO q (Nat.le_refl _))
  have hm : (List.range q).map (ckf O p v) = (List.range q).map (ckf H s v) := List.map_congr_left fun k hk => ckf_congr hp hl hO k (List.mem_range.1 hk)
  rcases h with ⟨h, ⟨h0, lo, lc, he, h1, h2, h3⟩ | ⟨h0, he⟩⟩ | ⟨⟨k, hk, hk2⟩, he⟩
  · exact .inl ⟨fun k hk => (hv k hk).1 (h k hk), .inl ⟨hz.1 h0, lo, lc, he, h1, h2, hm ▸ h3⟩⟩
  · exact .inl ⟨fun k hk => (hv k hk).1 (h k hk), .inr ⟨fun e => h0 (hz.2 e), he⟩⟩
  · exact .inr ⟨⟨k, hk, fun e => hk2 ((hv k hk).2 e)⟩, he⟩
theorem Mi.at {M O H : Nat → Nat → Int} {n q r : Nat} {p s : Nat → Nat} {v : Nat → Int} (hc : Can M n H r s) (hS : HfS M n O q p) : (Mi O p q v ↔ Mi H s r v) ∧ (Mo O p q v ↔ Mo H s r v) ∧ (Mr O p q v ↔ Mr H s r v) := by
  obtain ⟨rfl, hp, hl, hO⟩ := hc O q p hS
  have hv := fun k (hk : k ≤ q) => Vv.congr (rmd_congr (v := v) hp hl hO k hk)
  have hz := zero_congr (rmd_congr (v := v) hp hl hO q (Nat.le_refl _))
  have ha : (∀ k, k ≤ q → Vv (rmd O p v k)) ↔ ∀ k, k ≤ q → Vv (rmd H s v k) := ⟨fun h k hk => (hv k hk).1 (h k hk), fun h k hk => (hv k hk).2 (h k hk)⟩
  refine ⟨and_congr ha hz, and_congr ha (not_congr hz), ⟨fun ⟨k, hk, h⟩ => ⟨k, hk, fun e => h ((hv k hk).2 e)⟩, fun ⟨k, hk, h⟩ => ⟨k, hk, fun e => h ((hv k hk).1 e)⟩⟩⟩
theorem pr_congr {f g : Nat → Int} : ∀ q, (∀ k, k < q → f k = g k) → pr f q = pr g q
  | 0, _ => rfl
  | q + 1, h => by show pr f q * f q = pr g q * g q; rw [pr_congr q fun k hk => h k (by omega), h q (by omega)]
theorem pv_at {M O H : Nat → Nat → Int} {n q r : Nat} {p s : Nat → Nat} (hc : Can M n H r s) (hS : HfS M n O q p) : pv O p q = pv H s r := by
  obtain ⟨rfl, hp, hl, hO⟩ := hc O q p hS
  exact pr_congr q fun k hk => by rw [hO k (p k) hk (hl k hk), hp k hk]
theorem IndexOut.at {A B HA HB : Nat → Nat → Int} {n m r r' : Nat} {s s' : Nat → Nat} {e : Ending} (ha : Can A n HA r s) (hb : Can B m HB r' s') (h : IndexOut A B n m e) :
    (∃ k, k < n ∧ (∀ t, t < k → Mi HB s' r' (A t)) ∧ ((Mr HB s' r' (A k) ∧ e = .returned (.tuple #[.int .i64 0, .int .i64 3])) ∨ (Mo HB s' r' (A k) ∧ e = .returned (.tuple #[.int .i64 0, .int .i64 4])))) ∨
     ((∀ t, t < n → Mi HB s' r' (A t)) ∧ e = .returned (.tuple #[.int .i64 (if r < r' then 0 else pv HA s r / pv HB s' r'), .int .i64 0])) := by
  obtain ⟨q, O, p, q', O', p', hS, hS', h⟩ := h
  have e1 := pv_at ha hS
  have e2 := pv_at hb hS'
  have e3 := (ha O q p hS).1
  have e4 := (hb O' q' p' hS').1
  rcases h with ⟨k, hk, h1, h2⟩ | ⟨h1, h2⟩
  · exact .inl ⟨k, hk, fun t ht => (Mi.at hb hS').1.1 (h1 t ht), h2.imp (fun h => ⟨(Mi.at hb hS').2.2.1 h.1, h.2⟩) (fun h => ⟨(Mi.at hb hS').2.1.1 h.1, h.2⟩)⟩
  · refine .inr ⟨fun t ht => (Mi.at hb hS').1.1 (h1 t ht), ?_⟩
    rw [h2, e1, e2, e3, e4]
theorem ox_congr {O O' : Nat → Nat → Int} {p p' : Nat → Nat} {v : Nat → Int} {q : Nat} (hp : ∀ k, k < q → p k = p' k) (hl : ∀ k, k < q → p k < 6) (hO : ∀ i j, i < q → j < 6 → O i j = O' i j) : ∀ t, t ≤ 2 * q → (∀ j, j < 6 → ox O p v t j = ox O' p' v t j) ∧ on O p v t = on O' p' v t := by
  intro t
  induction t with
  | zero => intro _; exact ⟨fun _ _ => rfl, rfl⟩
  | succ t ih =>
    intro ht
    obtain ⟨h1, h2⟩ := ih (by omega)
    have hq : t / 2 < q := by omega
    have hm : mul O p (ox O p v t) (t / 2) = mul O' p' (ox O' p' v t) (t / 2) := by
      unfold mul
      rw [h1 _ (hl _ hq), hO _ _ hq (hl _ hq), hp _ hq]
    by_cases e : t % 2 = 0
    · refine ⟨fun j hj => ?_, ?_⟩
      · show (if t % 2 = 0 then _ else _ : Nat → Int) j = (if t % 2 = 0 then _ else _ : Nat → Int) j
        rw [if_pos e, if_pos e]
        show mul O p (ox O p v t) (t / 2) * ox O p v t j = mul O' p' (ox O' p' v t) (t / 2) * ox O' p' v t j
        rw [hm, h1 j hj]
      · show (if t % 2 = 0 then _ else _ : Int) = (if t % 2 = 0 then _ else _ : Int)
        rw [if_pos e, if_pos e, hm, h2]
    · refine ⟨fun j hj => ?_, ?_⟩
      · show (if t % 2 = 0 then _ else _ : Nat → Int) j = (if t % 2 = 0 then _ else _ : Nat → Int) j
        rw [if_neg e, if_neg e]
        show ox O p v t j + -(ox O p v t (p (t / 2)) / O (t / 2) (p (t / 2))) * O (t / 2) j = ox O' p' v t j + -(ox O' p' v t (p' (t / 2)) / O' (t / 2) (p' (t / 2))) * O' (t / 2) j
        rw [h1 j hj, h1 _ (hl _ hq), hO _ _ hq (hl _ hq), hO _ j hq hj, hp _ hq]
      · show (if t % 2 = 0 then _ else _ : Int) = (if t % 2 = 0 then _ else _ : Int)
        rw [if_neg e, if_neg e, h2]
theorem OrdOut.at {M H : Nat → Nat → Int} {n r : Nat} {s : Nat → Nat} {v : Nat → Int} {e : Ending} (hc : Can M n H r s) (h : OrdOut M n v e) :
    ((∀ t, t ≤ 2 * r → Vv (ox H s v t)) ∧ (((∀ j, j < 6 → ox H s v (2 * r) j = 0) ∧ e = .returned (.tuple #[.int .i64 (on H s v (2 * r)), .int .i64 0])) ∨ ((¬ ∀ j, j < 6 → ox H s v (2 * r) j = 0) ∧ e = .returned (.tuple #[.int .i64 0, .int .i64 0])))) ∨
     ((∃ t, t ≤ 2 * r ∧ ¬ Vv (ox H s v t)) ∧ e = .returned (.tuple #[.int .i64 0, .int .i64 3])) := by
  obtain ⟨q, O, p, hS, h⟩ := h
  obtain ⟨rfl, hp, hl, hO⟩ := hc O q p hS
  have hx := ox_congr (v := v) hp hl hO
  have hv := fun t (ht : t ≤ 2 * q) => Vv.congr (hx t ht).1
  have hz := zero_congr (hx (2 * q) (Nat.le_refl _)).1
  rcases h with ⟨h, ⟨h0, he⟩ | ⟨h0, he⟩⟩ | ⟨⟨t, ht, h⟩, he⟩
  · exact .inl ⟨fun t ht => (hv t ht).1 (h t ht), .inl ⟨hz.1 h0, by rw [he, (hx (2 * q) (Nat.le_refl _)).2]⟩⟩
  · exact .inl ⟨fun t ht => (hv t ht).1 (h t ht), .inr ⟨fun e => h0 (hz.2 e), he⟩⟩
  · exact .inr ⟨⟨t, ht, fun e => h ((hv t ht).2 e)⟩, he⟩
end Go.Proofs.Ytnbamjoadankmaa
/- The chapter's examples of lattices: the calls. -/
namespace Go.Proofs.Ytnbamjoadankmaa
open Go.RowKit D
theorem one_row {P : Nat → Prop} (h0 : P 0) : ∀ t, t < 1 → P t := fun t ht => by
  obtain rfl : t = 0 := by omega
  exact h0
theorem three_rows {P : Nat → Prop} (h0 : P 0) (h1 : P 1) (h2 : P 2) : ∀ t, t < 3 → P t := fun t ht => by
  rcases (show t = 0 ∨ t = 1 ∨ t = 2 by omega) with rfl | rfl | rfl <;> assumption
theorem vm_dec2 {M : Nat → Nat → Int} {n : Nat} (h : n ≤ 8 ∧ (∀ i, i < n → ∀ j, j < 6 → -1000000000 ≤ M i j ∧ M i j ≤ 1000000000) ∧ vol M 6 n ≤ 1000000000) : VM M n := ⟨h.1, fun i j hi hj => h.2.1 i hi j hj, h.2.2⟩
def lxA : List Int := [-4, 4, -1, 0, 0, 0, 7, 0, -3, 0, 0, 0]
def lxAH : List Int := [1, 20, -14, 0, 0, 0, 0, 28, -19, 0, 0, 0]
def lxO : List Int := [-4, 4, -1, 0, 0, 0]
def lxOH : List Int := [4, -4, 1, 0, 0, 0]
def lxW : List Int := [-8, 8, -2, 0, 0, 0]
def lxWH : List Int := [8, -8, 2, 0, 0, 0]
def lxB : List Int := [1, 20, -14, 0, 0, 0, 0, 28, -19, 0, 0, 0, 3, 4, -4, 0, 0, 0]
def lxS : List Int := [7, 0, -3, 0, 0, 0]
theorem vmxA : VM (lm lxA) 2 := vm_dec (by decide +kernel)
theorem vmxO : VM (lm lxO) 1 := vm_dec (by decide +kernel)
theorem vmxW : VM (lm lxW) 1 := vm_dec (by decide +kernel)
theorem vmxB : VM (lm lxB) 3 := vm_dec (by decide +kernel)
theorem vmxS : VM (lm lxS) 1 := vm_dec (by decide +kernel)
theorem vmxC : VM (cat (lm lxO) (lm lxS) 1) (1 + 1) := vm_dec2 (by decide +kernel)
theorem canA : Can (lm lxA) 2 (lm lxAH) 2 id := Can.of (hf_dec (by decide +kernel)) (two_rows (sp_dec [5, 3] (by decide +kernel)) (sp_dec [7, 4] (by decide +kernel))) (two_rows (sp_dec [-4, 3] (by decide +kernel)) (sp_dec [7, -5] (by decide +kernel)))
theorem canO : Can (lm lxO) 1 (lm lxOH) 1 id := Can.of (hf_dec (by decide +kernel)) (one_row (sp_dec [-1] (by decide +kernel))) (one_row (sp_dec [-1] (by decide +kernel)))
theorem canW : Can (lm lxW) 1 (lm lxWH) 1 id := Can.of (hf_dec (by decide +kernel)) (one_row (sp_dec [-1] (by decide +kernel))) (one_row (sp_dec [-1] (by decide +kernel)))
theorem canB : Can (lm lxB) 3 (lm lxAH) 2 id := Can.of (hf_dec (by decide +kernel)) (two_rows (sp_dec [1, 0, 0] (by decide +kernel)) (sp_dec [0, 1, 0] (by decide +kernel))) (three_rows (sp_dec [1, 0] (by decide +kernel)) (sp_dec [0, 1] (by decide +kernel)) (sp_dec [3, -2] (by decide +kernel)))
theorem canC : Can (cat (lm lxO) (lm lxS) 1) (1 + 1) (lm lxAH) 2 id := Can.of (hf_dec (by decide +kernel)) (two_rows (sp_dec [5, 3] (by decide +kernel)) (sp_dec [7, 4] (by decide +kernel))) (two_rows (sp_dec [-4, 3] (by decide +kernel)) (sp_dec [7, -5] (by decide +kernel)))
theorem hf_six {O : Nat → Nat → Int} {p : Nat → Nat} {q : Nat} (h : Hf O q 6 p) : q ≤ 6 := by
  have key : ∀ k, k < q → k ≤ p k := fun k => by
    induction k with
    | zero => intro _; exact Nat.zero_le _
    | succ k ih => intro hk; have := ih (by omega); have := h.rise k (k + 1) (by omega) hk; omega
  cases q with
  | zero => omega
  | succ q => have := key q (by omega); have := h.lt q (by omega); omega
theorem pv_congr6 {f g : Nat → Int} (h : ∀ j, j < 6 → f j = g j) : PV f = PV g := by
  unfold PV
  rw [h 0 (by omega), h 1 (by omega), h 2 (by omega), h 3 (by omega), h 4 (by omega), h 5 (by omega)]
theorem mem_yes {H : Nat → Nat → Int} {s : Nat → Nat} {v : Nat → Int} {r : Nat} {e : Ending} {w' : World} (h : MemRes H s v r e w') (h1 : ∀ k, k ≤ r → Vv (rmd H s v k)) (h0 : ∀ j, j < 6 → rmd H s v r j = 0) : ∃ lo lc, e = .returned (.tuple #[.slice lo r lc, .bool true, .int .i64 0]) ∧ r ≤ lc ∧ lc ≤ maxLen ∧ CI w' lo ((List.range r).map (ckf H s v)) := by
  rcases h with ⟨_, ⟨_, h⟩ | ⟨h, _⟩⟩ | ⟨⟨k, hk, h⟩, _⟩
  · exact h
  · exact absurd h0 h
  · exact absurd (h1 k hk) h
theorem vv_all {f : Nat → Nat → Int} {r : Nat} (h : ∀ k, k < r + 1 → ∀ j, j < 6 → -1000000000 ≤ f k j ∧ f k j ≤ 1000000000) : ∀ k, k ≤ r → Vv (f k) := fun k hk => h k (by omega)
theorem Mi.no {H : Nat → Nat → Int} {s : Nat → Nat} {v : Nat → Int} {r : Nat} (h : Mi H s r v) : ¬ Mo H s r v ∧ ¬ Mr H s r v := ⟨fun k => k.2 h.2, fun ⟨k, hk, n⟩ => n (h.1 k hk)⟩
theorem Mo.no {H : Nat → Nat → Int} {s : Nat → Nat} {v : Nat → Int} {r : Nat} (h : Mo H s r v) : ¬ Mi H s r v ∧ ¬ Mr H s r v := ⟨fun k => h.2 k.2, fun ⟨k, hk, n⟩ => n (h.1 k hk)⟩
theorem mi_dec {H : Nat → Nat → Int} {s : Nat → Nat} {v : Nat → Int} {r : Nat} (h : (∀ k, k < r + 1 → ∀ j, j < 6 → -1000000000 ≤ rmd H s v k j ∧ rmd H s v k j ≤ 1000000000) ∧ ∀ j, j < 6 → rmd H s v r j = 0) : Mi H s r v := ⟨vv_all h.1, h.2⟩
theorem mo_dec {H : Nat → Nat → Int} {s : Nat → Nat} {v : Nat → Int} {r : Nat} (h : (∀ k, k < r + 1 → ∀ j, j < 6 → -1000000000 ≤ rmd H s v k j ∧ rmd H s v k j ≤ 1000000000) ∧ ¬ ∀ j, j < 6 → rmd H s v r j = 0) : Mo H s r v := ⟨vv_all h.1, h.2⟩
theorem memX1 (ao : Option Addr) (w : World) (hR : CV w ao 2 (lm lxA)) : Calls Try.prog 32 #[.slice ao 2 2, (.agg #[.int .i64 3, .int .i64 4, .int .i64 (-4), .int .i64 0, .int .i64 0, .int .i64 0])] w fun e w' => ∃ lo lc, e = .returned (.tuple #[.slice lo 2 lc, .bool true, .int .i64 0]) ∧ 2 ≤ lc ∧ lc ≤ maxLen ∧ Bx (CI w' lo [3, -2]) ∧ Bx (Below w.heap.size w w') :=
  (lmember_at ao 2 2 (lm lxA) (lm [3, 4, -4, 0, 0, 0] 0) w (Nat.le_refl _) (by decide) hR vmxA (show Vv (lm [3, 4, -4, 0, 0, 0] 0) from by unfold Vv; decide +kernel)).mono fun e w' ⟨q, O, p, hS, h6, hM, hb⟩ => by
    obtain ⟨lo, lc, h1, h2, h3, h4⟩ := mem_yes (hM.at canA ⟨hS.1, hS.2.1, hS.2.2, h6⟩) (vv_all (by decide +kernel)) (by decide +kernel)
    have e : (List.range 2).map (ckf (lm lxAH) id (lm [3, 4, -4, 0, 0, 0] 0)) = [3, -2] := by decide +kernel
    exact ⟨lo, lc, h1, h2, h3, ⟨e ▸ h4⟩, ⟨hb⟩⟩
theorem memX2 (ao : Option Addr) (w : World) (hR : CV w ao 2 (lm lxA)) : Calls Try.prog 32 #[.slice ao 2 2, (.agg #[.int .i64 (-19), .int .i64 12, .int .i64 0, .int .i64 0, .int .i64 0, .int .i64 0])] w fun e w' => ∃ lo lc, e = .returned (.tuple #[.slice lo 2 lc, .bool true, .int .i64 0]) ∧ 2 ≤ lc ∧ lc ≤ maxLen ∧ Bx (CI w' lo [-19, 14]) ∧ Bx (Below w.heap.size w w') :=
  (lmember_at ao 2 2 (lm lxA) (lm [-19, 12, 0, 0, 0, 0] 0) w (Nat.le_refl _) (by decide) hR vmxA (show Vv (lm [-19, 12, 0, 0, 0, 0] 0) from by unfold Vv; decide +kernel)).mono fun e w' ⟨q, O, p, hS, h6, hM, hb⟩ => by
    obtain ⟨lo, lc, h1, h2, h3, h4⟩ := mem_yes (hM.at canA ⟨hS.1, hS.2.1, hS.2.2, h6⟩) (vv_all (by decide +kernel)) (by decide +kernel)
    have e : (List.range 2).map (ckf (lm lxAH) id (lm [-19, 12, 0, 0, 0, 0] 0)) = [-19, 14] := by decide +kernel
    exact ⟨lo, lc, h1, h2, h3, ⟨e ▸ h4⟩, ⟨hb⟩⟩
theorem redX (ao : Option Addr) (w : World) (hR : CV w ao 2 (lm lxA)) : Calls Try.prog 34 #[.slice ao 2 2, (.agg #[.int .i64 (-1), .int .i64 1, .int .i64 0, .int .i64 0, .int .i64 0, .int .i64 0])] w fun e w' => e = .returned (.tuple #[(.agg #[.int .i64 0, .int .i64 21, .int .i64 (-14), .int .i64 0, .int .i64 0, .int .i64 0]), .int .i64 0]) ∧ Bx (Below w.heap.size w w') :=
  (reduce_at ao 2 2 (lm lxA) (lm [-1, 1, 0, 0, 0, 0] 0) w (Nat.le_refl _) (by decide) hR vmxA (show Vv (lm [-1, 1, 0, 0, 0, 0] 0) from by unfold Vv; decide +kernel)).mono fun e w' ⟨q, O, p, hS, h, hb⟩ => by
    obtain ⟨rfl, hp, hl, hO⟩ := canA O q p ⟨hS.1, hS.2.1, hS.2.2, hf_six hS.1⟩
    have hc := rmd_congr (v := lm [-1, 1, 0, 0, 0, 0] 0) hp hl hO
    have hv : ∀ k, k ≤ 2 → Vv (rmd (lm lxAH) id (lm [-1, 1, 0, 0, 0, 0] 0) k) := vv_all (by decide +kernel)
    rcases h with ⟨h, _⟩ | ⟨_, k, hk, h⟩
    · refine ⟨h.trans ?_, ⟨hb⟩⟩
      have e : ∀ j, j < 6 → rmd O p (lm [-1, 1, 0, 0, 0, 0] 0) 2 j = lm [0, 21, -14, 0, 0, 0] 0 j := fun j hj => (hc 2 (Nat.le_refl _) j hj).trans ((show ∀ j, j < 6 → rmd (lm lxAH) id (lm [-1, 1, 0, 0, 0, 0] 0) 2 j = lm [0, 21, -14, 0, 0, 0] 0 j by decide +kernel) j hj)
      have e2 := pv_congr6 e
      rw [e2]
      rfl
    · exact absurd ((Vv.congr (hc k hk)).2 (hv k hk)) h
theorem idxWO (ao bo : Option Addr) (w : World) (hA : CV w ao 1 (lm lxW)) (hB : CV w bo 1 (lm lxO)) : Calls Try.prog 40 #[.slice ao 1 1, .slice bo 1 1] w fun e w' => e = .returned (.tuple #[.int .i64 2, .int .i64 0]) ∧ Bx (Below w.heap.size w w') :=
  (lindex_ok ao bo 1 1 1 1 (lm lxW) (lm lxO) w (Nat.le_refl _) (by decide) (Nat.le_refl _) (by decide) hA hB vmxW vmxO).mono fun e w' ⟨hI, hb⟩ => by
    rcases hI.at canW canO with ⟨k, hk, _, h⟩ | ⟨_, h⟩
    · have hm : ∀ t, t < 1 → Mi (lm lxOH) id 1 (lm lxW t) := one_row (mi_dec (by decide +kernel))
      rcases h with ⟨h, _⟩ | ⟨h, _⟩
      · exact absurd h (hm k hk).no.2
      · exact absurd h (hm k hk).no.1
    · exact ⟨h.trans (by first | rfl | decide +kernel), ⟨hb⟩⟩
theorem idxWA (ao bo : Option Addr) (w : World) (hA : CV w ao 1 (lm lxW)) (hB : CV w bo 2 (lm lxA)) : Calls Try.prog 40 #[.slice ao 1 1, .slice bo 2 2] w fun e w' => e = .returned (.tuple #[.int .i64 0, .int .i64 0]) ∧ Bx (Below w.heap.size w w') :=
  (lindex_ok ao bo 1 2 1 2 (lm lxW) (lm lxA) w (Nat.le_refl _) (by decide) (Nat.le_refl _) (by decide) hA hB vmxW vmxA).mono fun e w' ⟨hI, hb⟩ => by
    rcases hI.at canW canA with ⟨k, hk, _, h⟩ | ⟨_, h⟩
    · have hm : ∀ t, t < 1 → Mi (lm lxAH) id 2 (lm lxW t) := one_row (mi_dec (by decide +kernel))
      rcases h with ⟨h, _⟩ | ⟨h, _⟩
      · exact absurd h (hm k hk).no.2
      · exact absurd h (hm k hk).no.1
    · exact ⟨h.trans (by first | rfl | decide +kernel), ⟨hb⟩⟩
theorem idxOW (ao bo : Option Addr) (w : World) (hA : CV w ao 1 (lm lxO)) (hB : CV w bo 1 (lm lxW)) : Calls Try.prog 40 #[.slice ao 1 1, .slice bo 1 1] w fun e w' => e = .returned (.tuple #[.int .i64 0, .int .i64 4]) ∧ Bx (Below w.heap.size w w') :=
  (lindex_ok ao bo 1 1 1 1 (lm lxO) (lm lxW) w (Nat.le_refl _) (by decide) (Nat.le_refl _) (by decide) hA hB vmxO vmxW).mono fun e w' ⟨hI, hb⟩ => by
    have hm : Mo (lm lxWH) id 1 (lm lxO 0) := mo_dec (by decide +kernel)
    rcases hI.at canO canW with ⟨k, hk, _, h⟩ | ⟨h, _⟩
    · obtain rfl : k = 0 := by omega
      rcases h with ⟨h, _⟩ | ⟨_, h⟩
      · exact absurd h hm.no.2
      · exact ⟨h, ⟨hb⟩⟩
    · exact absurd (h 0 (by omega)) hm.no.1
theorem ordW (ao : Option Addr) (w : World) (hR : CV w ao 1 (lm lxW)) : Calls Try.prog 42 #[.slice ao 1 1, (.agg #[.int .i64 (-4), .int .i64 4, .int .i64 (-1), .int .i64 0, .int .i64 0, .int .i64 0])] w fun e w' => e = .returned (.tuple #[.int .i64 2, .int .i64 0]) ∧ Bx (Below w.heap.size w w') :=
  (lorder_ok ao 1 1 (lm lxW) (lm [-4, 4, -1, 0, 0, 0] 0) w (Nat.le_refl _) (by decide) hR vmxW (show Vv (lm [-4, 4, -1, 0, 0, 0] 0) from by unfold Vv; decide +kernel)).mono fun e w' ⟨hI, hb⟩ => by
    rcases hI.at canW with ⟨_, ⟨h0, h⟩ | ⟨h0, h⟩⟩ | ⟨⟨t, ht, h⟩, _⟩
    · exact ⟨h.trans (by first | rfl | decide +kernel), ⟨hb⟩⟩
    · exact absurd (show ∀ j, j < 6 → ox (lm lxWH) id (lm [-4, 4, -1, 0, 0, 0] 0) (2 * 1) j = 0 by decide +kernel) h0
    · exact absurd (vv_all (f := ox (lm lxWH) id (lm [-4, 4, -1, 0, 0, 0] 0)) (r := 2 * 1) (by decide +kernel) t ht) h
theorem ordA (ao : Option Addr) (w : World) (hR : CV w ao 2 (lm lxA)) : Calls Try.prog 42 #[.slice ao 2 2, (.agg #[.int .i64 1, .int .i64 0, .int .i64 0, .int .i64 0, .int .i64 0, .int .i64 0])] w fun e w' => e = .returned (.tuple #[.int .i64 0, .int .i64 0]) ∧ Bx (Below w.heap.size w w') :=
  (lorder_ok ao 2 2 (lm lxA) (lm [1, 0, 0, 0, 0, 0] 0) w (Nat.le_refl _) (by decide) hR vmxA (show Vv (lm [1, 0, 0, 0, 0, 0] 0) from by unfold Vv; decide +kernel)).mono fun e w' ⟨hI, hb⟩ => by
    rcases hI.at canA with ⟨_, ⟨h0, h⟩ | ⟨h0, h⟩⟩ | ⟨⟨t, ht, h⟩, _⟩
    · exact absurd h0 (show ¬ ∀ j, j < 6 → ox (lm lxAH) id (lm [1, 0, 0, 0, 0, 0] 0) (2 * 2) j = 0 by decide +kernel)
    · exact ⟨h, ⟨hb⟩⟩
    · exact absurd (vv_all (f := ox (lm lxAH) id (lm [1, 0, 0, 0, 0, 0] 0)) (r := 2 * 2) (by decide +kernel) t ht) h
theorem sameAB (ao bo : Option Addr) (w : World) (hA : CV w ao 2 (lm lxA)) (hB : CV w bo 3 (lm lxB)) : Calls Try.prog 36 #[.slice ao 2 2, .slice bo 3 3] w fun e w' => e = .returned (.tuple #[.bool true, .int .i64 0]) ∧ Bx (Below w.heap.size w w') :=
  (lsame_ok ao bo 2 3 2 3 (lm lxA) (lm lxB) w (Nat.le_refl _) (by decide) (Nat.le_refl _) (by decide) hA hB vmxA vmxB).mono fun e w' ⟨b, q, q', O, O', p, p', he, hb, h1, h2, hB⟩ => by
    obtain ⟨e1, _, _, e2⟩ := canA O q p h1.out
    obtain ⟨e3, _, _, e4⟩ := canB O' q' p' h2.out
    obtain rfl : b = true := hb.out.2 ⟨e1.trans e3.symm, fun i j hi hj => (e2 i j hi hj).trans (e4 i j (by omega) hj).symm⟩
    exact ⟨he, hB⟩
theorem sameOW (ao bo : Option Addr) (w : World) (hA : CV w ao 1 (lm lxO)) (hB : CV w bo 1 (lm lxW)) : Calls Try.prog 36 #[.slice ao 1 1, .slice bo 1 1] w fun e w' => e = .returned (.tuple #[.bool false, .int .i64 0]) ∧ Bx (Below w.heap.size w w') :=
  (lsame_ok ao bo 1 1 1 1 (lm lxO) (lm lxW) w (Nat.le_refl _) (by decide) (Nat.le_refl _) (by decide) hA hB vmxO vmxW).mono fun e w' ⟨b, q, q', O, O', p, p', he, hb, h1, h2, hB⟩ => by
    obtain ⟨e1, _, _, e2⟩ := canO O q p h1.out
    obtain ⟨e3, _, _, e4⟩ := canW O' q' p' h2.out
    have hn : b ≠ true := fun e => by
      have h := (hb.out.1 e).2 0 0 (by omega) (by omega)
      rw [e2 0 0 (by omega) (by omega), e4 0 0 (by omega) (by omega)] at h
      exact absurd h (by decide +kernel)
    obtain rfl : b = false := by cases b <;> simp_all
    exact ⟨he, hB⟩
theorem sumX (b1 b2 : Addr) (w : World) (hA : CV w (some b1) 1 (lm lxO)) (hB : CV w (some b2) 1 (lm lxS)) : Calls Try.prog 38 #[.slice (some b1) 1 1, .slice (some b2) 1 1] w fun e w' => ∃ ho hc, e = .returned (.tuple #[.slice ho 2 hc, .int .i64 0]) ∧ 2 ≤ hc ∧ hc ≤ maxLen ∧ Bx (CV w' ho 2 (lm lxAH)) ∧ Bx (Below w.heap.size w w') :=
  (lsum_ok (some b1) (some b2) 1 1 1 1 (lm lxO) (lm lxS) w (Nat.le_refl _) (by decide) (Nat.le_refl _) (by decide) hA hB vmxO vmxS (by intro h; cases h) (by intro h; cases h)).mono fun e w' ⟨h, hb⟩ => by
    rcases h with ⟨h, _⟩ | ⟨_, ho, hc, q, O, p, he, hcv, h1, h2, hS⟩
    · exact absurd vmxC h
    · obtain ⟨rfl, _, _, hO⟩ := canC O q p hS
      exact ⟨ho, hc, he, h1, h2, ⟨hcv.congr hO⟩, ⟨hb⟩⟩
end Go.Proofs.Ytnbamjoadankmaa
/- The chapter's examples of lattices: head of the laws. -/
namespace Go.Proofs.Ytnbamjoadankmaa
open Go.RowKit D
/-- The three matrices of the examples. -/
structure H3 (w W : World) : Prop where
  a : CV W (some ⟨w.heap.size, 0, none⟩) 2 (lm lxA)
  o : CV W (some ⟨w.heap.size + 1, 0, none⟩) 1 (lm lxO)
  t : CV W (some ⟨w.heap.size + 1 + 1, 0, none⟩) 1 (lm lxW)
  b : Below w.heap.size w W
  z : w.heap.size < W.heap.size
theorem H3.keep {w W W' : World} (h : H3 w W) (hb : Below W.heap.size W W') : H3 w W' := ⟨h.a.keep hb, h.o.keep hb, h.t.keep hb, h.b.trans (hb.mono h.b.size), Nat.lt_of_lt_of_le h.z hb.size⟩
theorem H3.more {w W W' : World} {o : Obj} (h : H3 w W) (hb : Below (W.alloc o).heap.size (W.alloc o) W') : H3 w W' := h.keep (below_new hb)
theorem H3.new (w : World) : H3 w (((w.alloc (.cells (lxA.map (Value.int .i64)).toArray 36)).alloc (.cells (lxO.map (Value.int .i64)).toArray 36)).alloc (.cells (lxW.map (Value.int .i64)).toArray 36)) := by
  have h1 := cv_lit w lxA 2 36 rfl
  have h2 := cv_lit (w.alloc (.cells (lxA.map (Value.int .i64)).toArray 36)) lxO 1 36 rfl
  have h3 := cv_lit ((w.alloc (.cells (lxA.map (Value.int .i64)).toArray 36)).alloc (.cells (lxO.map (Value.int .i64)).toArray 36)) lxW 1 36 rfl
  simp only [World.size_alloc] at h2 h3
  exact ⟨h1.keep ((above_new _ _).trans ((above_new _ _).mono (by simp))), h2.keep (above_new _ _), h3, (above_new w _).trans (((above_new _ _).mono (by simp)).trans ((above_new _ _).mono (by simp; omega))), by simp; omega⟩
set_option maxRecDepth 100000 in
set_option maxHeartbeats 16000000 in
theorem lhead_any (w : World) : Calls Try.prog 31 #[] w fun e w' => e = .returned (.bool true) ∧ Below w.heap.size w w' := by
  have M1 : Bx True := ⟨trivial⟩
  have M2 : Bx True := ⟨trivial⟩
  have M3 : Bx True := ⟨trivial⟩
  have M4 : Bx True := ⟨trivial⟩
  have M5 : Bx True := ⟨trivial⟩
  have M6 : Bx True := ⟨trivial⟩
  have M7 : Bx True := ⟨trivial⟩
  have M8 : Bx True := ⟨trivial⟩
  have M9 : Bx True := ⟨trivial⟩
  have M10 : Bx True := ⟨trivial⟩
  have M11 : Bx True := ⟨trivial⟩
  have M12 : Bx True := ⟨trivial⟩
  have M13 : Bx True := ⟨trivial⟩
  have M14 : Bx True := ⟨trivial⟩
  have X0 := Bx.mk (H3.new w)
  have E6 : ∀ w, (Op.equalIn 10000 36 (.agg #[.int .i64 0, .int .i64 21, .int .i64 (-14), .int .i64 0, .int .i64 0, .int .i64 0]) (.agg #[.int .i64 0, .int .i64 21, .int .i64 (-14), .int .i64 0, .int .i64 0, .int .i64 0])).run Try.prog w = .ok true w := eq6_is 36 Try.underlying36 (lm [0, 21, -14, 0, 0, 0] 0) (lm [0, 21, -14, 0, 0, 0] 0) true ⟨fun _ _ _ => rfl, fun _ => rfl⟩
  go_enter Try.func31, Try.ntmps31
  go_wp2_with (first
    | (clear M1; go_at_call 32; refine (memX1 _ _ X0.out.a).mono ?_; rintro e w1 ⟨l1, c1, rfl, k1, q1, C1, B1⟩
       have X1 := Bx.mk (X0.out.keep B1.out))
    | (clear M2; go_at_call 32; refine (memX2 _ _ X1.out.a).mono ?_; rintro e w2 ⟨l2, c2, rfl, k2, q2, C2, B2⟩
       have X2 := Bx.mk (X1.out.keep B2.out)
       have D1 := Bx.mk (C1.out.keep B2.out))
    | (clear M3; go_at_call 28; refine (ints_any _ _ _ _ 2 2 [3, -2] [3, -2] _ rfl rfl k1 q1 (Nat.le_refl _) (by decide) (D1.out.keep ((Below.refl _ w2).alloc (Nat.le_refl _) _)) (ci_lit w2 [3, -2] 3) true (by simp)).mono ?_; rintro e w3 ⟨rfl, B3⟩
       have X3 := Bx.mk (X2.out.more B3)
       have D2 := Bx.mk (C2.out.keep (below_new B3)))
    | (clear M4; go_at_call 28; refine (ints_any _ _ _ _ 2 2 [-19, 14] [-19, 14] _ rfl rfl k2 q2 (Nat.le_refl _) (by decide) (D2.out.keep ((Below.refl _ w3).alloc (Nat.le_refl _) _)) (ci_lit w3 [-19, 14] 3) true (by simp)).mono ?_; rintro e w4 ⟨rfl, B4⟩
       have X4 := Bx.mk (X3.out.more B4))
    | (clear M5; go_at_call 34; refine (redX _ _ X4.out.a).mono ?_; rintro e w5 ⟨rfl, B5⟩
       have X5 := Bx.mk ((X4.out.keep B5.out).keep (above_new w5 (.cells #[.int .i64 0, .int .i64 21, .int .i64 (-14), .int .i64 0, .int .i64 0, .int .i64 0] 36)))
       have V5 := Bx.mk (VB.new w5 (lm [0, 21, -14, 0, 0, 0] 0)))
    | (clear M6; go_at_call 40; refine (idxWO _ _ _ X5.out.t X5.out.o).mono ?_; rintro e w6 ⟨rfl, B6⟩
       have X6 := Bx.mk (X5.out.keep B6.out)
       have V6 := Bx.mk (V5.out.keep (B6.out.block _ V5.out.lt)))
    | (clear M7; go_at_call 42; refine (ordW _ _ X6.out.t).mono ?_; rintro e w7 ⟨rfl, B7⟩
       have X7 := Bx.mk (X6.out.keep B7.out)
       have V7 := Bx.mk (V6.out.keep (B7.out.block _ V6.out.lt)))
    | (clear M8; go_at_call 42; refine (ordA _ _ X7.out.a).mono ?_; rintro e w8 ⟨rfl, B8⟩
       have X8 := Bx.mk (X7.out.keep B8.out)
       have V8 := Bx.mk (V7.out.keep (B8.out.block _ V7.out.lt)))
    | (clear M9; go_at_call 40; refine (idxWA _ _ _ X8.out.t X8.out.a).mono ?_; rintro e w9 ⟨rfl, B9⟩
       have X9 := Bx.mk (X8.out.keep B9.out)
       have V9 := Bx.mk (V8.out.keep (B9.out.block _ V8.out.lt)))
    | (clear M10; go_at_call 40; refine (idxOW _ _ _ X9.out.o X9.out.t).mono ?_; rintro e w10 ⟨rfl, B10⟩
       have X10 := Bx.mk (X9.out.keep B10.out)
       have V10 := Bx.mk (V9.out.keep (B10.out.block _ V9.out.lt)))
    | (clear M11; go_at_call 36; refine (sameAB _ _ _ (X10.out.keep (above_new w10 (.cells (lxB.map (Value.int .i64)).toArray 36))).a (cv_lit w10 lxB 3 36 rfl)).mono ?_; rintro e w11 ⟨rfl, B11⟩
       have X11 := Bx.mk (X10.out.more B11.out)
       have V11 := Bx.mk (V10.out.keep ((below_new B11.out).block _ V10.out.lt)))
    | (clear M12; go_at_call 36; refine (sameOW _ _ _ X11.out.o X11.out.t).mono ?_; rintro e w12 ⟨rfl, B12⟩
       have X12 := Bx.mk (X11.out.keep B12.out)
       have V12 := V11.out.keep (B12.out.block _ V11.out.lt)
       have u0 : w12.cell? ⟨w5.heap.size, 0, none⟩ = some (.int .i64 0) := V12.c0
       have u1 : w12.cell? ⟨w5.heap.size, 1, none⟩ = some (.int .i64 21) := V12.c1
       have u2 : w12.cell? ⟨w5.heap.size, 2, none⟩ = some (.int .i64 (-14)) := V12.c2
       have u3 : w12.cell? ⟨w5.heap.size, 3, none⟩ = some (.int .i64 0) := V12.c3
       have u4 : w12.cell? ⟨w5.heap.size, 4, none⟩ = some (.int .i64 0) := V12.c4
       have u5 : w12.cell? ⟨w5.heap.size, 5, none⟩ = some (.int .i64 0) := V12.c5
       clear V12)
    | (clear M13; go_at_call 38; refine (sumX _ _ _ (X12.out.keep (above_new w12 (.cells (lxS.map (Value.int .i64)).toArray 36))).o (cv_lit w12 lxS 1 36 rfl)).mono ?_; rintro e w13 ⟨l13, c13, rfl, k13, q13, C13, B13⟩
       have X13 := Bx.mk (X12.out.more B13.out))
    | (clear M14; go_at_call 23; refine (same_any _ _ _ _ 2 2 (lm lxAH) (lm lxAH) _ k13 q13 (Nat.le_refl _) (by decide) (C13.out.keep ((Below.refl _ w13).alloc (Nat.le_refl _) _)) (cv_lit w13 lxAH 2 36 rfl) true (by simp)).mono ?_; rintro e w14 ⟨rfl, B14⟩
       have X14 := Bx.mk (X13.out.more B14)))
  go_ret
  exact ⟨rfl, X14.out.b⟩
end Go.Proofs.Ytnbamjoadankmaa
/- Lattices: members and representatives, and the index. -/
namespace Go.Proofs.Ytnbamjoadankmaa
open Go.RowKit D
/-- What is taken off is in the lattice. -/
theorem rmd_sub (O : Nat → Nat → Int) (p : Nat → Nat) (v : Nat → Int) {q : Nat} : ∀ k, k ≤ q → Sp O q 6 (fun j => v j - rmd O p v k j) := by
  intro k
  induction k with
  | zero => intro _; exact Sp.zero.congr fun j _ => by show v j - v j = 0; omega
  | succ k ih =>
    intro hk
    have h := (ih (by omega)).add ((Sp.unit (M := O) (n := q) (m := 6) (p := k) (by omega)).mul (rmd O p v k (p k) / O k (p k)))
    refine h.congr fun j _ => ?_
    show v j - (rmd O p v k j + -(rmd O p v k (p k) / O k (p k)) * O k j) = v j - rmd O p v k j + rmd O p v k (p k) / O k (p k) * O k j
    rw [Int.neg_mul]; omega
/-- A reduced vector. -/
def Rdu (O : Nat → Nat → Int) (p : Nat → Nat) (q : Nat) (u : Nat → Int) : Prop := ∀ k, k < q → 0 ≤ u (p k) ∧ u (p k) < O k (p k)
theorem rmd_red {O : Nat → Nat → Int} {p : Nat → Nat} {q : Nat} (h : Hf O q 6 p) (v : Nat → Int) : ∀ t, t ≤ q → ∀ k, k < t → 0 ≤ rmd O p v t (p k) ∧ rmd O p v t (p k) < O k (p k) := by
  intro t
  induction t with
  | zero => intro _ k hk; omega
  | succ t ih =>
    intro ht k hk
    show 0 ≤ rmd O p v t (p k) + -(rmd O p v t (p t) / O t (p t)) * O t (p k) ∧ rmd O p v t (p k) + -(rmd O p v t (p t) / O t (p t)) * O t (p k) < O k (p k)
    by_cases e : k = t
    · subst e
      have hp := h.pos k (by omega)
      have h1 := Int.emod_nonneg (rmd O p v k (p k)) (show O k (p k) ≠ 0 by omega)
      have h2 := Int.emod_lt_of_pos (rmd O p v k (p k)) hp
      have h3 := Int.mul_ediv_add_emod (rmd O p v k (p k)) (O k (p k))
      rw [Int.neg_mul, Int.mul_comm (rmd O p v k (p k) / O k (p k))]
      omega
    · rw [h.left t (p k) (by omega) (h.rise k t (by omega) (by omega)), Int.mul_zero, Int.add_zero]
      exact ih (by omega) k (by omega)
theorem rdu_of {O : Nat → Nat → Int} {p : Nat → Nat} {q : Nat} (h : Hf O q 6 p) (v : Nat → Int) : Rdu O p q (rmd O p v q) := rmd_red h v q (Nat.le_refl _)
/-- Two reduced vectors that differ by a member are the same. -/
theorem Rdu.one {O : Nat → Nat → Int} {p : Nat → Nat} {q : Nat} (h : Hf O q 6 p) {u v : Nat → Int} (hu : Rdu O p q u) (hv : Rdu O p q v) (hd : Sp O q 6 (fun j => u j - v j)) : ∀ j, j < 6 → u j = v j := fun j hj => by
  have h0 := h.small hd (fun k hk => by
    have a := hu k hk
    have b := hv k hk
    have c := h.pos k hk
    show (u (p k) - v (p k)).natAbs < (O k (p k)).natAbs
    omega) j hj
  have h1 : u j - v j = 0 := h0
  omega
theorem rmd_mem {O : Nat → Nat → Int} {p : Nat → Nat} {q : Nat} (h : Hf O q 6 p) {v : Nat → Int} : Sp O q 6 v ↔ ∀ j, j < 6 → rmd O p v q j = 0 := by
  have hs := rmd_sub O p v (q := q) q (Nat.le_refl _)
  refine ⟨fun hv => ?_, fun h0 => hs.congr fun j hj => by rw [h0 j hj]; omega⟩
  have h1 : Sp O q 6 (fun j => rmd O p v q j) := (hv.add (hs.mul (-1))).congr fun j _ => by
    show rmd O p v q j = v j + -1 * (v j - rmd O p v q j)
    omega
  exact (rdu_of h v).one h (v := fun _ => 0) (fun k hk => ⟨Int.le_refl _, h.pos k hk⟩) (h1.congr fun j _ => by omega)
theorem Mi.sp {O : Nat → Nat → Int} {p : Nat → Nat} {q : Nat} {v : Nat → Int} (h : Hf O q 6 p) (hm : Mi O p q v) : Sp O q 6 v := (rmd_mem h).2 hm.2
theorem Mo.sp {O : Nat → Nat → Int} {p : Nat → Nat} {q : Nat} {v : Nat → Int} (h : Hf O q 6 p) (hm : Mo O p q v) : ¬ Sp O q 6 v := fun hs => hm.2 ((rmd_mem h).1 hs)
theorem HfS.can {M H : Nat → Nat → Int} {n r : Nat} {s : Nat → Nat} (h : HfS M n H r s) : Can M n H r s := Can.of h.hf h.sub h.rows
theorem HfS.sp {M H : Nat → Nat → Int} {n r : Nat} {s : Nat → Nat} (h : HfS M n H r s) (v : Nat → Int) : Sp M n 6 v ↔ Sp H r 6 v := ⟨fun k => k.trans h.rows, fun k => k.trans h.sub⟩
/-- Where a member begins. -/
theorem Hf.lead : ∀ {r : Nat} {H : Nat → Nat → Int} {p : Nat → Nat}, Hf H r 6 p → ∀ {v : Nat → Int}, Sp H r 6 v → ∀ {c : Nat}, c < 6 → v c ≠ 0 → (∀ j, j < c → v j = 0) → ∃ k, k < r ∧ p k = c ∧ H k c ∣ v c
  | 0, H, p, h, v, hv, c, hc, h0, _ => by
    obtain ⟨x, hx⟩ := hv
    exact absurd (hx c hc) h0
  | r + 1, H, p, h, v, hv, c, hc, h0, hl => by
    obtain ⟨f1, f2, f3⟩ := h.front hv
    by_cases e : c = p 0
    · exact ⟨0, by omega, e.symm, by rw [e]; exact f2⟩
    · have hlt : p 0 < c := by
        rcases Nat.lt_or_gt_of_ne e with x | x
        · exact absurd (f1 c x) h0
        · exact x
      have e0 : v (p 0) = 0 := hl _ hlt
      have h2 : Sp (D.tl H) r 6 v := f3.congr fun j _ => by rw [e0, Int.zero_ediv]; omega
      obtain ⟨k, hk, h3, h4⟩ := Hf.lead h.tl h2 hc h0 hl
      exact ⟨k + 1, by omega, h3, h4⟩
theorem rise_id {q : Nat} {f : Nat → Nat} (h1 : ∀ k, k < q → f k < q) (h2 : ∀ i k, i < k → k < q → f i < f k) : ∀ k, k < q → f k = k := by
  have up : ∀ k, k < q → k ≤ f k := fun k => by
    induction k with
    | zero => intro _; exact Nat.zero_le _
    | succ k ih => intro hk; have := ih (by omega); have := h2 k (k + 1) (by omega) hk; omega
  have dn : ∀ d, d < q → f (q - 1 - d) ≤ q - 1 - d := fun d => by
    induction d with
    | zero => intro hd; have := h1 (q - 1 - 0) (by omega); omega
    | succ d ih => intro hd; have := ih (by omega); have := h2 (q - 1 - (d + 1)) (q - 1 - d) (by omega) (by omega); omega
  intro k hk
  have := up k hk
  have a := dn (q - 1 - k) (by omega)
  rw [show q - 1 - (q - 1 - k) = k by omega] at a
  omega
theorem pr_dvd {f g : Nat → Int} : ∀ q, (∀ k, k < q → g k ∣ f k) → pr g q ∣ pr f q
  | 0, _ => Int.dvd_refl _
  | q + 1, h => Int.mul_dvd_mul (pr_dvd q fun k hk => h k (by omega)) (h q (by omega))
theorem pr_same {f g : Nat → Int} : ∀ q, (∀ k, k < q → 0 < g k ∧ g k ≤ f k) → pr f q = pr g q → ∀ k, k < q → f k = g k
  | 0, _, _ => fun k hk => by omega
  | q + 1, h, e => fun k hk => by
    have hp := prod_pos (s := g) (r := q) fun k hk => (h k (by omega)).1
    have hle : pr g q ≤ pr f q := by
      clear e hk k
      induction q with
      | zero => exact Int.le_refl _
      | succ q ih => exact Int.mul_le_mul (ih (fun k hk => h k (by omega)) (prod_pos fun k hk => (h k (by omega)).1)) (h q (by omega)).2 (by have := (h q (by omega)).1; omega) (Int.le_of_lt (prod_pos fun k hk => by have := h k (by omega); omega))
    have hq := h q (by omega)
    have e' : pr f q * f q = pr g q * g q := e
    have hf : f q = g q := by
      rcases Int.lt_or_eq_of_le hq.2 with x | x
      · exfalso
        have h1 : pr g q * g q < pr g q * f q := Int.mul_lt_mul_of_pos_left x hp
        have h2 : pr g q * f q ≤ pr f q * f q := Int.mul_le_mul_of_nonneg_right hle (by omega)
        omega
      · exact x.symm
    by_cases ek : k = q
    · rw [ek]; exact hf
    · refine pr_same q (fun k hk => h k (by omega)) ?_ k (by omega)
      rw [hf] at e'
      exact Int.eq_of_mul_eq_mul_right (by omega) e'
/-- A lattice in another one. -/
theorem sub_rank {O O' : Nat → Nat → Int} {q q' : Nat} {p p' : Nat → Nat} (h : Hf O q 6 p) (h' : Hf O' q' 6 p') (hs : ∀ i, i < q → Sp O' q' 6 (O i)) : q ≤ q' := by
  have a := h.rank (M := O) (n := q) (fun i hi => Sp.unit hi) (fun i hi => Sp.unit hi)
  have b := h'.rank (M := O') (n := q') (fun i hi => Sp.unit hi) (fun i hi => Sp.unit hi)
  rcases Nat.lt_or_ge q' q with x | x
  · have := (a q).1 (((b q).2 x).rows hs)
    omega
  · exact x
theorem sub_piv {O O' : Nat → Nat → Int} {q : Nat} {p p' : Nat → Nat} (h : Hf O q 6 p) (h' : Hf O' q 6 p') (hs : ∀ i, i < q → Sp O' q 6 (O i)) : (∀ k, k < q → p k = p' k) ∧ ∀ k, k < q → O' k (p' k) ∣ O k (p k) := by
  have key : ∀ k, k < q → ∃ k', k' < q ∧ p' k' = p k ∧ O' k' (p k) ∣ O k (p k) := fun k hk =>
    Hf.lead h' (hs k hk) (h.lt k hk) (by have := h.pos k hk; omega) (fun j hj => h.left k j hk hj)
  obtain ⟨f, hf⟩ : ∃ f : Nat → Nat, ∀ k, k < q → f k < q ∧ p' (f k) = p k ∧ O' (f k) (p k) ∣ O k (p k) := by
    refine ⟨fun k => if h : k < q then (key k h).choose else 0, fun k hk => ?_⟩
    simp only [hk, dif_pos]
    exact (key k hk).choose_spec
  have mono : ∀ i k, i < k → k < q → f i < f k := fun i k hik hk => by
    have e1 := (hf i (by omega)).2.1
    have e2 := (hf k hk).2.1
    have e3 := h.rise i k hik hk
    rcases Nat.lt_or_ge (f i) (f k) with x | x
    · exact x
    · exfalso
      rcases Nat.lt_or_eq_of_le x with y | y
      · have := h'.rise (f k) (f i) y (hf i (by omega)).1; omega
      · rw [y] at e2; omega
  have id := rise_id (fun k hk => (hf k hk).1) mono
  refine ⟨fun k hk => by have := (hf k hk).2.1; rw [id k hk] at this; exact this.symm, fun k hk => ?_⟩
  have a := (hf k hk).2
  rw [id k hk] at a
  rw [a.1]; exact a.2
theorem sub_pv {O O' : Nat → Nat → Int} {q : Nat} {p p' : Nat → Nat} (h : Hf O q 6 p) (h' : Hf O' q 6 p') (hs : ∀ i, i < q → Sp O' q 6 (O i)) : pv O' p' q ∣ pv O p q := pr_dvd q (sub_piv h h' hs).2
theorem sub_same {O O' : Nat → Nat → Int} {q : Nat} {p p' : Nat → Nat} (h : Hf O q 6 p) (h' : Hf O' q 6 p') (hs : ∀ i, i < q → Sp O' q 6 (O i)) (he : pv O p q = pv O' p' q) : ∀ i, i < q → Sp O q 6 (O' i) := fun i hi => by
  obtain ⟨hp, hd⟩ := sub_piv h h' hs
  have hk := pr_same (f := fun k => O k (p k)) (g := fun k => O' k (p' k)) q (fun k hk => ⟨h'.pos k hk, Int.le_of_dvd (h.pos k hk) (hd k hk)⟩) he
  refine (rmd_mem h).2 ?_
  have h1 : Sp O' q 6 (rmd O p (O' i) q) := ((Sp.unit hi).add (((rmd_sub O p (O' i) (q := q) q (Nat.le_refl _)).trans hs).mul (-1))).congr fun j _ => by
    show rmd O p (O' i) q j = O' i j + -1 * (O' i j - rmd O p (O' i) q j)
    omega
  refine h'.small h1 fun k hk' => ?_
  have a := rdu_of h (O' i) k hk'
  have b := hk k hk'
  have c := h.pos k hk'
  rw [← hp k hk']
  have b' : O k (p k) = O' k (p k) := by rw [hp k hk']; rw [hp k hk'] at b; exact b
  omega
end Go.Proofs.Ytnbamjoadankmaa
