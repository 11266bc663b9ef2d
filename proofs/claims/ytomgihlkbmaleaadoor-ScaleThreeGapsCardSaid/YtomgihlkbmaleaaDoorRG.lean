/- Three gaps: the steps of a chain have at most three sizes. -/
import Derived.Test.YtomgihlkbmaleaaDoorQX
import Derived.Test.YtomgihlkbmaleaaDoorQZ
namespace Go.Proofs.YtomgihlkbmaleaaDoor
open Go.RowKit M
theorem oc_more (x y : Int) (j : Nat) : oc (x + y) j = oc x j + oc y j := by unfold oc; split <;> omega
/-- v leads from a power to the one k further on, but for octaves. -/
def Cg (g : Nat → Int) (k : Int) (v : Nat → Int) : Prop := ∃ m : Int, ∀ j, j < 6 → v j = k * g j + oc m j
theorem Cg.add {g : Nat → Int} {k l : Int} {u v w : Nat → Int} (h : Cg g k u) (h2 : Cg g l v) (e : ∀ j, j < 6 → w j = u j + v j) : Cg g (k + l) w := by
  obtain ⟨m, h⟩ := h
  obtain ⟨m', h2⟩ := h2
  exact ⟨m + m', fun j hj => by rw [e j hj, h j hj, h2 j hj, oc_more, Int.add_mul]; omega⟩
theorem Cg.sub {g : Nat → Int} {k l : Int} {u v w : Nat → Int} (h : Cg g k u) (h2 : Cg g l v) (e : ∀ j, j < 6 → w j = u j - v j) : Cg g (k - l) w := by
  obtain ⟨m, h⟩ := h
  obtain ⟨m', h2⟩ := h2
  exact ⟨m - m', fun j hj => by rw [e j hj, h j hj, h2 j hj, Int.sub_mul]; have := oc_more (m - m') m' j; rw [show m - m' + m' = m by omega] at this; omega⟩
theorem Cg.oct (g : Nat → Int) : Cg g 0 (oc 1) := ⟨1, fun j _ => by simp⟩
theorem Cg.zero (g : Nat → Int) : Cg g 0 (fun _ => 0) := ⟨0, fun j _ => by simp [oc]⟩
theorem Cg.of_oct {g q : Nat → Int} {i : Nat} {o : Int} (h : Oct (mu g i) q o) : Cg g i q := ⟨-o, fun j hj => by rw [h.eq j hj]; rfl⟩
/-- u is not above v; u is below v. -/
def pLe (u v : Nat → Int) : Prop := 0 ≤ sg (subV v u)
def pLt (u v : Nat → Int) : Prop := 0 < sg (subV v u)
def pEq (u v : Nat → Int) : Prop := ∀ j, j < 6 → u j = v j
theorem eq_of_sg {u v : Nat → Int} (h : sg (subV v u) = 0) : pEq u v := fun j hj => by have := sg_zero.1 h j hj; simp only [subV] at this; omega
theorem sg_sub_anti (u v : Nat → Int) : sg (subV u v) = -sg (subV v u) := sg_anti fun j _ => by simp only [subV]; omega
theorem pLe_or (u v : Nat → Int) : pLe u v ∨ pLt v u := by
  unfold pLe pLt
  rw [sg_sub_anti u v]; omega
theorem pLe_anti {u v : Nat → Int} (h : pLe u v) (k : pLe v u) : pEq u v := by
  unfold pLe at h k
  rw [sg_sub_anti u v] at k
  exact eq_of_sg (by omega)
theorem pLt_or {u v : Nat → Int} (h : pLe u v) : pLt u v ∨ pEq u v := by
  unfold pLe at h
  rcases Int.lt_or_eq_of_le h with k | k
  · exact .inl k
  · exact .inr (eq_of_sg k.symm)
theorem pLt_not {u v : Nat → Int} (h : pLt u v) (k : pLe v u) : False := by
  unfold pLe pLt at *
  rw [sg_sub_anti u v] at k; omega
theorem pLt_le {u v w : Nat → Int} (h : pLt u v) (k : pLe v w) : pLt u w := by
  unfold pLe pLt at *
  exact sg_gt_sum h k fun j _ => by simp only [subV]; omega
theorem pLe_trans {u v w : Nat → Int} (h : pLe u v) (k : pLe v w) : pLe u w := by
  unfold pLe at *
  exact sg_ge_sum h k fun j _ => by simp only [subV]; omega
theorem pLt.le {u v : Nat → Int} (h : pLt u v) : pLe u v := by unfold pLe; unfold pLt at h; omega
/-- A chain: n powers of a generator within the octave, none twice. -/
structure Chn (g : Nat → Int) (n : Nat) (Q : Nat → Nat → Int) : Prop where
  pos : 0 < n
  cg : ∀ i, i < n → Cg g i (Q i)
  in1 : ∀ i, i < n → In1 (Q i)
  df : ∀ i j, i < j → j < n → ¬ pEq (Q i) (Q j)
theorem Chn.one {g : Nat → Int} {n : Nat} {Q : Nat → Nat → Int} (h : Chn g n Q) {k : Nat} (hk : k < n) {v : Nat → Int} (hv : Cg g k v) (h1 : In1 v) : pEq v (Q k) := by
  obtain ⟨m, e⟩ := hv
  obtain ⟨m', e'⟩ := h.cg k hk
  have := (h.in1 k hk).one h1 (n := m' - m) fun j hj => by
    rw [e j hj, e' j hj]; have := oc_more (m' - m) m j; rw [show m' - m + m = m' by omega] at this; omega
  obtain rfl : m = m' := by omega
  exact fun j hj => by rw [e j hj, e' j hj]
theorem pLe_congr {u v u' v' : Nat → Int} (h : pLe u v) (e : pEq u u') (e' : pEq v v') : pLe u' v' := by
  unfold pLe at *
  rw [← sg_congr (u := subV v u) (v := subV v' u') fun j hj => by simp only [subV]; rw [e j hj, e' j hj]]
  exact h
theorem Cg.of {g : Nat → Int} {k l : Int} {u v : Nat → Int} (h : Cg g k u) (e : k = l) (e' : pEq u v) : Cg g l v := by
  obtain ⟨m, h⟩ := h
  exact ⟨m, fun j hj => by rw [← e' j hj, h j hj, e]⟩
theorem pEq.rfl' (u : Nat → Int) : pEq u u := fun _ _ => rfl
theorem in1_zero : In1 fun _ => 0 := ⟨by rw [sg_zero']; omega, by
  have := sg_oc_pos
  rw [show sg (subV (fun _ => 0) (oc 1)) = -sg (oc 1) from sg_anti fun j _ => by simp only [subV]; omega]; omega⟩
theorem Chn.above {g : Nat → Int} {n : Nat} {Q : Nat → Nat → Int} (h : Chn g n Q) {k : Nat} (h0 : 0 < k) (hk : k < n) : 0 < sg (Q k) := by
  have h1 := (h.in1 k hk).lo
  rcases Int.lt_or_eq_of_le h1 with e | e
  · exact e
  exfalso
  have z : pEq (fun _ => 0) (Q 0) := h.one h.pos (Cg.zero g) in1_zero
  have hk0 := sg_zero.1 e.symm
  exact h.df 0 k h0 hk fun j hj => by rw [← z j hj, hk0 j hj]
theorem least_ex (Q : Nat → Nat → Int) : ∀ n, 2 ≤ n → ∃ a, 0 < a ∧ a < n ∧ ∀ k, 0 < k → k < n → pLe (Q a) (Q k)
  | 0, h => by omega
  | n + 1, h => by
    by_cases e : n = 1
    · subst e
      refine ⟨1, by omega, by omega, fun k h0 h1 => ?_⟩
      obtain rfl : k = 1 := by omega
      unfold pLe; rw [sg_zero.2 fun j _ => by simp [subV]]; omega
    · obtain ⟨a, h1, h2, h3⟩ := least_ex Q n (by omega)
      rcases pLe_or (Q a) (Q n) with k | k
      · refine ⟨a, h1, by omega, fun i i0 i1 => ?_⟩
        rcases Nat.lt_or_ge i n with g | g
        · exact h3 i i0 g
        · obtain rfl : i = n := by omega
          exact k
      · refine ⟨n, by omega, by omega, fun i i0 i1 => ?_⟩
        rcases Nat.lt_or_ge i n with g | g
        · exact pLe_trans k.le (h3 i i0 g)
        · obtain rfl : i = n := by omega
          unfold pLe; rw [sg_zero.2 fun j _ => by simp [subV]]; omega
theorem most_ex (Q : Nat → Nat → Int) : ∀ n, 2 ≤ n → ∃ a, 0 < a ∧ a < n ∧ ∀ k, 0 < k → k < n → pLe (Q k) (Q a)
  | 0, h => by omega
  | n + 1, h => by
    by_cases e : n = 1
    · subst e
      refine ⟨1, by omega, by omega, fun k h0 h1 => ?_⟩
      obtain rfl : k = 1 := by omega
      unfold pLe; rw [sg_zero.2 fun j _ => by simp [subV]]; omega
    · obtain ⟨a, h1, h2, h3⟩ := most_ex Q n (by omega)
      rcases pLe_or (Q n) (Q a) with k | k
      · refine ⟨a, h1, by omega, fun i i0 i1 => ?_⟩
        rcases Nat.lt_or_ge i n with g | g
        · exact h3 i i0 g
        · obtain rfl : i = n := by omega
          exact k
      · refine ⟨n, by omega, by omega, fun i i0 i1 => ?_⟩
        rcases Nat.lt_or_ge i n with g | g
        · exact pLe_trans (h3 i i0 g) k.le
        · obtain rfl : i = n := by omega
          unfold pLe; rw [sg_zero.2 fun j _ => by simp [subV]]; omega
/-- The least and the greatest of a chain's other pitches. -/
structure Ends (g : Nat → Int) (n : Nat) (Q : Nat → Nat → Int) (a b : Nat) : Prop where
  chn : Chn g n Q
  a0 : 0 < a
  a1 : a < n
  b0 : 0 < b
  b1 : b < n
  mn : ∀ k, 0 < k → k < n → pLe (Q a) (Q k)
  mx : ∀ k, 0 < k → k < n → pLe (Q k) (Q b)
def dn' (q : Nat → Int) : Nat → Int := subV (oc 1) q
theorem Ends.up {g : Nat → Int} {n a b : Nat} {Q : Nat → Nat → Int} (h : Ends g n Q a b) {k : Int} (h0 : 0 < k) (hk : k < n) {v : Nat → Int} (hv : Cg g k v) (hp : 0 < sg v) : pLe (Q a) v := by
  obtain ⟨k, rfl⟩ := Int.eq_ofNat_of_zero_le (Int.le_of_lt h0)
  rcases pLe_or (oc 1) v with e | e
  · refine pLe_trans ?_ e
    have := (h.chn.in1 a h.a1).hi
    unfold pLe; rw [sg_sub_anti]; omega
  · have i1 : In1 v := ⟨Int.le_of_lt hp, by unfold pLt at e; rw [sg_sub_anti]; omega⟩
    have := h.chn.one (k := k) (by omega) hv i1
    exact pLe_congr (h.mn k (by omega) (by omega)) (pEq.rfl' _) fun j hj => (this j hj).symm
theorem Ends.down {g : Nat → Int} {n a b : Nat} {Q : Nat → Nat → Int} (h : Ends g n Q a b) {k : Int} (h0 : 0 < k) (hk : k < n) {v : Nat → Int} (hv : Cg g (-k) v) (hp : 0 < sg v) : pLe (dn' (Q b)) v := by
  obtain ⟨k, rfl⟩ := Int.eq_ofNat_of_zero_le (Int.le_of_lt h0)
  rcases pLe_or (oc 1) v with e | e
  · refine pLe_trans ?_ e
    have := (h.chn.in1 b h.b1).lo
    unfold pLe; rw [show sg (subV (oc 1) (dn' (Q b))) = sg (Q b) from sg_congr fun j _ => by simp only [subV, dn']; omega]; exact this
  · have hw : Cg g k (subV (oc 1) v) := ((Cg.oct g).sub hv fun j _ => rfl).of (by omega) (pEq.rfl' _)
    have i1 : In1 (subV (oc 1) v) := ⟨Int.le_of_lt e, by
      rw [show sg (subV (subV (oc 1) v) (oc 1)) = -sg v from sg_anti fun j _ => by simp only [subV]; omega]; omega⟩
    have := h.chn.one (k := k) (by omega) hw i1
    have h3 := h.mx k (by omega) (by omega)
    unfold pLe at h3 ⊢
    rw [← sg_congr (u := subV (Q b) (Q k)) fun j hj => by simp only [subV, dn']; rw [← this j hj]; simp only [subV]; omega]
    exact h3
theorem Cg.none {g v : Nat → Int} (hv : Cg g 0 v) (hp : 0 < sg v) : pLe (oc 1) v := by
  obtain ⟨m, e⟩ := hv
  have em : sg v = sg (oc m) := sg_congr fun j hj => by rw [e j hj]; simp
  have hm : 0 < m := by
    refine Int.lt_of_not_ge fun hn => ?_
    rcases Int.lt_or_eq_of_le hn with k | k
    · have := sg_oc (n := -m) (by omega)
      rw [show sg (oc (-m)) = -sg (oc m) from sg_anti fun j _ => by unfold oc; split <;> omega] at this
      omega
    · subst k
      rw [em, sg_zero.2 fun j _ => by simp [oc]] at hp; omega
  unfold pLe
  rw [show sg (subV v (oc 1)) = sg (oc (m - 1)) from sg_congr fun j hj => by
    simp only [subV]; rw [e j hj]; unfold oc; split <;> omega]
  by_cases e1 : m = 1
  · subst e1; rw [sg_zero.2 fun j _ => by simp [oc]]; omega
  · rw [sg_oc (by omega)]; omega
/-- d leads from the power i to the next pitch. -/
structure Least (g : Nat → Int) (n i : Nat) (d : Nat → Int) : Prop where
  pos : 0 < sg d
  at' : ∃ j, j < n ∧ Cg g ((j : Int) - i) d
  min : ∀ j, j < n → ∀ v, Cg g ((j : Int) - i) v → 0 < sg v → pLe d v
theorem Least.one {g : Nat → Int} {n i : Nat} {d e : Nat → Int} (h : Least g n i d) (k : Least g n i e) : pEq d e := by
  obtain ⟨j, hj, hc⟩ := h.at'
  obtain ⟨l, hl, hc'⟩ := k.at'
  exact pLe_anti (h.min l hl e hc' k.pos) (k.min j hj d hc h.pos)
theorem Ends.gap {g : Nat → Int} {n a b : Nat} {Q : Nat → Nat → Int} (h : Ends g n Q a b) {i : Nat} (hi : i < n) : Least g n i (Q a) ∨ Least g n i (dn' (Q b)) ∨ Least g n i (addV (Q a) (dn' (Q b))) := by
  have ha0 := h.a0; have ha1 := h.a1; have hb0 := h.b0; have hb1 := h.b1
  have cA := h.chn.cg a h.a1
  have cB : Cg g (0 - (b : Int)) (dn' (Q b)) := (Cg.oct g).sub (h.chn.cg b h.b1) fun j _ => rfl
  have pA := h.chn.above h.a0 h.a1
  have pB : 0 < sg (dn' (Q b)) := by
    have := (h.chn.in1 b h.b1).hi
    unfold dn'; rw [sg_sub_anti]; omega
  have lA : pLe (Q a) (oc 1) := by
    have := (h.chn.in1 a h.a1).hi
    unfold pLe; rw [sg_sub_anti]; omega
  have lB : pLe (dn' (Q b)) (oc 1) := by
    have := (h.chn.in1 b h.b1).lo
    unfold pLe; rw [show sg (subV (oc 1) (dn' (Q b))) = sg (Q b) from sg_congr fun j _ => by simp only [subV, dn']; omega]; exact this
  by_cases h1 : i + a < n
  · left
    refine ⟨pA, ⟨i + a, h1, cA.of (by omega) (pEq.rfl' _)⟩, fun j hj v hv hp => ?_⟩
    rcases Nat.lt_trichotomy i j with e | e | e
    · exact h.up (by omega) (by omega) hv hp
    · subst e; exact pLe_trans lA (Cg.none (hv.of (by omega) (pEq.rfl' _)) hp)
    · rcases pLe_or (Q a) v with k | k
      · exact k
      · have := h.up (k := (a : Int) - ((j : Int) - i)) (by omega) (by omega) (cA.sub hv (w := subV (Q a) v) fun j _ => rfl) k
        unfold pLe at this
        rw [show sg (subV (subV (Q a) v) (Q a)) = -sg v from sg_anti fun j _ => by simp only [subV]; omega] at this
        omega
  by_cases h2 : b ≤ i
  · right; left
    refine ⟨pB, ⟨i - b, by omega, cB.of (by omega) (pEq.rfl' _)⟩, fun j hj v hv hp => ?_⟩
    rcases Nat.lt_trichotomy i j with e | e | e
    · rcases pLe_or (dn' (Q b)) v with k | k
      · exact k
      · have := h.down (k := (b : Int) + ((j : Int) - i)) (by omega) (by omega) ((cB.sub hv (w := subV (dn' (Q b)) v) fun j _ => rfl).of (by omega) (pEq.rfl' _)) k
        unfold pLe at this
        rw [show sg (subV (subV (dn' (Q b)) v) (dn' (Q b))) = -sg v from sg_anti fun j _ => by simp only [subV]; omega] at this
        omega
    · subst e; exact pLe_trans lB (Cg.none (hv.of (by omega) (pEq.rfl' _)) hp)
    · exact h.down (k := (i : Int) - j) (by omega) (by omega) (hv.of (by omega) (pEq.rfl' _)) hp
  right; right
  refine ⟨sg_gt_sum pA (Int.le_of_lt pB) fun j _ => rfl, ⟨i + a - b, by omega, (cA.add cB (w := addV (Q a) (dn' (Q b))) fun j _ => rfl).of (by omega) (pEq.rfl' _)⟩, fun j hj v hv hp => ?_⟩
  rcases pLe_or (addV (Q a) (dn' (Q b))) v with k | k
  · exact k
  exfalso
  have kk : ¬ 0 ≤ sg (subV v (addV (Q a) (dn' (Q b)))) := by unfold pLt at k; rw [sg_sub_anti]; omega
  rcases Nat.lt_trichotomy i j with e | e | e
  · have hA := h.up (by omega) (by omega) hv hp
    rcases pLt_or hA with u | u
    · have := h.down (k := (a : Int) + i - j) (by omega) (by omega) ((hv.sub cA (w := subV v (Q a)) fun j _ => rfl).of (by omega) (pEq.rfl' _)) u
      unfold pLe at this
      rw [show sg (subV (subV v (Q a)) (dn' (Q b))) = sg (subV v (addV (Q a) (dn' (Q b)))) from sg_congr fun j _ => by simp only [subV, addV]; omega] at this
      exact kk this
    · have hc : Cg g ((j - i : Nat) : Int) (Q a) := hv.of (by omega) fun j hj => (u j hj).symm
      have := h.chn.one (k := j - i) (by omega) hc (h.chn.in1 a h.a1)
      rcases Nat.lt_trichotomy a (j - i) with f | f | f
      · exact h.chn.df a (j - i) f (by omega) this
      · omega
      · exact h.chn.df (j - i) a f h.a1 fun j hj => (this j hj).symm
  · subst e
    have h3 := Cg.none (hv.of (by omega) (pEq.rfl' _)) hp
    have h4 := h.mx a h.a0 h.a1
    unfold pLe at h3 h4
    exact kk (sg_ge_sum h3 h4 fun j _ => by simp only [subV, addV, dn']; omega)
  · have hB := h.down (k := (i : Int) - j) (by omega) (by omega) (hv.of (by omega) (pEq.rfl' _)) hp
    rcases pLt_or hB with u | u
    · have := h.up (k := (b : Int) - ((i : Int) - j)) (by omega) (by omega) ((hv.sub cB (w := subV v (dn' (Q b))) fun j _ => rfl).of (by omega) (pEq.rfl' _)) u
      unfold pLe at this
      rw [show sg (subV (subV v (dn' (Q b))) (Q a)) = sg (subV v (addV (Q a) (dn' (Q b)))) from sg_congr fun j _ => by simp only [subV, addV]; omega] at this
      exact kk this
    · have hc : Cg g ((i - j : Nat) : Int) (Q b) := ((Cg.oct g).sub hv (w := subV (oc 1) v) fun j _ => rfl).of (by omega) fun j hj => by
        simp only [subV]; rw [← u j hj]; simp only [dn', subV]; omega
      have := h.chn.one (k := i - j) (by omega) hc (h.chn.in1 b h.b1)
      rcases Nat.lt_trichotomy b (i - j) with f | f | f
      · exact h.chn.df b (i - j) f (by omega) this
      · omega
      · exact h.chn.df (i - j) b f h.b1 fun j hj => (this j hj).symm
theorem sv_oct {M : Nat → Nat → Int} {n : Nat} (h : SV M n) {i : Nat} (hi : i < n) : In1 (M i) := by
  refine ⟨?_, ?_⟩
  · rcases Nat.eq_zero_or_pos i with rfl | h0
    · rw [sg_zero.2 h.zero]; omega
    · have := sv_lt h 0 i h0 hi
      rw [show sg (subV (M 0) (M i)) = -sg (M i) from sg_anti fun j hj => by simp only [subV]; rw [h.zero j hj]; omega] at this
      omega
  · have hl : sg (subV (M (n - 1)) (oc 1)) < 0 := by
      have := h.up (n - 1) (by omega)
      unfold nx at this
      rw [if_pos (by omega)] at this
      exact (lwB_iff.1 this).2.2
    by_cases e : i = n - 1
    · rw [e]; exact hl
    · exact sg_lt_sum (sv_lt h i (n - 1) (by omega) (by omega)) (show sg (subV (M (n - 1)) (oc 1)) ≤ 0 by omega) fun j _ => by simp only [subV]; omega
theorem step_least {g : Nat → Int} {n : Nat} {Q M : Nat → Nat → Int} (h : Chn g n Q) (hp : (lsM M n).Perm (lsM Q n)) (hv : SV M n) {r : Nat} (hr : r < n) : ∃ i, i < n ∧ Least g n i (fun j => nx M n r j - M r j) := by
  have mem : ∀ s, s < n → ∃ i, i < n ∧ M s = Q i := fun s hs => by
    have hm : M s ∈ lsM M n := List.mem_map.2 ⟨s, List.mem_range.2 hs, rfl⟩
    obtain ⟨i, hi, e⟩ := List.mem_map.1 (hp.mem_iff.1 hm)
    exact ⟨i, List.mem_range.1 hi, e.symm⟩
  have mem' : ∀ i, i < n → ∃ s, s < n ∧ M s = Q i := fun i hi => by
    have hm : Q i ∈ lsM Q n := List.mem_map.2 ⟨i, List.mem_range.2 hi, rfl⟩
    obtain ⟨s, hs, e⟩ := List.mem_map.1 (hp.mem_iff.2 hm)
    exact ⟨s, List.mem_range.1 hs, e⟩
  obtain ⟨i, hi, ei⟩ := mem r hr
  have ci := h.cg i hi
  have st : 0 < sg (fun j => nx M n r j - M r j) := by
    have k := (lwB_iff.1 (hv.up r hr)).2.2
    rw [sg_sub_anti] at k
    have e : sg (subV (nx M n r) (M r)) = sg (fun j => nx M n r j - M r j) := sg_congr fun j _ => rfl
    omega
  have nxle : 0 ≤ sg (subV (oc 1) (nx M n r)) := by
    unfold nx
    split
    · rw [sg_zero.2 fun j _ => by simp [subV]]; omega
    · have := (sv_oct hv (i := r + 1) (by omega)).hi
      rw [sg_sub_anti]; omega
  refine ⟨i, hi, st, ?_, fun j hj v hc hpv => ?_⟩
  · by_cases e : r + 1 = n
    · refine ⟨0, h.pos, ((Cg.oct g).sub ci (w := subV (oc 1) (Q i)) fun j _ => rfl).of (by omega) fun j _ => ?_⟩
      simp only [nx, if_pos e, subV]; rw [ei]
    · obtain ⟨l, hl, el⟩ := mem (r + 1) (by omega)
      refine ⟨l, hl, ((h.cg l hl).sub ci (w := subV (Q l) (Q i)) fun j _ => rfl).of rfl fun j _ => ?_⟩
      simp only [nx, if_neg e, subV]; rw [ei, el]
  · rcases pLe_or (fun j => nx M n r j - M r j) v with k | k
    · exact k
    exfalso
    unfold pLt at k
    have hw : Cg g j (addV (M r) v) := ((ei ▸ ci : Cg g i (M r)).add hc (w := addV (M r) v) fun j _ => rfl).of (by omega) (pEq.rfl' _)
    have i1 : In1 (addV (M r) v) := by
      refine ⟨sg_ge_sum (sv_oct hv hr).lo (Int.le_of_lt hpv) fun j _ => rfl, ?_⟩
      rw [sg_sub_anti]
      have := sg_gt_sum (w := subV (oc 1) (addV (M r) v)) k nxle fun j _ => by simp only [subV, addV]; omega
      omega
    have e1 := h.one hj hw i1
    obtain ⟨s, hs, es⟩ := mem' j hj
    have b1 : 0 < sg (subV (M s) (M r)) := by
      rw [show sg (subV (M s) (M r)) = sg v from sg_congr fun j hj => by simp only [subV]; rw [es, ← e1 j hj]; simp only [addV]; omega]; exact hpv
    have b2 : 0 < sg (subV (nx M n r) (M s)) := by
      rw [show sg (subV (nx M n r) (M s)) = sg (subV (fun j => nx M n r j - M r j) v) from sg_congr fun j hj => by simp only [subV]; rw [es, ← e1 j hj]; simp only [addV]; omega]; exact k
    rcases Nat.lt_trichotomy s r with f | f | f
    · have := sv_lt hv s r f hr; omega
    · subst f; rw [sg_zero.2 fun j _ => by simp [subV]] at b1; omega
    · unfold nx at b2
      rw [if_neg (by omega)] at b2
      rcases Nat.lt_or_ge (r + 1) s with f2 | f2
      · have := sv_lt hv (r + 1) s f2 hs; omega
      · obtain rfl : s = r + 1 := by omega
        rw [sg_zero.2 fun j _ => by simp [subV]] at b2; omega
/-- The three gaps. -/
theorem three_gaps {g : Nat → Int} {n : Nat} {Q M : Nat → Nat → Int} (h : Chn g n Q) (hp : (lsM M n).Perm (lsM Q n)) (hv : SV M n) (h2 : 2 ≤ n) : ∃ A B : Nat → Int, ∀ r, r < n → pEq (stp M n r) A ∨ pEq (stp M n r) B ∨ pEq (stp M n r) (addV A B) := by
  obtain ⟨a, a0, a1, mn⟩ := least_ex Q n h2
  obtain ⟨b, b0, b1, mx⟩ := most_ex Q n h2
  have E : Ends g n Q a b := ⟨h, a0, a1, b0, b1, mn, mx⟩
  refine ⟨Q a, dn' (Q b), fun r hr => ?_⟩
  obtain ⟨i, hi, L⟩ := step_least h hp hv hr
  rcases E.gap hi with k | k | k
  · exact .inl (L.one k)
  · exact .inr (.inl (L.one k))
  · exact .inr (.inr (L.one k))
end Go.Proofs.YtomgihlkbmaleaaDoor
