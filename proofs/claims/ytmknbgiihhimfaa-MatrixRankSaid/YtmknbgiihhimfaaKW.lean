/- The kernel: the lattice of the free elements. -/
import Derived.Test.YtmknbgiihhimfaaKV
namespace Go.Proofs.Ytmknbgiihhimfaa
open Go.RowKit D
theorem sm_app (a b : Nat) (f : Nat → Int) : sm (a + b) f = sm a f + sm b (fun t => f (a + t)) := by
  induction b with
  | zero => simp [sm]
  | succ b ih => rw [← Nat.add_assoc]; simp only [sm]; rw [ih]; omega
theorem sm_one {n p : Nat} (hp : p < n) {f : Nat → Int} (h : ∀ t, t < n → t ≠ p → f t = 0) : sm n f = f p := by
  rw [← sm_unit hp f]
  refine sm_congr fun t ht => ?_
  by_cases e : t = p
  · simp [e]
  · simp [e, h t ht e]
theorem low_shift {H : Nat → Nat → Int} {q u m : Nat} {z : Nat → Int} (hm : q + u = m) (hp : ∀ k, k < m → 0 < H k k) (hl : ∀ k j, k < m → j < k → H k j = 0) (hz : Sp H m m z) (h0 : ∀ k, k < q → z k = 0) : Sp (fun i j => H (q + i) (q + j)) u u (fun j => z (q + j)) := by
  subst hm
  obtain ⟨c, hc⟩ := hz
  have hc0 : ∀ k, k < q → c k = 0 := by
    intro k
    induction k using Nat.strongRecOn with
    | ind k ih =>
      intro hk
      have h := hc k (by omega)
      rw [h0 k hk, sm_one (p := k) (by omega) fun t ht hne => by
        rcases Nat.lt_or_ge t k with h' | h'
        · rw [ih t h' (by omega)]; simp
        · rw [hl t k ht (by omega)]; simp] at h
      rcases Int.mul_eq_zero.1 h.symm with h' | h'
      · exact h'
      · have := hp k (by omega); omega
  refine ⟨fun t => c (q + t), fun j hj => ?_⟩
  show z (q + j) = sm u (fun t => c (q + t) * H (q + t) (q + j))
  rw [hc (q + j) (by omega), sm_app, sm_congr (n := q) (g := fun _ => 0) fun t ht => by rw [hc0 t ht]; simp, sm_zero]
  simp
theorem ker_lat {q u m : Nat} {om D : Int} {K L H R : Nat → Nat → Int} (hm : q + u = m) (hD : D = om.natAbs) (hL : ∀ t j, t < u → j < m → L t j = if j < q then K j t else if j = q + t then 1 else 0) (hF : Frm m m D H) (hge : Ge m u L D m u R H m) (hz : Zer u m R) :
    ∀ x, Sp (fun i j => H (q + i) (q + j)) u u x ↔ ∀ k, k < q → om ∣ sm u (fun t => K k t * x t) := by
  obtain ⟨f1, f2, f3⟩ := hge.fin hz
  have hdv : om ∣ D := by rw [hD]; exact Int.dvd_natAbs_self
  intro x
  constructor
  · intro hx
    -- the elements that lead to multiples
    have hS : Sub m (fun z => ∀ k, k < q → om ∣ z k - sm u (fun t => K k t * z (q + t))) := by
      refine ⟨fun k hk => ?_, fun y z hy hz k hk => ?_, fun c y hy k hk => ?_, fun y z e hy k hk => ?_⟩
      · simp [sm_zero]
      · have e : y k + z k - sm u (fun t => K k t * (y (q + t) + z (q + t))) = (y k - sm u (fun t => K k t * y (q + t))) + (z k - sm u (fun t => K k t * z (q + t))) := by
          rw [sm_congr (g := fun t => K k t * y (q + t) + K k t * z (q + t)) fun t _ => Int.mul_add _ _ _, sm_add]; omega
        show om ∣ y k + z k - sm u (fun t => K k t * (y (q + t) + z (q + t)))
        rw [e]; exact Int.dvd_add (hy k hk) (hz k hk)
      · have e : c * y k - sm u (fun t => K k t * (c * y (q + t))) = c * (y k - sm u (fun t => K k t * y (q + t))) := by
          rw [sm_congr (g := fun t => c * (K k t * y (q + t))) fun t _ => by rw [Int.mul_left_comm], sm_mul, Int.mul_sub]
        show om ∣ c * y k - sm u (fun t => K k t * (c * y (q + t)))
        rw [e]; exact Int.dvd_trans (hy k hk) (Int.dvd_mul_left _ _)
      · have h := hy k hk
        rw [e k (by omega), sm_congr (g := fun t => K k t * y (q + t)) fun t ht => by rw [e (q + t) (by omega)]]
        exact h
    have hH := f3 _ hS (fun t ht k hk => by
      rw [hL t k ht (by omega), if_pos hk, sm_one ht fun s hs hne => by rw [hL t (q + s) ht (by omega), if_neg (by omega), if_neg (by omega)]; simp]
      rw [hL t (q + t) ht (by omega), if_neg (by omega), if_pos rfl]; simp) (fun j hj k hk => by
      refine Int.dvd_sub ?_ (sm_dvd fun t ht => ?_)
      · unfold unitV; split
        · exact hdv
        · exact Int.dvd_zero _
      · unfold unitV; split
        · exact Int.dvd_trans hdv (Int.dvd_mul_left _ _)
        · simp)
    have hP : Sub u (fun z => ∀ k, k < q → om ∣ sm u (fun t => K k t * z t)) := by
      refine ⟨fun k hk => ?_, fun y z hy hz k hk => ?_, fun c y hy k hk => ?_, fun y z e hy k hk => ?_⟩
      · simp [sm_zero]
      · show om ∣ sm u (fun t => K k t * (y t + z t))
        rw [sm_congr (g := fun t => K k t * y t + K k t * z t) fun t _ => Int.mul_add _ _ _, sm_add]; exact Int.dvd_add (hy k hk) (hz k hk)
      · show om ∣ sm u (fun t => K k t * (c * y t))
        rw [sm_congr (g := fun t => c * (K k t * y t)) fun t _ => by rw [Int.mul_left_comm], sm_mul]; exact Int.dvd_trans (hy k hk) (Int.dvd_mul_left _ _)
      · have h := hy k hk
        rw [sm_congr (g := fun t => K k t * y t) fun t ht => by rw [e t ht]]
        exact h
    refine hP.of_sp hx fun i hi k hk => ?_
    have h := hH (q + i) (by omega) k hk
    rw [hF.left (q + i) k (by omega) (by omega)] at h
    have e : (0 : Int) - sm u (fun t => K k t * H (q + i) (q + t)) = -(sm u (fun t => K k t * H (q + i) (q + t))) := by omega
    rw [e] at h
    exact Int.dvd_neg.1 h
  · intro hx
    have h1 : Sp H m m (fun j => sm u (fun t => x t * L t j)) := Sp.sum f1
    -- what is to be taken away in the chosen columns
    have h2 : ∃ g : Nat → Int, ∀ k, k < q → sm u (fun t => K k t * x t) = D * g k := by
      refine ⟨fun k => sm u (fun t => K k t * x t) / D, fun k hk => ?_⟩
      have hd : D ∣ sm u (fun t => K k t * x t) := by rw [hD]; exact Int.natAbs_dvd.2 (hx k hk)
      exact (Int.mul_ediv_cancel' hd).symm
    obtain ⟨g, hg⟩ := h2
    have h3 : Sp H m m (fun j => sm q (fun k => g k * unitV D k j)) := Sp.sum fun k hk => f2 k (by omega)
    have h4 := h1.add (h3.mul (-1))
    have h5 := low_shift hm (fun k hk => (hF.piv k hk).1) (fun k j hk hj => hF.left k j hk hj) h4 (fun k hk => by
      show sm u (fun t => x t * L t k) + -1 * sm q (fun s => g s * unitV D s k) = 0
      rw [sm_one (n := q) hk (fun s hs hne => by unfold unitV; rw [if_neg (by omega)]; simp), sm_congr (g := fun t => K k t * x t) fun t ht => by rw [hL t k ht (by omega), if_pos hk, Int.mul_comm], hg k hk]
      unfold unitV; simp [Int.mul_comm]; omega)
    refine h5.congr fun j hj => ?_
    show x j = sm u (fun t => x t * L t (q + j)) + -1 * sm q (fun s => g s * unitV D s (q + j))
    rw [sm_congr (n := q) (g := fun _ => 0) (fun s hs => by unfold unitV; rw [if_neg (by omega)]; simp), sm_zero, sm_one hj fun t ht hne => by rw [hL t (q + j) ht (by omega), if_neg (by omega), if_neg (by omega)]; simp]
    rw [hL j (q + j) hj (by omega), if_neg (by omega), if_pos rfl]; simp
/-- The rows that lead the free elements to the chosen columns. -/
def leadR (G : Nat → Nat → Int) (cs : List Nat) : Nat → Nat → Int := fun t j => if j < cs.length then G j ((rest 6 cs).getD t 0) else if j = cs.length + t then 1 else 0
/-- The elements in the chosen columns that are written so far. -/
def solS (G : Nat → Nat → Int) (cs : List Nat) (c k : Nat) : Nat → Int := fun s => if cs.idxOf s < k then -(G (cs.idxOf s) c) else 0
def solR (G : Nat → Nat → Int) (cs : List Nat) (om : Int) : Nat → Nat → Int := fun t s => if s = (rest 6 cs).getD t 0 then om else solS G cs ((rest 6 cs).getD t 0) cs.length s
def outK (G H : Nat → Nat → Int) (cs : List Nat) (om : Int) : Nat → Nat → Int := fun i c => (cmb (fun t => H (cs.length + i) (cs.length + t)) (solR G cs om) (rest 6 cs).length c).tdiv om
theorem cs_nodup {cs : List Nat} (h : cs.Pairwise (· > ·)) : cs.Nodup := h.imp fun h => by omega
theorem idx_at {cs : List Nat} (hn : cs.Nodup) {k : Nat} (hk : k < cs.length) : cs.idxOf (cs.getD k 0) = k := by
  rw [List.getD_eq_getElem?_getD, List.getElem?_eq_getElem hk]
  exact hn.idxOf_getElem k hk
theorem kernel_math {M H R L : Nat → Nat → Int} {n : Nat} {is cs : List Nat} {D om : Int} {G : Nat → Nat → Int} (hG : Gr M n 6 (· ≥ ·) is cs) (hs : cs.Pairwise (· > ·)) (hO : mn (is.map M) cs = om) (hGG : ∀ k c, mn (is.map M) (cs.set k c) = G k c) (hD : D = om.natAbs)
    (hL : ∀ t j, t < (rest 6 cs).length → j < 6 → L t j = leadR G cs t j) (hF : Frm 6 6 D H) (hge : Ge 6 (rest 6 cs).length L D 6 (rest 6 cs).length R H 6) (hz : Zer (rest 6 cs).length 6 R) :
    Hf (outK G H cs om) (rest 6 cs).length 6 (fun t => (rest 6 cs).getD t 0) ∧ (∀ i k, i < (rest 6 cs).length → k < n → dot 6 (M k) (outK G H cs om i) = 0) ∧ ∀ y, (∀ k, k < n → dot 6 (M k) y = 0) → Sp (outK G H cs om) (rest 6 cs).length 6 y := by
  have hn := cs_nodup hs
  have hm := rest_six hn hG.cols
  have hlat := ker_lat (K := fun k t => G k ((rest 6 cs).getD t 0)) hm hD hL hF hge hz
  have hom : om ≠ 0 := hO ▸ hG.ne
  have hfree : ∀ t, t < (rest 6 cs).length → (rest 6 cs).getD t 0 < 6 ∧ (rest 6 cs).getD t 0 ∉ cs := fun t ht => mem_rest.1 (getD_mem ht)
  have hfn : (rest 6 cs).Nodup := List.nodup_range.filter _
  have hinj : ∀ s t, s < (rest 6 cs).length → t < (rest 6 cs).length → (rest 6 cs).getD s 0 = (rest 6 cs).getD t 0 → s = t := fun s t h1 h2 e => by
    rw [← idx_at hfn h1, e, idx_at hfn h2]
  refine hG.kernel hn (X := fun i j => H (cs.length + i) (cs.length + j)) ⟨fun k hk => hk, fun i k hik _ => hik, fun k hk => (hF.piv (cs.length + k) (by omega)).1, fun k j hk hj => hF.left (cs.length + k) (cs.length + j) (by omega) (by simp only [id] at hj; omega), fun i k hik hk => hF.red (cs.length + i) (cs.length + k) (by omega) (by omega)⟩ (fun x => ?_) (fun i t hi ht => ?_) (fun i k hi hk => ?_)
  · rw [hlat x]
    refine forall_congr' fun k => forall_congr' fun hk => ?_
    rw [hO, show (fun t => mn (is.map M) (cs.set k ((rest 6 cs).getD t 0)) * x t) = fun t => G k ((rest 6 cs).getD t 0) * x t from funext fun t => by rw [hGG]]
  · unfold outK cmb
    rw [sm_one ht fun s hs2 hne => by
      unfold solR solS
      rw [if_neg (fun e => hne (hinj _ _ ht hs2 e).symm), if_neg (by rw [List.idxOf_eq_length (hfree t ht).2]; omega)]; simp]
    unfold solR
    rw [if_pos rfl, Int.mul_tdiv_cancel _ hom]
  · rw [hO]
    have e : cmb (fun t => H (cs.length + i) (cs.length + t)) (solR G cs om) (rest 6 cs).length (cs.getD k 0) = - sm (rest 6 cs).length (fun t => H (cs.length + i) (cs.length + t) * G k ((rest 6 cs).getD t 0)) := by
      unfold cmb
      rw [sm_congr (g := fun t => (-1) * (H (cs.length + i) (cs.length + t) * G k ((rest 6 cs).getD t 0))) fun t ht => by
        unfold solR solS
        rw [if_neg (fun (e : cs.getD k 0 = (rest 6 cs).getD t 0) => (hfree t ht).2 (e ▸ getD_mem hk)), idx_at hn hk, if_pos hk]; grind, sm_mul]; omega
    have hd : om ∣ sm (rest 6 cs).length (fun t => H (cs.length + i) (cs.length + t) * G k ((rest 6 cs).getD t 0)) := by
      have h := (hlat (fun t => H (cs.length + i) (cs.length + t))).1 (Sp.unit (M := fun i j => H (cs.length + i) (cs.length + j)) hi) k hk
      rw [sm_congr (g := fun t => G k ((rest 6 cs).getD t 0) * H (cs.length + i) (cs.length + t)) fun t _ => Int.mul_comm _ _]
      exact h
    unfold outK
    rw [e, Int.mul_tdiv_cancel' (Int.dvd_neg.2 hd), sm_congr fun t ht => by rw [← hGG]]
end Go.Proofs.Ytmknbgiihhimfaa
