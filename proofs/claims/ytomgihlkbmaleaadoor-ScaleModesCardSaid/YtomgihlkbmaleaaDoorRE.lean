/- The modes of a scale. -/
import Derived.Test.YtomgihlkbmaleaaDoorRC
namespace Go.Proofs.YtomgihlkbmaleaaDoor
open Go.RowKit M
/-- The pitches of a scale, counted on through the octaves. -/
def ov (M : Nat → Nat → Int) (n t : Nat) : Nat → Int := fun j => M (t % n) j + oc ((t / n : Nat) : Int) j
theorem oc_add (x y : Int) (j : Nat) : oc (x + y) j = oc x j + oc y j := by unfold oc; split <;> omega
theorem ov_at (M : Nat → Nat → Int) {n : Nat} (hn : 0 < n) {r : Nat} (hr : r < n) (e j : Nat) : ov M n (n * e + r) j = M r j + oc (e : Nat) j := by
  unfold ov
  rw [Nat.mul_add_mod, Nat.mod_eq_of_lt hr, Nat.mul_add_div hn, Nat.div_eq_of_lt hr, Nat.add_zero]
theorem ov_low (M : Nat → Nat → Int) {n : Nat} {r : Nat} (hr : r < n) (j : Nat) : ov M n r j = M r j := by
  have := ov_at M (by omega) hr 0 j
  rw [Nat.mul_zero, Nat.zero_add] at this
  rw [this]; unfold oc; split <;> simp
theorem ov_shift (M : Nat → Nat → Int) {n : Nat} (hn : 0 < n) (t e j : Nat) : ov M n (t + n * e) j = ov M n t j + oc (e : Nat) j := by
  have h1 := ov_at M hn (Nat.mod_lt t hn) (t / n) j
  have h2 := ov_at M hn (Nat.mod_lt t hn) (t / n + e) j
  rw [Nat.div_add_mod] at h1
  rw [show n * (t / n + e) + t % n = t + n * e by rw [Nat.mul_add]; have := Nat.div_add_mod t n; omega] at h2
  rw [h1, h2, Int.natCast_add, oc_add]; omega
theorem ov_next {M : Nat → Nat → Int} {n : Nat} (hn : 0 < n) (hz : ∀ j, j < 6 → M 0 j = 0) {i : Nat} (hi : i < n) (j : Nat) (hj : j < 6) : ov M n (i + 1) j = nx M n i j := by
  unfold nx
  by_cases e : i + 1 = n
  · rw [if_pos e]
    have := ov_at M hn hn 1 j
    rw [show n * 1 + 0 = i + 1 by omega, hz j hj] at this
    rw [this]; simp
  · rw [if_neg e]; exact ov_low M (by omega) j
theorem ov_up {M : Nat → Nat → Int} {n : Nat} (h : SV M n) (t : Nat) : sg (subV (ov M n t) (ov M n (t + 1))) < 0 := by
  have hr := Nat.mod_lt t h.pos
  have k := (lwB_iff.1 (h.up _ hr)).2.2
  rw [show sg (subV (ov M n t) (ov M n (t + 1))) = sg (subV (M (t % n)) (nx M n (t % n))) from sg_congr fun j hj => by
    have e0 := Nat.div_add_mod t n
    have h1 := ov_shift M h.pos (t % n) (t / n) j
    have h2 := ov_shift M h.pos (t % n + 1) (t / n) j
    rw [show t % n + n * (t / n) = t by omega] at h1
    rw [show t % n + 1 + n * (t / n) = t + 1 by omega] at h2
    simp only [subV]
    rw [h1, h2, ov_low M hr, ov_next h.pos h.zero hr j hj]; omega]
  exact k
theorem md_ov (M : Nat → Nat → Int) {n a k i : Nat} (ha : a < n) (hk : a + k = n) (hi : i < n) (j : Nat) : md M a k i j = ov M n (a + i) j - M a j := by
  unfold md
  by_cases e : i < k
  · rw [if_pos e, ov_low M (by omega)]
  · rw [if_neg e]
    have := ov_at M (n := n) (by omega) (r := i - k) (by omega) 1 j
    rw [show n * 1 + (i - k) = a + i by omega] at this
    rw [this]; simp
theorem md_nx {M : Nat → Nat → Int} {n a k i : Nat} (ha : a < n) (hk : a + k = n) (hi : i < n) (j : Nat) (hj : j < 6) : nx (md M a k) n i j = ov M n (a + i + 1) j - M a j := by
  unfold nx
  by_cases e : i + 1 = n
  · rw [if_pos e]
    have := ov_shift M (n := n) (by omega) a 1 j
    rw [show a + n * 1 = a + i + 1 by omega, ov_low M ha] at this
    rw [this]; simp
    omega
  · rw [if_neg e, md_ov M ha hk (by omega)]; rfl
theorem md_sv {M : Nat → Nat → Int} {n a k : Nat} (h : SV M n) (ha : a < n) (hk : a + k = n) (hb : ∀ i, i < n → bdB (md M a k i) 576 = true) : SV (md M a k) n := by
  refine ⟨h.pos, h.le, fun j hj => ?_, fun i hi => ?_⟩
  · rw [md_ov M ha hk h.pos, Nat.add_zero, ov_low M ha]; omega
  · rw [lwB_iff]
    refine ⟨hb i hi, ?_, ?_⟩
    · unfold nx; split
      · exact oc_val
      · exact hb _ (by omega)
    · rw [show sg (subV (md M a k i) (nx (md M a k) n i)) = sg (subV (ov M n (a + i)) (ov M n (a + i + 1))) from sg_congr fun j hj => by
        simp only [subV]; rw [md_ov M ha hk hi, md_nx ha hk hi j hj]; omega]
      exact ov_up h _
theorem ov_md {M : Nat → Nat → Int} {n a k : Nat} (ha : a < n) (hk : a + k = n) (t j : Nat) : ov (md M a k) n t j = ov M n (a + t) j - M a j := by
  have hn : 0 < n := by omega
  have hr := Nat.mod_lt t hn
  have e0 := Nat.div_add_mod t n
  have h1 := ov_shift (md M a k) hn (t % n) (t / n) j
  have h2 := ov_shift M hn (a + t % n) (t / n) j
  rw [show t % n + n * (t / n) = t by omega, ov_low _ hr, md_ov M ha hk hr] at h1
  rw [show a + t % n + n * (t / n) = a + t by omega] at h2
  rw [h1, h2]; omega
theorem md_md {M : Nat → Nat → Int} {n a k b l d m : Nat} (ha : a < n) (hk : a + k = n) (hb : b < n) (hl : b + l = n) (hd : d < n) (hm : d + m = n) (e : (a + b) % n = d) {i : Nat} (hi : i < n) (j : Nat) : md (md M a k) b l i j = md M d m i j := by
  have hn : 0 < n := by omega
  have e0 := Nat.div_add_mod (a + b) n
  rw [e] at e0
  rw [md_ov (md M a k) hb hl hi, ov_md ha hk, md_ov M ha hk hb, md_ov M hd hm hi]
  have h1 := ov_shift M hn (d + i) ((a + b) / n) j
  have h2 := ov_shift M hn d ((a + b) / n) j
  rw [show d + i + n * ((a + b) / n) = a + (b + i) by omega] at h1
  rw [show d + n * ((a + b) / n) = a + b by omega, ov_low M hd] at h2
  rw [h1, h2]; omega
theorem stp_md {M : Nat → Nat → Int} {n a k d : Nat} (hz : ∀ j, j < 6 → M 0 j = 0) (ha : a < n) (hk : a + k = n) {i : Nat} (hi : i < n) (hd : d < n) (e : (a + i) % n = d) (j : Nat) (hj : j < 6) : stp (md M a k) n i j = stp M n d j := by
  have hn : 0 < n := by omega
  have e0 := Nat.div_add_mod (a + i) n
  rw [e] at e0
  simp only [stp]
  rw [md_nx ha hk hi j hj, md_ov M ha hk hi, ← ov_next hn hz hd j hj]
  have h1 := ov_shift M hn (d + 1) ((a + i) / n) j
  have h2 := ov_shift M hn d ((a + i) / n) j
  rw [show d + 1 + n * ((a + i) / n) = a + i + 1 by omega] at h1
  rw [show d + n * ((a + i) / n) = a + i by omega, ov_low M hd] at h2
  rw [h1, h2]; omega
theorem md_zero (M : Nat → Nat → Int) {n : Nat} (hz : ∀ j, j < 6 → M 0 j = 0) {i : Nat} (hi : i < n) (j : Nat) (hj : j < 6) : md M 0 n i j = M i j := by
  rw [md_ov M (by omega) (by omega) hi, Nat.zero_add, ov_low M hi, hz j hj]; omega
end Go.Proofs.YtomgihlkbmaleaaDoor
