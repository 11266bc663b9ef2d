/- pitch: what the exported functions return, in the laws' words. -/
import Derived.Test.YtdlfnonlalkjdaaGreatDoorP13
import Derived.Test.YtdlfnonlalkjdaaGreatDoorQMath
namespace Go.Proofs.YtdlfnonlalkjdaaGreatDoor
open Go.RowKit M
/-- Ratio, by what it returns. -/
theorem ratio_v (n d : Nat) (w : World) (hP0 : Pm w) (hn0 : 1 ≤ n) (hn1 : n ≤ 1000000000) (hd0 : 1 ≤ d) (hd1 : d ≤ 1000000000) {va vb v : Nat → Int} {r s : Nat} {c : Int}
    (ha : FacR n va r) (hb : FacR d vb s) (hv : (r = s ∧ c = 0 ∧ ∀ i, i < 6 → v i = va i - vb i) ∨ (r ≠ s ∧ c = 9 ∧ ∀ i, i < 6 → v i = 0)) :
    Calls Tryz.prog 21 #[.int .i64 (n : Int), .int .i64 (d : Int)] w (OutV w v c) := by
  refine (ratio_any n d w hP0 hn0 hn1 hd0 hd1).mono ?_
  rintro e w' ⟨⟨va', vb', v', ra, rb, fa, fb, ho⟩, hB⟩
  obtain ⟨ea, er⟩ := fa.unique ha
  obtain ⟨eb, es⟩ := fb.unique hb
  refine ⟨?_, hB⟩
  rcases ho with ⟨h1, h2, rfl⟩ | ⟨h1, rfl⟩
  · rcases hv with ⟨_, rfl, k⟩ | ⟨k1, _⟩
    · rw [PV_congr (v := v) fun i hi => by rw [h2 i hi, k i hi, ea i hi, eb i hi]]
    · exact absurd (er.symm.trans (h1.trans es)) k1
  · rcases hv with ⟨k1, _⟩ | ⟨_, rfl, k⟩
    · exact absurd (er.trans (k1.trans es.symm)) h1
    · rw [PV_congr (u := fun _ => 0) (v := v) fun i hi => (k i hi).symm]
theorem chk_ok {v : Nat → Int} (h : bdB v 576 = true) : chkV v = v ∧ chkE v = 0 := by simp [chkV, chkE, h]
theorem chkE_zero {v : Nat → Int} (h : chkE v = 0) : bdB v 576 = true := by
  unfold chkE at h; split at h <;> simp_all
theorem chkE_cases (v : Nat → Int) : chkE v = 0 ∨ chkE v = 3 := by unfold chkE; split <;> simp
/-- What a product without an error is. -/
theorem com_ok {a b : Nat → Int} {n : Int} (h : comE a b n = 0) : bdB a 576 = true ∧ bdB b 576 = true ∧ bdB (fun i => a i + n * b i) 576 = true ∧ comV a b n = fun i => a i + n * b i := by
  unfold comE at h
  split at h
  · rename_i hab
    have h3 := chkE_zero h
    have hab' := hab
    simp only [Bool.and_eq_true] at hab
    refine ⟨hab.1, hab.2, h3, ?_⟩
    unfold comV; rw [if_pos hab', (chk_ok h3).1]
  · omega
theorem com_of {a b r : Nat → Int} {n : Int} (ha : bdB a 576 = true) (hb : bdB b 576 = true) (hr : bdB r 576 = true) (h : ∀ i, a i + n * b i = r i) : comV a b n = r ∧ comE a b n = 0 := by
  have e : (fun i => a i + n * b i) = r := funext h
  unfold comV comE; rw [ha, hb]; simp only [Bool.and_self, if_true, e]; exact chk_ok hr
theorem com_chk {a b r : Nat → Int} {n : Int} (ha : bdB a 576 = true) (hb : bdB b 576 = true) (h : ∀ i, a i + n * b i = r i) : comV a b n = chkV r ∧ comE a b n = chkE r := by
  have e : (fun i => a i + n * b i) = r := funext h
  unfold comV comE; rw [ha, hb]; simp only [Bool.and_self, if_true, e]; exact ⟨trivial, trivial⟩
theorem com_comm (a b : Nat → Int) : comV b a 1 = comV a b 1 ∧ comE b a 1 = comE a b 1 := by
  have e : (fun i => b i + 1 * a i) = fun i => a i + 1 * b i := by funext i; omega
  unfold comV comE; rw [e, Bool.and_comm]; exact ⟨rfl, rfl⟩
end Go.Proofs.YtdlfnonlalkjdaaGreatDoor
