/- the reference's Parse reads what the package reads. -/
import Derived.Test.YthfpkjeobdajiabGreatDoorRJ
namespace Go.Proofs.YthfpkjeobdajiabGreatDoor
open Go.RowKit M
theorem strL_list (s : ByteArray) : strL s.data.toList = s := by
  apply ByteArray.ext; simp
theorem strL_inj {l : List UInt8} {s : ByteArray} : strL l = s ↔ l = s.data.toList := by
  constructor
  · intro h; subst h; simp
  · intro h; subst h; exact strL_list s
theorem parse_out (s : ByteArray) (n d : Int) (hc : ∀ n' d', validQ n' d' = true → textL n' d' = s.data.toList → n' = n ∧ d' = d) :
    (¬ txC n d = 0 ∧ readQ s.data.toList = ⟨0, 0, 8⟩) ∨ (txC n d = 0 ∧ ¬ txQ n d = s ∧ readQ s.data.toList = ⟨0, 0, 8⟩) ∨ (txC n d = 0 ∧ txQ n d = s ∧ readQ s.data.toList = ⟨n, d, 0⟩) := by
  have h := readQ_one hc
  by_cases hv : validQ n d = true
  · have e1 : txC n d = 0 := by simp [txC, hv]
    have e2 : txQ n d = strL (textL n d) := by simp [txQ, hv]
    rw [e1, e2]
    by_cases ht : textL n d = s.data.toList
    · rw [if_pos ⟨hv, ht⟩] at h
      exact .inr (.inr ⟨rfl, strL_inj.2 ht, h⟩)
    · rw [if_neg (fun h => ht h.2)] at h
      exact .inr (.inl ⟨rfl, fun h' => ht (strL_inj.1 h'), h⟩)
  · have e1 : txC n d = 1 := by simp [txC, hv]
    rw [if_neg (fun h => hv h.1)] at h
    exact .inl ⟨by rw [e1]; decide, h⟩
theorem textL_ne (n d : Int) : textL n d ≠ [] := by
  rw [textL_parts]; unfold bodyL
  have := decDigits_ne n.natAbs
  split <;> simp [this]
theorem refParse_empty (w : World) : Calls Tryz.prog 22 #[.string ⟨#[]⟩] w (OutR ⟨0, 0, 8⟩ w) := by
  have hB := Bx.mk (show Below w.heap.size w (w.alloc (.cells #[.int .i64 0, .int .i64 0] 23)) from (Below.refl _ _).alloc (Nat.le_refl _) _)
  have P := Bx.mk (plc_start w)
  go_enter Tryz.func22, Tryz.ntmps22
  go_wp2_with fail
  go_rounds 2
  obtain ⟨p0, p1, p2, p3, p4⟩ := P.out
  (try simp only [Exit.inBlock, Exit.then])
  refine bodyPost_ret_by (v := .tuple #[RV 0 0, .int .i64 8]) (by simp [results, Tryz.results22, go_sem, p0, p1, p2]) rfl ?_
  exact ⟨rfl, by repeat (first | exact hB.out | apply below_drewN | refine Below.setCell ?_ (by first | omega | (simp <;> omega)) _ | refine Below.alloc ?_ (by first | omega | (simp <;> omega)) _)⟩
theorem first_slash {l : List UInt8} (h : (47 : UInt8) ∈ l) : ∃ a b, l = a ++ 47 :: b ∧ (47 : UInt8) ∉ a := by
  obtain ⟨a, b, h1, h2⟩ := List.eq_append_cons_of_mem h
  exact ⟨a, b, h1, h2⟩
theorem byte47 {b : UInt8} : b.toNat = 47 ↔ b = 47 := by
  constructor
  · intro h; exact UInt8.toNat_inj.1 (by simpa using h)
  · rintro rfl; rfl
theorem list_get (t : ByteArray) (j : Nat) (h : j < t.size) : t[j] = t.data.toList[j]'(by simpa using h) := rfl
theorem refParse_any (s : ByteArray) (w : World) (hs : s.size ≤ 281474976710656) : Calls Tryz.prog 22 #[.string s] w (OutR (readQ s.data.toList) w) := by
  by_cases h0 : s.size = 0
  · obtain rfl : s = ⟨#[]⟩ := by
      cases s with | mk d => congr 1; exact Array.eq_empty_of_size_eq_zero h0
    rw [readQ_none (fun n' d' _ h => textL_ne n' d' h)]
    exact refParse_empty w
  have hp : 0 < s.size := by omega
  have hl0 := byte_at s 0 hp
  rw [List.drop_zero] at hl0
  obtain ⟨neg, t, hneg, ht, hl, hh⟩ : ∃ (neg : Bool) (t : ByteArray), ((s[0].toNat : Int) == 45) = neg ∧ (if neg then s.extract 1 s.size = t else s = t) ∧ s.data.toList = (if neg then [45] else []) ++ t.data.toList ∧ (neg = false → t.data.toList.head? ≠ some 45) := by
    by_cases h45 : s[0].toNat = 45
    · refine ⟨true, _, by simp [h45], rfl, ?_, by simp⟩
      rw [extract_list _ _ _ (Nat.le_refl _), List.take_of_length_le (by simp), hl0]
      have : s[0] = 45 := UInt8.toNat_inj.1 (by simpa using h45)
      simp [this]
    · refine ⟨false, s, by simp; omega, rfl, by simp, fun _ => ?_⟩
      rw [hl0]
      intro h
      simp only [List.head?_cons, Option.some.injEq] at h
      exact h45 (by rw [h]; rfl)
  by_cases h47 : (47 : UInt8) ∈ t.data.toList
  · obtain ⟨a, b, hab, ha⟩ := first_slash h47
    have hK : a.length < t.size := by
      have : t.data.toList.length = t.size := by simp
      rw [hab] at this; simp at this; omega
    have hk : t[a.length].toNat = 47 := by
      rw [list_get t _ hK]
      simp [hab]
    have hbef : ∀ j (h : j < t.size), j < a.length → t[j].toNat ≠ 47 := by
      intro j h hj h'
      rw [byte47, list_get t j h] at h'
      have e : t.data.toList[j]'(by simpa using h) = a[j] := by simp [hab, List.getElem_append_left hj]
      exact ha (by rw [← h', e]; exact List.getElem_mem _)
    have hNa : t.data.toList.take a.length = a := by rw [hab]; simp
    have hDb : t.data.toList.drop (a.length + 1) = b := by rw [hab]; simp
    have hN : numR (t.data.toList.take a.length) = numR a := by rw [hNa]
    have hD : numR (t.data.toList.drop (a.length + 1)) = numR b := by rw [hDb]
    have bN := numR_bounds a
    have bD := numR_bounds b
    have hc := cand_slash (neg := neg) (a := a) (b := b) (l := s.data.toList) (by rw [hl, hab]) (by rw [← hab]; exact hh) ha
    have ho := parse_out s (withSign neg (numR a)) (numR b) (fun n' d' hv h => (hc n' d' hv h).2.2)
    have hbad : numR a < 0 ∨ numR b < 0 → readQ s.data.toList = ⟨0, 0, 8⟩ := fun h => readQ_none fun n' d' hv h' => by have := hc n' d' hv h'; omega
    have hI : I64 (withSign neg (numR a)) := by unfold withSign; split <;> exact ⟨by omega, by omega⟩
    have HT := Bx.mk (fun w => refText_any (withSign neg (numR a)) (numR b) w hI ⟨by omega, by omega⟩)
    have key : numR a < 0 ∧ readQ s.data.toList = ⟨0, 0, 8⟩ ∨ 0 ≤ numR a ∧ numR b < 0 ∧ readQ s.data.toList = ⟨0, 0, 8⟩ ∨ 0 ≤ numR a ∧ 0 ≤ numR b ∧ ¬ txC (withSign neg (numR a)) (numR b) = 0 ∧ readQ s.data.toList = ⟨0, 0, 8⟩ ∨ 0 ≤ numR a ∧ 0 ≤ numR b ∧ txC (withSign neg (numR a)) (numR b) = 0 ∧ ¬ txQ (withSign neg (numR a)) (numR b) = s ∧ readQ s.data.toList = ⟨0, 0, 8⟩ ∨ 0 ≤ numR a ∧ 0 ≤ numR b ∧ txC (withSign neg (numR a)) (numR b) = 0 ∧ txQ (withSign neg (numR a)) (numR b) = s ∧ readQ s.data.toList = ⟨withSign neg (numR a), numR b, 0⟩ := by
      by_cases g1 : numR a < 0
      · exact .inl ⟨g1, hbad (.inl g1)⟩
      by_cases g2 : numR b < 0
      · exact .inr (.inl ⟨by omega, g2, hbad (.inr g2)⟩)
      rcases ho with h | h | h
      · exact .inr (.inr (.inl ⟨by omega, by omega, h⟩))
      · exact .inr (.inr (.inr (.inl ⟨by omega, by omega, h⟩)))
      · exact .inr (.inr (.inr (.inr ⟨by omega, by omega, h⟩)))
    cases neg with
    | true => exact refParse_ns s t _ _ w hs hp hneg ht a.length hK hk ⟨hbef⟩ hN hD _ _ HT _ key
    | false => exact refParse_ps s t _ _ w hs hp hneg ht a.length hK hk ⟨hbef⟩ hN hD _ _ HT _ key
  · have hbef : ∀ j (h : j < t.size), t[j].toNat ≠ 47 := by
      intro j h h'
      rw [byte47, list_get t j h] at h'
      exact h47 (by rw [← h']; exact List.getElem_mem _)
    have bN := numR_bounds t.data.toList
    have hc := cand_plain (neg := neg) hl hh h47
    have ho := parse_out s (withSign neg (numR t.data.toList)) 1 (fun n' d' hv h => (hc n' d' hv h).2)
    have hbad : numR t.data.toList < 0 → readQ s.data.toList = ⟨0, 0, 8⟩ := fun h => readQ_none fun n' d' hv h' => by have := hc n' d' hv h'; omega
    have hI : I64 (withSign neg (numR t.data.toList)) := by unfold withSign; split <;> exact ⟨by omega, by omega⟩
    have HT := Bx.mk (fun w => refText_any (withSign neg (numR t.data.toList)) 1 w hI ⟨by omega, by omega⟩)
    obtain ⟨N, hN⟩ : ∃ N, numR t.data.toList = N := ⟨_, rfl⟩
    rw [hN] at ho hbad HT bN
    have key : N < 0 ∧ readQ s.data.toList = ⟨0, 0, 8⟩ ∨ 0 ≤ N ∧ False ∧ readQ s.data.toList = ⟨0, 0, 8⟩ ∨ 0 ≤ N ∧ True ∧ ¬ txC (withSign neg N) 1 = 0 ∧ readQ s.data.toList = ⟨0, 0, 8⟩ ∨ 0 ≤ N ∧ True ∧ txC (withSign neg N) 1 = 0 ∧ ¬ txQ (withSign neg N) 1 = s ∧ readQ s.data.toList = ⟨0, 0, 8⟩ ∨ 0 ≤ N ∧ True ∧ txC (withSign neg N) 1 = 0 ∧ txQ (withSign neg N) 1 = s ∧ readQ s.data.toList = ⟨withSign neg N, 1, 0⟩ := by
      by_cases g1 : N < 0
      · exact .inl ⟨g1, hbad g1⟩
      rcases ho with h | h | h
      · exact .inr (.inr (.inl ⟨by omega, trivial, h⟩))
      · exact .inr (.inr (.inr (.inl ⟨by omega, trivial, h⟩)))
      · exact .inr (.inr (.inr (.inr ⟨by omega, trivial, h⟩)))
    cases neg with
    | true => exact refParse_no s t _ w hs hp hneg ht ⟨hbef⟩ hN _ _ HT _ key
    | false => exact refParse_po s t _ w hs hp hneg ht ⟨hbef⟩ hN _ _ HT _ key
end Go.Proofs.YthfpkjeobdajiabGreatDoor
