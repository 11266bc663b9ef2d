/- the reference's Div by 0 and of 0; its Pow of 0 and 1. -/
import Derived.Test.YthfpkjeobdajiaaDoorFM
import Derived.Laws.AppendOwnNone
namespace Go.Proofs.YthfpkjeobdajiaaDoor
open Go.RowKit M
theorem cells_nil (w : World) (ao : Option Addr) : CellsK .u32 w ao [] := fun h => absurd rfl h
theorem refDiv_zero (ao bo : Option Addr) (a na ca cb : Nat) (w : World) (hna : (limbs a).length = na) (ha : Fits a) (hca : CellsK .u32 w ao (limbs a)) :
    Calls Tryd.prog 17 #[.slice ao na ca, .slice bo 0 cb] w (OutD w 0 0 7) := by
  have hboth := refBoth_any ao bo (limbs a) [] na 0 ca cb w hna rfl hca (cells_nil w bo)
  rw [isNat_limbs ha.lt, show isNat [] = true from rfl] at hboth
  have H1 := Bx.mk hboth
  clear hboth hna ha hca
  go_enter Tryd.func17, Tryd.ntmps17
  go_wp2_with fail
  refine H1.out.mono ?_
  rintro e w1 ⟨rfl, rfl⟩
  go_wp2
  go_ret3
  exact ⟨_, _, rfl, by rw [limbs_zero]; exact Rd.nil _, by rw [limbs_zero]; exact Rd.nil _, Below.refl _ _⟩
theorem refDiv_nil (ao bo : Option Addr) (b nb ca cb : Nat) (w : World) (hnb : (limbs b).length = nb) (hb : Fits b) (hb0 : 0 < b) (hcb : CellsK .u32 w bo (limbs b)) :
    Calls Tryd.prog 17 #[.slice ao 0 ca, .slice bo nb cb] w (OutD w 0 0 0) := by
  obtain ⟨i0, hi, hz0, hz1, hz2⟩ := info_parts Tryd.info41
  have hboth := refBoth_any ao bo [] (limbs b) 0 nb ca cb w rfl hnb (cells_nil w ao) hcb
  rw [isNat_limbs hb.lt, show isNat [] = true from rfl] at hboth
  have H1 := Bx.mk hboth
  have hlb := hb.len
  have hnb0 : nb ≠ 0 := by
    intro e
    have : limbs b = [] := by rw [← List.length_eq_zero_iff]; omega
    rw [limbs_nil] at this; omega
  have hz : ((nb : Int) == 0) = false := beq_eq_false_iff_ne.2 (by omega)
  clear hboth
  go_enter Tryd.func17, Tryd.ntmps17
  go_wp2_with fail
  refine H1.out.mono ?_
  rintro e w1 ⟨rfl, rfl⟩
  go_wp2_with (at_make; refine wpList_make_full _ rfl _ _ 23 rfl w.heap.size 41 i0 (.int .u32 0) 1 Tryd.underlying23 hi hz0 hz1 .i64 .i64 _ _ 0 rfl rfl (by simp) (by simp) (by rw [hz2]; omega) (by unfold maxLen; omega) (Nat.le_refl _) ?_; intro w1 hown hgrow)
  have hW0 := OwnB.of_wrote (Wrote.made hown hgrow)
  clear hown hgrow hi hz0 hz1 hz2 H1
  go_loopw [8, 9] (fun rv iv wr => rv = .slice none 0 0 ∧ iv = .int .i64 (-1) ∧ wr = w1) (fun _ _ _ => 0)
  case atStart => exact ⟨rfl, rfl, rfl⟩
  case round =>
    obtain ⟨rfl, rfl, rfl⟩ := hrel
    have htr := refTrim_any (some ⟨w.heap.size, 0, none⟩) [] 0 0 wr rfl (Nat.le_refl _) (by unfold maxLen; omega) hW0.ok (cells_nil wr _)
    have HT := Bx.mk htr
    have HQ := Bx.mk (Rd.trimmedC (s := 0) (cells_nil wr (some ⟨w.heap.size, 0, none⟩)) Ok.nil (cap := 0) (by simp) (by unfold maxLen; omega) rfl)
    have HB := Bx.mk hW0.below
    clear htr hW0
    go_wp2_with fail
    refine HT.out.mono ?_
    rintro e w6 ⟨rfl, rfl⟩
    go_wp2
    go_ret3
    exact ⟨_, _, rfl, HQ.out, by rw [limbs_zero]; exact Rd.nil _, HB.out⟩
/-- The cells of a slice, still there behind an empty literal. -/
theorem news_of (x : Addr) (A : List Int) (w : World) (hca : CellsK .u32 w (some x) A) : ∀ j u, (A.map (Value.int .u32))[j]? = some u → (w.alloc (.cells #[] 41)).cell? (x.add j) = some u := by
  intro j u hj
  simp only [List.getElem?_map, Option.map_eq_some_iff] at hj
  obtain ⟨y, hx, rfl⟩ := hj
  have hjl : j < A.length := (List.getElem?_eq_some_iff.1 hx).1
  obtain ⟨a', ha', hlt, hc⟩ := hca (by intro e; subst e; simp at hjl)
  obtain rfl := Option.some.inj ha'
  have hb : (x.add j).block = x.block := by unfold Addr.add; split <;> rfl
  have hk := ((Below.refl w.heap.size w).alloc (Nat.le_refl _) (.cells #[] 41)).cell (p := x.add j) (by rw [hb]; exact hlt)
  rw [hk, hc j hjl]; simp [List.getD, hx]
theorem cells_one (w : World) : CellsK .u32 (w.alloc (.cells #[.int .u32 1] 41)) (some ⟨w.heap.size, 0, none⟩) (limbs 1) := by
  obtain ⟨a1, c1, e1, h1, h2, h3⟩ := (rd_one w).shape
  simp only [Value.slice.injEq] at e1
  obtain ⟨rfl, -, -⟩ := e1
  exact h3
theorem cmp_one {a : Nat} (h : a ≤ 1) : ∃ k : Int, cmpI (a : Int) ((1 : Nat) : Int) = k ∧ k ≤ 0 := by
  rcases Nat.lt_or_eq_of_le h with h | h
  · exact ⟨-1, cmpI_lt (by omega), by omega⟩
  · subst h; exact ⟨0, cmpI_eq _, by omega⟩
theorem refPow_some (x : Addr) (a n na ca : Nat) (w : World) (ha1 : a ≤ 1) (hna : (limbs a).length = na) (hn0 : 0 < n) (hn : n < 2 ^ 63) (hca : CellsK .u32 w (some x) (limbs a)) :
    Calls Tryd.prog 19 #[.slice (some x) na ca, .int .i64 n] w (OutN w a 0) := by
  obtain ⟨i0, hi, hi0, hi1, hi2⟩ := info_parts Tryd.info41
  have hF : Fits a := fits_u64 (by omega)
  have hv := refValid_any (some x) (limbs a) na ca w hna hca
  rw [isNat_limbs hF.lt] at hv
  have h1 := refOrder_any (some x) (some ⟨w.heap.size, 0, none⟩) (limbs a) (limbs 1) na 1 ca 1 (w.alloc (.cells #[.int .u32 1] 41)) hna (by decide +kernel) (by have := hF.len; omega) (by omega) (ok_limbs _) (ok_limbs _) (limbs_last _) (limbs_last _) (hca.keep ((Below.refl _ _).alloc (Nat.le_refl _) _)) (cells_one w)
  obtain ⟨k, hk, hk0⟩ := cmp_one ha1
  rw [val_limbs, val_limbs, hk] at h1
  have hlen := hF.len
  have H1 := Bx.mk hv
  have H2 := Bx.mk h1
  have HC := Bx.mk hca
  have HN := Bx.mk hna
  have hn' : (n : Int) ≤ 9223372036854775807 := by omega
  have hz : ((n : Int) == 0) = false := beq_eq_false_iff_ne.2 (by omega)
  have hz2 : decide ((n : Int) < 0) = false := by simp
  have hna6 : na ≤ 640 := by omega
  have HBA := Bx.mk (show Below w.heap.size w (w.alloc (.cells #[.int .u32 1] 41)) from (Below.refl _ _).alloc (Nat.le_refl _) _)
  clear hv h1 hk hF hca hna hlen hn ha1
  go_enter Tryd.func19, Tryd.ntmps19
  go_wp2_with fail
  refine H1.out.mono ?_
  rintro e w1 ⟨rfl, rfl⟩
  go_wp2_with fail
  refine H2.out.mono ?_
  rintro e w2 ⟨rfl, hq⟩
  have HB2 := Bx.mk (HBA.out.trans ((hq.below _).mono HBA.out.size))
  have HN2 := Bx.mk (news_of x (limbs a) w2 (HC.out.keep HB2.out))
  have hown0 : (w2.alloc (.cells #[] 41)).ownsRow w.heap.size 41 1 (.slice (some ⟨w2.heap.size, 0, none⟩) 0 0) 0 [] := World.ownsRow_lit w2 #[] 0 HB2.out.size (by unfold maxLen; omega) rfl
  have hbs := HB2.out.size
  clear hq H1 H2 HBA
  go_wp2_with (at_builtin; refine wpList_append_own _ rfl _ _ 23 rfl w.heap.size 41 i0 (.int .u32 0) 1 4 Tryd.underlying23 hi hi0 hi1 hi2 rfl (by decide) _ 0 [] rfl hown0 x na ca ((limbs a).map (Value.int .u32)) rfl (by simp [HN.out]) HN2.out (ints_oneCell _ _) (by unfold maxLen; omega) (by omega) (by simp; omega) ?_; intro v' w3 hown' hgrow' hnn)
  go_ret2
  rw [Nat.zero_add, List.nil_append, ← HN.out] at hown'
  have hb : Below w.heap.size w w3 := (HB2.out.alloc HB2.out.size (.cells #[] 41)).grown hgrow' (by simp; omega) (by intro k hk; have e := Option.some.inj (show some w2.heap.size = some k from hk); omega)
  have hap : Apd w w3 v' (limbs a) := ⟨ok_limbs a, by simpa using hown', hb⟩
  exact ⟨_, rfl, ⟨hap.ok, hap.shape⟩, hb⟩
theorem refPow_none (n : Nat) (w : World) (hn0 : 0 < n) (hn : n < 2 ^ 63) :
    Calls Tryd.prog 19 #[.slice none 0 0, .int .i64 n] w (OutN w 0 0) := by
  obtain ⟨i0, hi, hi0, hi1, hi2⟩ := info_parts Tryd.info41
  have hv := refValid_any none [] 0 0 w rfl (cells_nil w none)
  rw [show isNat [] = true from rfl] at hv
  have h1 := refOrder_any none (some ⟨w.heap.size, 0, none⟩) [] (limbs 1) 0 1 0 1 (w.alloc (.cells #[.int .u32 1] 41)) rfl (by decide +kernel) (by omega) (by omega) Ok.nil (ok_limbs _) (by simp) (limbs_last _) (cells_nil _ _) (cells_one w)
  rw [val_limbs, show cmpI (val []) ((1 : Nat) : Int) = -1 from cmpI_lt (by simp [val])] at h1
  have H1 := Bx.mk hv
  have H2 := Bx.mk h1
  have hn' : (n : Int) ≤ 9223372036854775807 := by omega
  have hz : ((n : Int) == 0) = false := beq_eq_false_iff_ne.2 (by omega)
  have hz2 : decide ((n : Int) < 0) = false := by simp
  have HBA := Bx.mk (show Below w.heap.size w (w.alloc (.cells #[.int .u32 1] 41)) from (Below.refl _ _).alloc (Nat.le_refl _) _)
  clear hv h1 hn
  go_enter Tryd.func19, Tryd.ntmps19
  go_wp2_with fail
  refine H1.out.mono ?_
  rintro e w1 ⟨rfl, rfl⟩
  go_wp2_with fail
  refine H2.out.mono ?_
  rintro e w2 ⟨rfl, hq⟩
  have HB2 := Bx.mk (HBA.out.trans ((hq.below _).mono HBA.out.size))
  have hown0 : (w2.alloc (.cells #[] 41)).ownsRow w.heap.size 41 1 (.slice (some ⟨w2.heap.size, 0, none⟩) 0 0) 0 [] := World.ownsRow_lit w2 #[] 0 HB2.out.size (by unfold maxLen; omega) rfl
  have hbs := HB2.out.size
  clear hq H1 H2 HBA
  go_wp2_with (at_builtin; refine wpList_append_own_none rfl _ _ 23 rfl w.heap.size 41 i0 1 Tryd.underlying23 hi _ 0 [] rfl hown0 rfl ?_)
  go_ret2
  exact ⟨_, rfl, ⟨by rw [limbs_zero]; exact Ok.nil, some ⟨w2.heap.size, 0, none⟩, 0, by rw [limbs_zero]; rfl, Nat.le_of_eq (by rw [limbs_zero]; rfl), by unfold maxLen; omega, by rw [limbs_zero]; exact cells_nil _ _⟩, HB2.out.alloc HB2.out.size _⟩
end Go.Proofs.YthfpkjeobdajiaaDoor
