/- a pitch's text is read as the pitch: plain mathematics. -/
import Derived.Test.YtdlfnonlalkjdaaGreatDoorP18
import Derived.Test.YtdlfnonlalkjdaaGreatDoorQMath
namespace Go.Proofs.YtdlfnonlalkjdaaGreatDoor
open Go.RowKit M
open Go.Lib (itoa decDigits)
/-- What comes next is none of these. -/
def Stop (cs r : List UInt8) : Prop := ∀ b t, r = b :: t → cs.contains b = false
theorem ht_span {cs a r : List UInt8} (ha : ∀ b ∈ a, cs.contains b = true) (hr : Stop cs r) : hdS cs (a ++ r) = a ∧ tlS cs (a ++ r) = r := by
  induction a with
  | nil =>
    cases r with
    | nil => exact ⟨rfl, rfl⟩
    | cons b t =>
      have h := hr b t rfl
      refine ⟨?_, ?_⟩ <;> simp only [List.nil_append, hdS, tlS, List.takeWhile, List.dropWhile, h]
  | cons b a ih =>
    have hb := ha b (List.mem_cons_self)
    have := ih fun c hc => ha c (List.mem_cons_of_mem _ hc)
    simp only [hdS, tlS] at this
    refine ⟨?_, ?_⟩ <;> simp only [List.cons_append, hdS, tlS, List.takeWhile, List.dropWhile, hb, this]
theorem ht_none {cs r : List UInt8} (hr : Stop cs r) : hdS cs r = [] ∧ tlS cs r = r := ht_span (a := []) (fun _ h => by cases h) hr
theorem ht_one {c : UInt8} {r : List UInt8} (hr : Stop [c] r) : hdS [c] (c :: r) = [c] ∧ tlS [c] (c :: r) = r :=
  ht_span (a := [c]) (fun b h => by simp at h; simp [h]) hr
theorem stop_nil (cs : List UInt8) : Stop cs [] := fun _ _ h => by cases h
theorem stop_cons {cs : List UInt8} {b : UInt8} {t : List UInt8} (h : cs.contains b = false) : Stop cs (b :: t) := fun _ _ e => by cases e; exact h
theorem dig_has {b : UInt8} (h : 48 ≤ b.toNat ∧ b.toNat ≤ 57) : dig.contains b = true := by
  have key : ∀ k : Nat, k < 256 → 48 ≤ k ∧ k ≤ 57 → dig.contains (UInt8.ofNat k) = true := by decide +kernel
  have := key b.toNat (UInt8.toNat_lt b) h
  simpa using this
theorem digs_dig (u : Nat) : ∀ b ∈ decDigits u, dig.contains b = true := fun b hb => dig_has (decDigits_all u b hb)
theorem digs_first (u : Nat) : ∃ b t, decDigits u = b :: t ∧ 48 ≤ b.toNat ∧ b.toNat ≤ 57 := by
  cases h : decDigits u with
  | nil => exact absurd h (decDigits_ne u)
  | cons b t => exact ⟨b, t, rfl, decDigits_all u b (by rw [h]; exact List.mem_cons_self)⟩
theorem not_in {c b : UInt8} (h : 48 ≤ b.toNat ∧ b.toNat ≤ 57) (hc : c.toNat < 48 ∨ 57 < c.toNat) : [c].contains b = false := by
  simp only [List.contains_cons, List.contains_nil, Bool.or_false, beq_eq_false_iff_ne]
  intro e; subst e; omega
theorem stop_digs (c : UInt8) (hc : c.toNat < 48 ∨ 57 < c.toNat) (u : Nat) (r : List UInt8) : Stop [c] (decDigits u ++ r) := by
  obtain ⟨b, t, h, hb⟩ := digs_first u
  rw [h]; exact stop_cons (not_in hb hc)
theorem itoa_nat (u : Nat) : itoa (u : Int) = decDigits u := by
  unfold itoa; rw [if_neg (by omega)]; simp
theorem itoa_neg {m : Int} (h : m < 0) : itoa m = 45 :: decDigits m.natAbs := by unfold itoa; rw [if_pos h]
/-- A number is read: its sign, its digits. -/
theorem ht_itoa (m : Int) (r : List UInt8) (hr : Stop dig r) : hdS [45] (itoa m ++ r) ++ hdS dig (tlS [45] (itoa m ++ r)) = itoa m ∧ tlS dig (tlS [45] (itoa m ++ r)) = r := by
  by_cases h : m < 0
  · rw [itoa_neg h, List.cons_append]
    have h1 := ht_one (c := 45) (stop_digs 45 (by decide) m.natAbs r)
    have h2 := ht_span (digs_dig m.natAbs) hr
    rw [h1.1, h1.2, h2.1, h2.2]; exact ⟨rfl, rfl⟩
  · have e : itoa m = decDigits m.toNat := by unfold itoa; rw [if_neg h]
    rw [e]
    have h1 := ht_none (stop_digs 45 (by decide) m.toNat r)
    have h2 := ht_span (digs_dig m.toNat) hr
    rw [h1.1, h1.2, h2.1, h2.2]; exact ⟨rfl, rfl⟩
theorem numF_itoa {m : Int} (h0 : -576 ≤ m) (h1 : m ≤ 576) : numF (itoa m) = m := by
  unfold numF; rw [atoiAll_itoa m (by omega) (by omega)]; exact if_pos ⟨h0, h1⟩
theorem itoa_inj {a b : Int} (h : itoa a = itoa b) : a = b := by
  have h1 := atoi_itoa a
  rw [h, atoi_itoa] at h1; injection h1 with h1; exact h1.symm
theorem indexF_pr {i : Nat} (hi : i < 6) : indexF (itoa (pr i : Int)) = (i : Int) := by
  have hc : i = 0 ∨ i = 1 ∨ i = 2 ∨ i = 3 ∨ i = 4 ∨ i = 5 := by omega
  have ne : ∀ {a b : Int}, a ≠ b → itoa a ≠ itoa b := fun h k => h (itoa_inj k)
  have h0 : indexF (itoa 2) = 0 := by unfold indexF; rw [if_pos rfl]
  have h1 : indexF (itoa 3) = 1 := by unfold indexF; rw [if_neg (ne (by decide)), if_pos rfl]
  have h2 : indexF (itoa 5) = 2 := by unfold indexF; rw [if_neg (ne (by decide)), if_neg (ne (by decide)), if_pos rfl]
  have h3 : indexF (itoa 7) = 3 := by unfold indexF; rw [if_neg (ne (by decide)), if_neg (ne (by decide)), if_neg (ne (by decide)), if_pos rfl]
  have h4 : indexF (itoa 11) = 4 := by unfold indexF; rw [if_neg (ne (by decide)), if_neg (ne (by decide)), if_neg (ne (by decide)), if_neg (ne (by decide)), if_pos rfl]
  have h5 : indexF (itoa 13) = 5 := by unfold indexF; rw [if_neg (ne (by decide)), if_neg (ne (by decide)), if_neg (ne (by decide)), if_neg (ne (by decide)), if_neg (ne (by decide)), if_pos rfl]
  rcases hc with rfl | rfl | rfl | rfl | rfl | rfl
  · exact h0
  · exact h1
  · exact h2
  · exact h3
  · exact h4
  · exact h5
/-- What follows a term: nothing, or a star. -/
def Rst (r : List UInt8) : Prop := r = [] ∨ ∃ t, r = 42 :: t
theorem Rst.stop {r : List UInt8} (h : Rst r) {cs : List UInt8} (hc : cs.contains 42 = false) : Stop cs r := by
  rcases h with rfl | ⟨t, rfl⟩
  · exact stop_nil cs
  · exact stop_cons hc
theorem gE_split (e : Int) (he0 : -576 ≤ e) (he1 : e ≤ 576) : -576 ≤ e / (gE e : Int) ∧ e / (gE e : Int) ≤ 576 ∧ (gE e : Int) * ((12 / gE e : Nat) : Int) = 12 ∧ 0 < 12 / gE e ∧ 12 / gE e ≤ 12 := by
  have hm := gE_mul e
  have hp := gE_pos e
  have h12 : gE e * (12 / gE e) = 12 := Nat.mul_div_cancel' (gE_dvd12 e)
  have hpos : 0 < 12 / gE e := Nat.pos_of_ne_zero fun h => by rw [h] at h12; simp at h12
  refine ⟨?_, ?_, by exact_mod_cast h12, hpos, Nat.div_le_self _ _⟩
  · generalize e / (gE e : Int) = q at hm
    refine Int.not_lt.1 fun hlt => ?_
    have : (gE e : Int) * q ≤ 1 * q := Int.mul_le_mul_of_nonpos_right (by omega) (by omega)
    omega
  · generalize e / (gE e : Int) = q at hm
    refine Int.not_lt.1 fun hlt => ?_
    have : 1 * q ≤ (gE e : Int) * q := Int.mul_le_mul_of_nonneg_right (by omega) (by omega)
    omega
theorem rtN_tail {i e : Int} {r : List UInt8} (he0 : -576 ≤ e) (he1 : e ≤ 576) (hr : Rst r) :
    rtN i (itoa (e / (gE e : Int)) ++ (if gE e < 12 then 47 :: itoa ((12 / gE e : Nat) : Int) else []) ++ r) = (i, e, r) := by
  obtain ⟨b0, b1, h12, hp, hle⟩ := gE_split e he0 he1
  have hm := gE_mul e
  have hgl := gE_le e
  rw [List.append_assoc]
  by_cases hg : gE e < 12
  · rw [if_pos hg]
    have k := ht_itoa (e / (gE e : Int)) ((47 :: itoa ((12 / gE e : Nat) : Int)) ++ r) (stop_cons (by decide))
    have k2 : hdS [47] ((47 :: itoa ((12 / gE e : Nat) : Int)) ++ r) = [47] ∧ tlS [47] ((47 :: itoa ((12 / gE e : Nat) : Int)) ++ r) = itoa ((12 / gE e : Nat) : Int) ++ r := by
      rw [itoa_nat]; exact ht_one (stop_digs 47 (by decide) _ r)
    have k3 : hdS dig (itoa ((12 / gE e : Nat) : Int) ++ r) = itoa ((12 / gE e : Nat) : Int) ∧ tlS dig (itoa ((12 / gE e : Nat) : Int) ++ r) = r := by
      rw [itoa_nat]; exact ht_span (digs_dig _) (hr.stop (by decide))
    have n1 := numF_itoa b0 b1
    have n2 := numF_itoa (m := ((12 / gE e : Nat) : Int)) (by omega) (by omega)
    unfold rtN
    rw [k.1, k.2, k2.1, k2.2, if_neg (by simp), k3.1, k3.2, n1, n2, if_neg (by omega)]
    have hq : (e / (gE e : Int) * 12).tdiv ((12 / gE e : Nat) : Int) = e := by
      have : e / (gE e : Int) * 12 = e * ((12 / gE e : Nat) : Int) := by
        rw [← h12]
        calc e / (gE e : Int) * ((gE e : Int) * ((12 / gE e : Nat) : Int)) = ((gE e : Int) * (e / (gE e : Int))) * ((12 / gE e : Nat) : Int) := by ac_rfl
          _ = e * ((12 / gE e : Nat) : Int) := by rw [hm]
      rw [this, Int.mul_tdiv_cancel _ (by omega)]
    rw [hq]
  · have hg12 : gE e = 12 := by omega
    rw [if_neg hg, List.nil_append]
    have k := ht_itoa (e / (gE e : Int)) r (hr.stop (by decide))
    have k2 := ht_none (hr.stop (cs := [47]) (by decide))
    have n1 := numF_itoa b0 b1
    unfold rtN
    rw [k.1, k.2, k2.1, k2.2, if_pos rfl, n1]
    have : e / (gE e : Int) * 12 = e := by rw [hg12] at hm ⊢; omega
    rw [this]
/-- A term is read. -/
theorem rtF_term {i : Nat} {e : Int} {r : List UInt8} (hi : i < 6) (he0 : -576 ≤ e) (he1 : e ≤ 576) (hr : Rst r) : rtF (termL (pr i) e ++ r) = ((i : Int), e, r) := by
  have hst : Stop dig (tailL e ++ r) := by
    unfold tailL; split
    · exact hr.stop (by decide)
    · exact stop_cons (by decide)
  have k : hdS dig (termL (pr i) e ++ r) = itoa (pr i : Int) ∧ tlS dig (termL (pr i) e ++ r) = tailL e ++ r := by
    unfold termL; rw [List.append_assoc, itoa_nat]; exact ht_span (digs_dig _) hst
  unfold rtF
  rw [k.1, k.2, indexF_pr hi]
  by_cases h12 : e = 12
  · have ht : tailL e = [] := if_pos h12
    rw [ht, List.nil_append]
    have k2 := ht_none (hr.stop (cs := [94]) (by decide))
    rw [k2.1, k2.2, if_pos rfl, h12]
  · have ht : tailL e ++ r = 94 :: (itoa (e / (gE e : Int)) ++ (if gE e < 12 then 47 :: itoa ((12 / gE e : Nat) : Int) else []) ++ r) := by
      unfold tailL; rw [if_neg h12]; rfl
    have hs : Stop [94] (itoa (e / (gE e : Int)) ++ (if gE e < 12 then 47 :: itoa ((12 / gE e : Nat) : Int) else []) ++ r) := by
      rw [List.append_assoc]
      by_cases hn : e / (gE e : Int) < 0
      · rw [itoa_neg hn]; exact stop_cons (by decide)
      · have e1 : itoa (e / (gE e : Int)) = decDigits (e / (gE e : Int)).toNat := by unfold itoa; rw [if_neg hn]
        rw [e1]; exact stop_digs 94 (by decide) _ _
    have k2 := ht_one hs
    rw [ht, k2.1, k2.2, if_neg (by simp)]
    exact rtN_tail he0 he1 hr
theorem term_first (i : Nat) (e : Int) (r : List UInt8) : Stop [42] (termL (pr i) e ++ r) := by
  unfold termL; rw [itoa_nat, List.append_assoc]; exact stop_digs 42 (by decide) _ _
theorem join_cons2 (x y : List UInt8) (l : List (List UInt8)) : Lib.join (x :: y :: l) [42] = x ++ 42 :: Lib.join (y :: l) [42] := by
  simp [Lib.join, List.intercalate]
theorem join_one (x : List UInt8) : Lib.join [x] [42] = x := by simp [Lib.join, List.intercalate]
/-- What the terms of a list of indices are read as. -/
def upd (v : Nat → Int) : List (Ix v) → (Nat → Int) → Nat → Int
  | [], q => q
  | x :: l, q => upd v l fun k => if (k : Int) = (x.i : Int) then v x.i else q k
def Asc {v : Nat → Int} : Int → List (Ix v) → Prop
  | _, [] => True
  | a, x :: l => a < (x.i : Int) ∧ Asc (x.i : Int) l
theorem rd_terms {v : Nat → Int} (hv : Hx (Lim 576 v)) : ∀ (l : List (Ix v)) (n : Nat) (q : Nat → Int) (a : Int), l ≠ [] → l.length ≤ n → Asc a l → rd n q a (Lib.join (termsL v l) [42]) = some (upd v l q) := by
  intro l
  induction l with
  | nil => intro n q a h; exact absurd rfl h
  | cons x l ih =>
    intro n q a _ hn ha
    cases n with
    | zero => simp at hn
    | succ n =>
      have hx := hv.out x.i x.lt
      cases l with
      | nil =>
        have e : Lib.join (termsL v [x]) [42] = termL (pr x.i) (v x.i) ++ [] := by simp [termsL, join_one]
        rw [e]
        unfold rd
        rw [rtF_term x.lt hx.1 hx.2 (.inl rfl)]
        simp only
        rw [if_neg (by have := ha.1; omega), if_pos (by rfl)]
        rfl
      | cons y l =>
        have e : Lib.join (termsL v (x :: y :: l)) [42] = termL (pr x.i) (v x.i) ++ 42 :: Lib.join (termsL v (y :: l)) [42] := by
          simp only [termsL, List.map_cons]; exact join_cons2 _ _ _
        have hst : Stop [42] (Lib.join (termsL v (y :: l)) [42]) := by
          cases l with
          | nil =>
            have e : Lib.join (termsL v [y]) [42] = termL (pr y.i) (v y.i) ++ [] := by simp [termsL, join_one]
            rw [e]; exact term_first _ _ _
          | cons z l =>
            have e : Lib.join (termsL v (y :: z :: l)) [42] = termL (pr y.i) (v y.i) ++ 42 :: Lib.join (termsL v (z :: l)) [42] := by
              simp only [termsL, List.map_cons]; exact join_cons2 _ _ _
            rw [e]; exact term_first _ _ _
        have k := ht_one hst
        rw [e]
        unfold rd
        rw [rtF_term x.lt hx.1 hx.2 (.inr ⟨_, rfl⟩)]
        simp only
        rw [if_neg (by have := ha.1; omega), k.1, if_neg (by simp), k.2]
        exact ih n _ _ (by simp) (by simpa using hn) ha.2
theorem asc_snoc {v : Nat → Int} : ∀ (l : List (Ix v)) (a : Int) (x : Ix v), Asc a l → a < (x.i : Int) → (∀ y ∈ l, (y.i : Int) < (x.i : Int)) → Asc a (l ++ [x]) := by
  intro l
  induction l with
  | nil => intro a x _ h _; exact ⟨h, trivial⟩
  | cons y l ih => intro a x ha h hl; exact ⟨ha.1, ih _ x ha.2 (hl y List.mem_cons_self) fun z hz => hl z (List.mem_cons_of_mem _ hz)⟩
theorem ixs_lt (v : Nat → Int) : ∀ n, ∀ y ∈ ixs v n, y.i < n := by
  intro n
  induction n with
  | zero => intro y hy; cases hy
  | succ n ih =>
    intro y hy
    by_cases h : n < 6 ∧ v n ≠ 0
    · rw [ixs_take h] at hy
      rcases List.mem_append.1 hy with hy | hy
      · have := ih y hy; omega
      · simp only [List.mem_singleton] at hy; subst hy; simp
    · unfold ixs at hy; rw [dif_neg h] at hy; have := ih y hy; omega
theorem ixs_asc (v : Nat → Int) : ∀ n, Asc (-1) (ixs v n) := by
  intro n
  induction n with
  | zero => exact trivial
  | succ n ih =>
    by_cases h : n < 6 ∧ v n ≠ 0
    · rw [ixs_take h]
      exact asc_snoc _ _ _ ih (by simp only; omega) fun y hy => by have := ixs_lt v n y hy; simp only; omega
    · unfold ixs; rw [dif_neg h]; exact ih
theorem upd_snoc {v : Nat → Int} : ∀ (l : List (Ix v)) (x : Ix v) (q : Nat → Int), upd v (l ++ [x]) q = fun k : Nat => if (k : Int) = (x.i : Int) then v x.i else upd v l q k := by
  intro l
  induction l with
  | nil => intro x q; rfl
  | cons y l ih => intro x q; exact ih x _
theorem upd_ixs (v : Nat → Int) : ∀ n, n ≤ 6 → ∀ k, k < n → upd v (ixs v n) (fun _ => 0) k = v k := by
  intro n
  induction n with
  | zero => intro _ k hk; omega
  | succ n ih =>
    intro hn k hk
    by_cases h : n < 6 ∧ v n ≠ 0
    · rw [ixs_take h, upd_snoc]
      by_cases e : k = n
      · subst e; exact if_pos rfl
      · simp only; rw [if_neg (by omega)]; exact ih (by omega) k (by omega)
    · have e0 : v n = 0 := by
        refine Decidable.byContradiction fun hz => h ⟨by omega, hz⟩
      have ex : ixs v (n + 1) = ixs v n := ixs_skip e0
      rw [ex]
      by_cases e : k = n
      · subst e
        have key : ∀ (l : List (Ix v)) (q : Nat → Int), (∀ y ∈ l, y.i < k) → upd v l q k = q k := by
          intro l
          induction l with
          | nil => intro q _; rfl
          | cons y l ihl =>
            intro q hl
            unfold upd
            rw [ihl _ fun z hz => hl z (List.mem_cons_of_mem _ hz)]
            have := hl y List.mem_cons_self
            exact if_neg (by omega)
        rw [key _ _ (ixs_lt v k), e0]
      · exact ih (by omega) k (by omega)
theorem terms_congr {u v : Nat → Int} (h : ∀ i, i < 6 → u i = v i) : ∀ n, n ≤ 6 → termsL u (ixs u n) = termsL v (ixs v n) := by
  intro n
  induction n with
  | zero => intro _; rfl
  | succ n ih =>
    intro hn
    have e := h n (by omega)
    by_cases hz : v n = 0
    · rw [ixs_skip hz, ixs_skip (by rw [e]; exact hz)]; exact ih (by omega)
    · rw [ixs_take ⟨by omega, hz⟩, ixs_take ⟨by omega, by rw [e]; exact hz⟩]
      have hi := ih (by omega)
      simp only [termsL, List.map_append, List.map_cons, List.map_nil] at hi ⊢
      rw [hi, e]
theorem terms_nil {v : Nat → Int} {l : List (Ix v)} : termsL v l = [] ↔ l = [] := by simp [termsL]
theorem textL_congr {u v : Nat → Int} (h : ∀ i, i < 6 → u i = v i) : textL u = textL v := by
  have e := terms_congr h 6 (Nat.le_refl 6)
  unfold textL
  by_cases hz : ixs v 6 = []
  · rw [if_pos hz, if_pos (terms_nil.1 (by rw [e]; exact terms_nil.2 hz))]
  · rw [if_neg hz, if_neg fun k => hz (terms_nil.1 (by rw [← e]; exact terms_nil.2 k)), e]
theorem join_first {v : Nat → Int} (x : Ix v) (l : List (Ix v)) : ∃ r, Rst r ∧ Lib.join (termsL v (x :: l)) [42] = termL (pr x.i) (v x.i) ++ r := by
  cases l with
  | nil => exact ⟨[], .inl rfl, by simp [termsL, join_one]⟩
  | cons y l => exact ⟨_, .inr ⟨_, rfl⟩, by simp only [termsL, List.map_cons]; exact join_cons2 _ _ _⟩
theorem itoa_not_one {p : Nat} (hp : 1 < p) : itoa (p : Int) ≠ [49] := by
  intro h
  have e1 : itoa (1 : Int) = [49] := by simp [itoa, decDigits]
  have := itoa_inj (h.trans e1.symm)
  omega
/-- Parse of Text. -/
theorem read_text {p : Nat → Int} (hp : bdB p 576 = true) : ∃ q, readV (textL p) = (q, true) ∧ ∀ i, i < 6 → q i = p i := by
  have hb := bdB_yes.1 hp
  by_cases hz : ixs p 6 = []
  · refine ⟨fun _ => 0, ?_, fun i hi => ?_⟩
    · have e : textL p = [49] := if_pos hz
      rw [e]; exact if_pos rfl
    · have := upd_ixs p 6 (Nat.le_refl 6) i hi
      rw [hz] at this; exact this
  · have ht : textL p = Lib.join (termsL p (ixs p 6)) [42] := if_neg hz
    have h6 : (ixs p 6).length ≤ 7 := by have := ixs_len p 6; omega
    have hr := rd_terms ⟨hb⟩ (ixs p 6) 7 (fun _ => 0) (-1) hz h6 (ixs_asc p 6)
    have hq := upd_ixs p 6 (Nat.le_refl 6)
    have hne : textL p ≠ [49] := by
      cases hl : ixs p 6 with
      | nil => exact absurd hl hz
      | cons x l =>
        obtain ⟨r, hR, e⟩ := join_first x l
        intro h1
        rw [ht, hl, e] at h1
        have k := rtF_term (e := p x.i) x.lt (hb x.i x.lt).1 (hb x.i x.lt).2 hR
        have hst : Stop dig (tailL (p x.i) ++ r) := by
          unfold tailL; split
          · exact hR.stop (by decide)
          · exact stop_cons (by decide)
        have k1 : hdS dig (termL (pr x.i) (p x.i) ++ r) = itoa (pr x.i : Int) := by
          unfold termL; rw [List.append_assoc, itoa_nat]; exact (ht_span (digs_dig _) hst).1
        rw [h1] at k1
        exact itoa_not_one (pr_gt x.i) (k1.symm.trans (by decide))
    refine ⟨_, ?_, hq⟩
    unfold readV
    rw [if_neg hne, ht, hr]
    show (if bdB (upd p (ixs p 6) fun _ => 0) 576 = true ∧ textL (upd p (ixs p 6) fun _ => 0) = Lib.join (termsL p (ixs p 6)) [42] then _ else _) = _
    rw [if_pos ⟨by rw [bdB_congr hq]; exact hp, by rw [textL_congr hq, ht]⟩]
theorem text_zero : textL (fun _ => 0) = [49] := by rfl
/-- Text of Parse. -/
theorem text_read {l : List UInt8} {q : Nat → Int} (h : readV l = (q, true)) : bdB q 576 = true ∧ textL q = l := by
  unfold readV at h
  by_cases h1 : l = [49]
  · rw [if_pos h1] at h
    cases h
    exact ⟨zero_ok 576 (by omega), by rw [text_zero, h1]⟩
  · rw [if_neg h1] at h
    unfold finV at h
    split at h
    · cases h
    · rename_i p _
      split at h
      · rename_i hp; cases h; exact hp
      · cases h
theorem readV_no {l : List UInt8} (h : (readV l).2 = false) : (readV l).1 = fun _ => 0 := by
  unfold readV at h ⊢
  by_cases h1 : l = [49]
  · rw [if_pos h1] at h; cases h
  · rw [if_neg h1] at h ⊢
    unfold finV at h ⊢
    split
    · rfl
    · rename_i p hp
      rw [hp] at h
      simp only at h
      split at h
      · cases h
      · rename_i hn; rw [if_neg hn]
end Go.Proofs.YtdlfnonlalkjdaaGreatDoor
