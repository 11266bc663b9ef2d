/- PitchMatchesReference, walked. -/
import Derived.Test.YtdlfnonlalkjdaaGreatDoorU11
import Derived.Test.YtdlfnonlalkjdaaGreatDoorQText
import Derived.Test.YtdlfnonlalkjdaaGreatDoorU9
import Derived.Test.YtdlfnonlalkjdaaGreatDoorHD
import Derived.Test.YtdlfnonlalkjdaaGreatDoorQM2
namespace Go.Proofs.YtdlfnonlalkjdaaGreatDoor
open Go.RowKit M Go.Lib
/-- No digit comes next. -/
def NoDig (r : List UInt8) : Prop := match r with | [] => True | b :: _ => ¬ (48 ≤ b.toNat ∧ b.toNat ≤ 57)
theorem nm3_stop (f n : Nat) {r : List UInt8} (h : NoDig r) : nm3 f n r = (n, r) := by
  cases f with
  | zero => rfl
  | succ f =>
    cases r with
    | nil => rfl
    | cons b t => simp only [nm3]; rw [if_neg h]
theorem nm3_dec : ∀ (ds : List UInt8) (f n m : Nat) (r : List UInt8), decFrom n ds = some m → ds.length ≤ f → NoDig r → nm3 f n (ds ++ r) = (m, r)
  | [], f, n, m, r, h, _, hr => by
    simp only [decFrom, Option.some.injEq] at h
    subst h; exact nm3_stop f n hr
  | b :: ds, f, n, m, r, h, hl, hr => by
    obtain ⟨g, rfl⟩ : ∃ g, f = g + 1 := ⟨f - 1, by simp at hl; omega⟩
    simp only [decFrom] at h
    by_cases hb : 48 ≤ b.toNat ∧ b.toNat ≤ 57
    · have hd : digitVal b = some (b.toNat - 48) := by unfold digitVal; rw [if_pos hb]
      rw [hd] at h
      simp only at h
      have := nm3_dec ds g (10 * n + (b.toNat - 48)) m r (by rw [Nat.mul_comm]; exact h) (by simp at hl; omega) hr
      simp only [List.cons_append, nm3]
      rw [if_pos hb]; exact this
    · have hd : digitVal b = none := by unfold digitVal; rw [if_neg hb]
      rw [hd] at h; cases h
theorem nm3_num {u : Nat} (hu : u ≤ 999) {r : List UInt8} (hr : NoDig r) : nm3 3 0 (decDigits u ++ r) = (u, r) :=
  nm3_dec (decDigits u) 3 0 u r (decFrom_decDigits u) (by rw [decDigits_length]; exact nDigits_le 2 u (by omega)) hr
theorem itoaN (n : Nat) : itoa (n : Int) = decDigits n := by
  unfold itoa; rw [if_neg (by omega)]; rfl
theorem itoaM {n : Nat} (h : 0 < n) : itoa (-(n : Int)) = 45 :: decDigits n := by
  unfold itoa; rw [if_pos (by omega), Int.natAbs_neg]; rfl
theorem noDig_cons {b : UInt8} (h : ¬ (48 ≤ b.toNat ∧ b.toNat ≤ 57)) (r : List UInt8) : NoDig (b :: r) := h
/-- What may stand behind a term: nothing, or a star. -/
def Aft (r : List UInt8) : Prop := r = [] ∨ ∃ t, r = 42 :: t
theorem Aft.noDig {r : List UInt8} (h : Aft r) : NoDig r := by
  rcases h with rfl | ⟨t, rfl⟩
  · trivial
  · exact noDig_cons (by decide) t
theorem Aft.hd94 {r : List UInt8} (h : Aft r) : hd r 94 = false := by
  rcases h with rfl | ⟨t, rfl⟩ <;> rfl
theorem Aft.hd47 {r : List UInt8} (h : Aft r) : hd r 47 = false := by
  rcases h with rfl | ⟨t, rfl⟩ <;> rfl
theorem hd_dec (n : Nat) (r : List UInt8) : hd (decDigits n ++ r) 45 = false := by
  have hall := decDigits_all n
  have hne := decDigits_ne n
  generalize decDigits n = l at *
  cases l with
  | nil => exact absurd rfl hne
  | cons b t =>
    have := hall b List.mem_cons_self
    show (b.toNat == 45) = false
    rw [beq_eq_false_iff_ne]; omega
/-- The part behind '/'. -/
def slashL (g : Nat) : List UInt8 := if g < 12 then 47 :: itoa ((12 / g : Nat) : Int) else []
theorem slash_noDig (g : Nat) {r : List UInt8} (hr : Aft r) : NoDig (slashL g ++ r) := by
  unfold slashL
  by_cases h : g < 12
  · rw [if_pos h]; exact noDig_cons (by decide) _
  · rw [if_neg h]; exact hr.noDig
theorem g_cases {g : Nat} (h : g ∣ 12) : g = 1 ∨ g = 2 ∨ g = 3 ∨ g = 4 ∨ g = 6 ∨ g = 12 := by
  have hle := Nat.le_of_dvd (by omega) h
  have key : ∀ g, g < 13 → g ∣ 12 → g = 1 ∨ g = 2 ∨ g = 3 ∨ g = 4 ∨ g = 6 ∨ g = 12 := by decide
  exact key g (by omega) h
theorem slash_read {g : Nat} (hg : g ∣ 12) {r : List UInt8} (hr : Aft r) : (if hd (slashL g ++ r) 47 then nm3 3 0 (slashL g ++ r).tail else (1, slashL g ++ r)) = (12 / g, r) := by
  unfold slashL
  by_cases h : g < 12
  · rw [if_pos h]
    show nm3 3 0 (itoa ((12 / g : Nat) : Int) ++ r) = _
    rw [itoaN]
    exact nm3_num (Nat.le_trans (Nat.div_le_self 12 g) (by omega)) hr.noDig
  · have : g = 12 := by have := Nat.le_of_dvd (by omega) hg; omega
    subst this
    rw [if_neg h, List.nil_append, hr.hd47]
    rfl
theorem quo12 {g m : Nat} (hg : g ∣ 12) : ¬ (12 / g < 1 ∨ (m * 12) % (12 / g) ≠ 0) ∧ m * 12 / (12 / g) = m * g := by
  rcases g_cases hg with rfl | rfl | rfl | rfl | rfl | rfl <;> simp <;> omega
/-- A term's exponent is read back. -/
theorem rexp_tail {e : Int} (he : e ≠ 0) (h1 : -576 ≤ e) (h2 : e ≤ 576) {r : List UInt8} (hr : Aft r) : rexp (tailL e ++ r) = some (e, r) := by
  unfold tailL
  by_cases h12 : e = 12
  · rw [if_pos h12, List.nil_append, rexp_no hr.hd94, h12]
  · rw [if_neg h12]
    have hg := gE_dvd12 e
    have hgp := gE_pos e
    have hm := gE_mul e
    obtain ⟨g, hgg⟩ : ∃ g, gE e = g := ⟨_, rfl⟩
    rw [hgg] at hg hgp hm ⊢
    obtain ⟨q, hq⟩ : ∃ q, e / (g : Int) = q := ⟨_, rfl⟩
    rw [hq] at hm ⊢
    have hQ := quo12 (m := q.natAbs) hg
    have hqa : q.natAbs ≤ 999 := by
      have : q.natAbs * 1 ≤ q.natAbs * g := Nat.mul_le_mul_left _ hgp
      have e1 : (q.natAbs * g : Nat) = e.natAbs := by rw [← hm, Int.natAbs_mul, Nat.mul_comm]; simp
      omega
    have eS : (if g < 12 then 47 :: itoa ((12 / g : Nat) : Int) else []) = slashL g := rfl
    rw [eS]
    have hq0 : q ≠ 0 := by
      intro h; rw [h, Int.mul_zero] at hm; exact he hm.symm
    show rexp (94 :: (itoa q ++ slashL g) ++ r) = _
    rw [List.cons_append, List.append_assoc]
    rcases Int.lt_or_lt_of_ne hq0 with hneg | hpos
    · obtain ⟨m, rfl⟩ : ∃ m : Nat, q = -(m : Int) := ⟨q.natAbs, by omega⟩
      have hm0 : 0 < m := by omega
      have hna : (-(m : Int)).natAbs = m := by omega
      rw [hna] at hQ hqa
      rw [itoaM hm0]
      rw [rexp_of (b3 := hd (slashL g ++ r) 47) true (r := 94 :: (45 :: decDigits m ++ (slashL g ++ r))) rfl rfl (r2 := decDigits m ++ (slashL g ++ r)) rfl (n := m) (by rw [nm3_num hqa (slash_noDig g hr)]) (r3 := slashL g ++ r) (by rw [nm3_num hqa (slash_noDig g hr)]) rfl (slash_read hg hr)]
      rw [if_neg hQ.1, hQ.2]
      congr 2
      show -((m * g : Nat) : Int) = e
      rw [← hm, Int.natCast_mul, Int.mul_neg, Int.mul_comm]
    · obtain ⟨m, rfl⟩ : ∃ m : Nat, q = (m : Int) := ⟨q.toNat, by omega⟩
      have hna : ((m : Int)).natAbs = m := by omega
      rw [hna] at hQ hqa
      rw [itoaN]
      rw [rexp_of (b3 := hd (slashL g ++ r) 47) false (r := 94 :: (decDigits m ++ (slashL g ++ r))) rfl (hd_dec m _) (r2 := decDigits m ++ (slashL g ++ r)) rfl (n := m) (by rw [nm3_num hqa (slash_noDig g hr)]) (r3 := slashL g ++ r) (by rw [nm3_num hqa (slash_noDig g hr)]) rfl (slash_read hg hr)]
      rw [if_neg hQ.1, hQ.2]
      congr 2
      show ((m * g : Nat) : Int) = e
      rw [← hm, Int.natCast_mul, Int.mul_comm]
theorem tail_noDig {e : Int} {r : List UInt8} (hr : Aft r) : NoDig (tailL e ++ r) := by
  unfold tailL
  by_cases h12 : e = 12
  · rw [if_pos h12]; exact hr.noDig
  · rw [if_neg h12]; exact noDig_cons (by decide) _
theorem pr_le13 (i : Nat) : pr i ≤ 999 := by unfold pr; repeat' split
                                             all_goals omega
/-- A term is read back. -/
theorem term_read {i : Nat} {e : Int} (he : e ≠ 0) (h1 : -576 ≤ e) (h2 : e ≤ 576) {r : List UInt8} (hr : Aft r) :
    (nm3 3 0 (termL (pr i) e ++ r)).1 = pr i ∧ rexp (nm3 3 0 (termL (pr i) e ++ r)).2 = some (e, r) := by
  unfold termL
  rw [itoaN, List.append_assoc, nm3_num (pr_le13 i) (tail_noDig hr)]
  exact ⟨rfl, rexp_tail he h1 h2 hr⟩
def applyL {v : Nat → Int} (q : Nat → Int) (l : List (Ix v)) : Nat → Int := l.foldl (fun q x => setP q (pr x.i) (v x.i)) q
theorem rpm_terms {v : Nat → Int} (hv : ∀ i, i < 6 → -576 ≤ v i ∧ v i ≤ 576) : ∀ (x : Ix v) (l : List (Ix v)) (f : Nat) (q : Nat → Int), l.length < f → rpm f q (join (termsL v (x :: l)) [42]) = some (applyL q (x :: l))
  | x, [], f, q, hf => by
    obtain ⟨g, rfl⟩ : ∃ g, f = g + 1 := ⟨f - 1, by simp at hf; omega⟩
    have hx := hv x.i x.lt
    have := term_read (i := x.i) x.ne hx.1 hx.2 (r := []) (.inl rfl)
    rw [List.append_nil] at this
    show rpm (g + 1) q (join [termL (pr x.i) (v x.i)] [42]) = _
    rw [join_one]
    exact rpm_last this.1 rfl this.2 rfl
  | x, y :: l, f, q, hf => by
    obtain ⟨g, rfl⟩ : ∃ g, f = g + 1 := ⟨f - 1, by omega⟩
    have hx := hv x.i x.lt
    have ih := rpm_terms hv y l g (setP q (pr x.i) (v x.i)) (by simp at hf; omega)
    have e : join (termsL v (x :: y :: l)) [42] = termL (pr x.i) (v x.i) ++ (42 :: join (termsL v (y :: l)) [42]) := by
      show join (termL (pr x.i) (v x.i) :: termsL v (y :: l)) [42] = _
      rw [join_cons]
      congr 1
      show joinTail [42] (termL (pr y.i) (v y.i) :: termsL v l) = 42 :: join (termL (pr y.i) (v y.i) :: termsL v l) [42]
      rw [join_cons]
      simp [joinTail]
    rw [e]
    have := term_read (i := x.i) x.ne hx.1 hx.2 (r := 42 :: join (termsL v (y :: l)) [42]) (.inr ⟨_, rfl⟩)
    rw [rpm_more this.1 rfl this.2 rfl]
    exact ih
theorem apply_ixs (v : Nat → Int) : ∀ n, n ≤ 6 → ∀ j, j < 6 → applyL (fun _ => 0) (ixs v n) j = if j < n then v j else 0
  | 0, _, j, _ => rfl
  | n + 1, hn, j, hj => by
    have ih := apply_ixs v n (by omega) j hj
    by_cases h : v n = 0
    · rw [ixs_skip h, ih]
      by_cases e1 : j < n
      · rw [if_pos e1, if_pos (by omega)]
      · rw [if_neg e1]
        by_cases e2 : j = n
        · subst e2; rw [if_pos (by omega), h]
        · rw [if_neg (by omega)]
    · rw [ixs_take ⟨by omega, h⟩]
      unfold applyL at ih ⊢
      rw [List.foldl_append]
      simp only [List.foldl_cons, List.foldl_nil]
      show (if pr j = pr n then v n else _) = _
      by_cases e1 : j = n
      · subst e1; rw [if_pos rfl, if_pos (by omega)]
      · have e2 : ¬ pr j = pr n := fun k => e1 (pr_inj hj (by omega) k)
        rw [if_neg e2, ih]
        by_cases e3 : j < n
        · rw [if_pos e3, if_pos (by omega)]
        · rw [if_neg e3, if_neg (by omega)]
/-- The reference reads the text of a pitch back. -/
theorem rpm_text {p : Nat → Int} (hp : bdB p 576 = true) : ∃ q, rpm 201 (fun _ => 0) (textL p) = some q ∧ ∀ i, i < 6 → q i = p i := by
  have hb := bdB_yes.1 hp
  by_cases hz : ixs p 6 = []
  · have e : textL p = [49] := if_pos hz
    have ha := apply_ixs p 6 (by omega)
    rw [hz] at ha
    refine ⟨setP (fun _ => 0) 1 12, by rw [e]; exact rpm_last (f := 200) (p := fun _ => 0) (r := [49]) (n := 1) (r1 := []) (e := 12) (r2 := []) (by decide) (by decide) rfl rfl, fun i hi => ?_⟩
    have h1 := ha i hi
    rw [if_pos hi] at h1
    have h2 : ¬ pr i = 1 := by have := pr_gt i; omega
    show (if pr i = 1 then 12 else 0) = p i
    rw [if_neg h2]; exact h1
  · have e : textL p = join (termsL p (ixs p 6)) [42] := if_neg hz
    have hl := ixs_len p 6
    have ha := apply_ixs p 6 (by omega)
    generalize ixs p 6 = l at *
    cases l with
    | nil => exact absurd rfl hz
    | cons x l =>
      refine ⟨applyL (fun _ => 0) (x :: l), ?_, fun i hi => ?_⟩
      · rw [e]; exact rpm_terms hb x l 201 _ (by simp at hl; omega)
      · have := ha i hi; rw [if_pos hi] at this; exact this
theorem readV_ok {l : List UInt8} {p : Nat → Int} (h : readV l = (p, true)) : bdB p 576 = true ∧ textL p = l := by
  unfold readV at h
  by_cases h1 : l = [49]
  · rw [if_pos h1] at h
    simp only [Prod.mk.injEq, and_true] at h
    subst h
    refine ⟨zero_ok 576 (by omega), ?_⟩
    rw [h1]; decide +kernel
  · rw [if_neg h1] at h
    generalize rd 7 (fun _ => 0) (-1) l = o at h
    cases o with
    | none => simp [finV] at h
    | some q =>
      simp only [finV] at h
      by_cases h2 : bdB q 576 = true ∧ textL q = l
      · rw [if_pos h2] at h
        simp only [Prod.mk.injEq, and_true] at h
        subst h; exact h2
      · rw [if_neg h2] at h; simp at h
theorem PV_text {p q : Nat → Int} (h : ∀ i, i < 6 → q i = p i) : bdB q 576 = bdB p 576 := bdB_congr h
/-- Both sides return the same for each string. -/
theorem both_parse (l : List UInt8) : ∃ v c, parR (rpm 201 (fun _ => 0) l) l = (v, c) ∧ ((∃ q, readV l = (q, true) ∧ PV q = PV v ∧ c = 0) ∨ ((readV l).2 = false ∧ v = (fun _ => 0) ∧ c = 8)) := by
  cases hr : readV l with
  | mk q b =>
  cases b with
  | true =>
    obtain ⟨h1, h2⟩ := readV_ok hr
    obtain ⟨v, hv, he⟩ := rpm_text h1
    rw [h2] at hv
    have hb : bdB v 576 = true := by rw [PV_text he]; exact h1
    have ht : textL v = l := by rw [textL_congr he, h2]
    refine ⟨v, 0, ?_, .inl ⟨q, rfl, PV_congr fun i hi => (he i hi).symm, rfl⟩⟩
    rw [hv]; simp only [parR]; rw [if_pos ⟨hb, ht⟩]
  | false =>
    refine ⟨fun _ => 0, 8, ?_, .inr ⟨rfl, rfl, rfl⟩⟩
    cases ho : rpm 201 (fun _ => 0) l with
    | none => rfl
    | some p =>
      simp only [parR]
      by_cases h : bdB p 576 = true ∧ textL p = l
      · obtain ⟨q', hq', _⟩ := read_text h.1
        rw [h.2, hr] at hq'
        simp at hq'
      · rw [if_neg h]
end Go.Proofs.YtdlfnonlalkjdaaGreatDoor
namespace Go.Proofs.YtdlfnonlalkjdaaGreatDoor
open Go.RowKit M
/-- What the laws keep since their start: the tables, the rows that lie in variables. -/
structure LQ (w0 w : World) (R : List (Nat × TypeId × Array Value)) : Prop where
  bl : Below w0.heap.size w0 w
  g0 : Gv w0
  rows : ∀ t ∈ R, RowB w t.1 t.2.2 t.2.1
  base : ∀ t ∈ R, w0.heap.size ≤ t.1
  ord : R.Pairwise fun s t => t.1 < s.1
theorem LQ.gv {w0 w : World} {R : List (Nat × TypeId × Array Value)} (h : LQ w0 w R) : Gv w := h.g0.keep h.bl
theorem LQ.call {w0 w w' : World} {R : List (Nat × TypeId × Array Value)} (h : LQ w0 w R) (hb : Below w.heap.size w w') : LQ w0 w' R :=
  ⟨h.bl.trans (hb.mono h.bl.size), h.g0, fun t ht => (h.rows t ht).kept (row := none) ⟨hb.os, hb.tape, hb.output, hb.size, fun k hk _ => hb.block k hk⟩ (by simp), h.base, h.ord⟩
theorem LQ.push {w0 w : World} {R : List (Nat × TypeId × Array Value)} (h : LQ w0 w R) (cs : Array Value) (t : TypeId) : LQ w0 (w.alloc (.cells cs t)) ((w.heap.size, t, cs) :: R) :=
  have k := h.call ((Below.refl _ _).alloc (Nat.le_refl _) (.cells cs t))
  ⟨k.bl, k.g0, fun u hu => by
    rcases List.mem_cons.1 hu with rfl | hu
    · exact World.alloc_heap_new w (.cells cs t)
    · exact (h.rows u hu).alloc _, fun u hu => by
    rcases List.mem_cons.1 hu with rfl | hu
    · exact h.bl.size
    · exact h.base u hu, List.pairwise_cons.2 ⟨fun u hu => (h.rows u hu).lt, h.ord⟩⟩
theorem LQ.drew {w0 w : World} {R : List (Nat × TypeId × Array Value)} (h : LQ w0 w R) : LQ w0 w.drew R := h.call (Below.refl _ _).drew
theorem LQ.drewN {w0 w : World} {R : List (Nat × TypeId × Array Value)} (h : LQ w0 w R) (n : Nat) : LQ w0 (w.drewN n) R := h.call (below_drewN (Below.refl _ _) n)
theorem LQ.start (w : World) (hg : Gv w) : LQ w w [] := ⟨Below.refl _ _, hg, (fun t ht => by cases ht), (fun t ht => by cases ht), List.Pairwise.nil⟩
/-- One cell of a row is written. -/
theorem LQ.put {w0 w : World} {L M : List (Nat × TypeId × Array Value)} {b : Nat} {t : TypeId} {cs : Array Value} (h : LQ w0 w (L ++ (b, t, cs) :: M)) (i : Nat) (u : Value) : LQ w0 (w.setCell ⟨b, i, none⟩ u) (L ++ (b, t, cs.setIfInBounds i u) :: M) := by
  have hm : (b, t, cs) ∈ L ++ (b, t, cs) :: M := by simp
  have hw : w0.heap.size ≤ b := h.base _ hm
  have hb : Below w0.heap.size w (w.setCell ⟨b, i, none⟩ u) := (Below.refl _ _).setCell hw u
  have hr : RowB w b cs t := h.rows _ hm
  have hk : ∀ k, k ≠ b → (w.setCell ⟨b, i, none⟩ u).heap[k]? = w.heap[k]? := fun k hk => Below.heap_setCell w ⟨b, i, none⟩ u k hk
  have hS : ∀ s ∈ L ++ (b, t, cs.setIfInBounds i u) :: M, (s ∈ L ++ (b, t, cs) :: M ∧ s.1 ≠ b) ∨ s = (b, t, cs.setIfInBounds i u) := by
    intro s hs
    have ho := List.pairwise_append.1 h.ord
    rcases List.mem_append.1 hs with hs | hs
    · have := ho.2.2 s hs (b, t, cs) List.mem_cons_self
      exact .inl ⟨List.mem_append_left _ hs, Nat.ne_of_gt this⟩
    · rcases List.mem_cons.1 hs with hs | hs
      · exact .inr hs
      · have := (List.pairwise_cons.1 ho.2.1).1 s hs
        exact .inl ⟨List.mem_append_right _ (List.mem_cons_of_mem _ hs), Nat.ne_of_lt this⟩
  refine ⟨h.bl.trans hb, h.g0, ?_, ?_, ?_⟩
  · intro s hs
    rcases hS s hs with ⟨h1, h2⟩ | rfl
    · show (w.setCell ⟨b, i, none⟩ u).heap[s.1]? = _
      rw [hk s.1 h2]; exact h.rows s h1
    · exact heap_setCell_same w b i cs t u hr
  · intro s hs
    rcases hS s hs with ⟨h1, _⟩ | rfl
    · exact h.base s h1
    · exact hw
  · have ho := List.pairwise_append.1 h.ord
    refine List.pairwise_append.2 ⟨ho.1, List.pairwise_cons.2 ⟨(List.pairwise_cons.1 ho.2.1).1, (List.pairwise_cons.1 ho.2.1).2⟩, ?_⟩
    intro s hs u hu
    rcases List.mem_cons.1 hu with rfl | hu
    · exact ho.2.2 s hs (b, t, cs) List.mem_cons_self
    · exact ho.2.2 s hs u (List.mem_cons_of_mem _ hu)
theorem LQ.six {w0 w : World} {R : List (Nat × TypeId × Array Value)} (h : LQ w0 w R) (b : Nat) (t : TypeId) (c0 c1 c2 c3 c4 c5 : Value) (hm : (b, t, #[c0, c1, c2, c3, c4, c5]) ∈ R) :
    w.cell? ⟨b, 0, none⟩ = some c0 ∧ w.cell? ⟨b, 1, none⟩ = some c1 ∧ w.cell? ⟨b, 2, none⟩ = some c2 ∧ w.cell? ⟨b, 3, none⟩ = some c3 ∧ w.cell? ⟨b, 4, none⟩ = some c4 ∧ w.cell? ⟨b, 5, none⟩ = some c5 ∧ b < w.heap.size :=
  have k := h.rows _ hm
  ⟨k.cell 0, k.cell 1, k.cell 2, k.cell 3, k.cell 4, k.cell 5, k.lt⟩
theorem LQ.put6 {w0 w : World} {L M : List (Nat × TypeId × Array Value)} {b : Nat} {t : TypeId} {c0 c1 c2 c3 c4 c5 : Value} (h : LQ w0 w (L ++ (b, t, #[c0, c1, c2, c3, c4, c5]) :: M)) (u0 u1 u2 u3 u4 u5 : Value) :
    LQ w0 ((((((w.setCell ⟨b, 0, none⟩ u0).setCell ⟨b, 1, none⟩ u1).setCell ⟨b, 2, none⟩ u2).setCell ⟨b, 3, none⟩ u3).setCell ⟨b, 4, none⟩ u4).setCell ⟨b, 5, none⟩ u5) (L ++ (b, t, #[u0, u1, u2, u3, u4, u5]) :: M) := by
  have := (((((h.put 0 u0).put 1 u1).put 2 u2).put 3 u3).put 4 u4).put 5 u5
  simpa using this
theorem LQ.fz6 {w0 w : World} {R : List (Nat × TypeId × Array Value)} (h : LQ w0 w R) (b : Nat) (t : TypeId) (cs : Array Value) (hm : (b, t, cs) ∈ R) :
    w.frozen? ⟨b, 0, none⟩ = false ∧ w.frozen? ⟨b, 1, none⟩ = false ∧ w.frozen? ⟨b, 2, none⟩ = false ∧ w.frozen? ⟨b, 3, none⟩ = false ∧ w.frozen? ⟨b, 4, none⟩ = false ∧ w.frozen? ⟨b, 5, none⟩ = false :=
  have k := h.rows _ hm
  ⟨k.frozen 0, k.frozen 1, k.frozen 2, k.frozen 3, k.frozen 4, k.frozen 5⟩
/-- A number: the value and the world in which it reads. -/
theorem live2 {w : World} {u v : Value} {a b : Nat} (hu : Nm w u a) (hv : Nm w v b) : Live w [(u, a), (v, b)] := Live.cons hu (Live.cons hv (fun p hp => by cases hp))
theorem both_of (v : Nat → Int) : ∃ x c, (∀ w, Calls Tryz.prog 9 #[PV v] w (OutV w x c)) ∧ (∀ w, Calls Tryz.prog 10 #[PV v] w (OutV w x c)) := by
  cases h : bdB v 48
  · exact ⟨_, _, fun w => of_no v w h, fun w => refOf_no v w h⟩
  · exact ⟨fun i => 12 * v i, 0, fun w => of_ok v _ w h fun i _ => rfl, fun w => refOf_ok v _ w h fun i _ => Int.mul_comm _ _⟩
theorem both_whole (v : Nat → Int) : ∃ x c, (∀ w, Calls Tryz.prog 11 #[PV v] w (OutV w x c)) ∧ (∀ w, Calls Tryz.prog 12 #[PV v] w (OutV w x c)) := by
  cases h : bdB v 576
  · exact ⟨_, _, fun w => whole_no v w h, fun w => refWhole_no v w h⟩
  · by_cases hd : ∃ i, i < 6 ∧ ¬ (12 ∣ v i)
    · exact ⟨_, _, fun w => whole_kind v w h hd, fun w => refWhole_kind v w h hd⟩
    · have hu : ∀ i, i < 6 → v i = 12 * (v i / 12) := fun i hi => by
        have : 12 ∣ v i := Classical.byContradiction fun k => hd ⟨i, hi, k⟩
        exact (Int.mul_ediv_cancel' this).symm
      exact ⟨_, _, fun w => whole_ok v _ w h hu, fun w => refWhole_ok v _ w h hu⟩
theorem both_power (v : Nat → Int) (n d : Int) : ∃ x c, (∀ w, Calls Tryz.prog 17 #[PV v, .int .i64 n, .int .i64 d] w (OutV w x c)) ∧ (∀ w, Calls Tryz.prog 18 #[PV v, .int .i64 n, .int .i64 d] w (OutV w x c)) := by
  cases h : bdB v 576
  · exact ⟨_, _, fun w => power_v v n d w h, fun w => refPower_v v n d w h⟩
  by_cases h1 : n < -576
  · exact ⟨_, _, fun w => power_n0 v n d w h h1, fun w => refPower_n0 v n d w h h1⟩
  by_cases h2 : 576 < n
  · exact ⟨_, _, fun w => power_n1 v n d w h (by omega) h2, fun w => refPower_n1 v n d w h (by omega) h2⟩
  by_cases h3 : d < 1
  · exact ⟨_, _, fun w => power_d0 v n d w h (by omega) (by omega) h3, fun w => refPower_d0 v n d w h (by omega) (by omega) h3⟩
  by_cases h4 : 12 < d
  · exact ⟨_, _, fun w => power_d1 v n d w h (by omega) (by omega) (by omega) h4, fun w => refPower_d1 v n d w h (by omega) (by omega) (by omega) h4⟩
  by_cases hd : ∃ i, i < 6 ∧ ¬ (d ∣ n * v i)
  · exact ⟨_, _, fun w => power_kind v n d w h (by omega) (by omega) (by omega) (by omega) hd, fun w => refPower_kind v n d w h (by omega) (by omega) (by omega) (by omega) hd⟩
  · have hu : ∀ i, i < 6 → n * v i = d * (n * v i / d) := fun i hi => by
      have : d ∣ n * v i := Classical.byContradiction fun k => hd ⟨i, hi, k⟩
      exact (Int.mul_ediv_cancel' this).symm
    cases hv : bdB (fun i => n * v i / d) 576
    · exact ⟨fun _ => 0, 3, fun w => power_ok v _ _ n d 3 w h (by omega) (by omega) (by omega) (by omega) hu (by simp [chkV, hv]) (by simp [chkE, hv]), fun w => refPower_range v _ n d w h (by omega) (by omega) (by omega) (by omega) hu hv⟩
    · exact ⟨_, 0, fun w => power_ok v _ _ n d 0 w h (by omega) (by omega) (by omega) (by omega) hu (chk_ok hv).1 (chk_ok hv).2, fun w => refPower_ok v _ n d w h (by omega) (by omega) (by omega) (by omega) hu hv⟩
def OutJ (w : World) (x c : Int) (e : Ending) (w' : World) : Prop := e = .returned (.tuple #[.int .i64 x, .int .i64 c]) ∧ Below w.heap.size w w'
theorem both_cmp (a b : Nat → Int) : ∃ x c, (∀ w, Pm w → Calls Tryz.prog 19 #[PV a, PV b] w (OutJ w x c)) ∧ (∀ w, Calls Tryz.prog 20 #[PV a, PV b] w (OutJ w x c)) := by
  cases h : bdB a 576
  · exact ⟨0, 1, fun w _ => pcmp_a a b w h, fun w => refCmp_a a b _ w h rfl⟩
  cases h2 : bdB b 576
  · exact ⟨0, 1, fun w _ => pcmp_b a b w h h2, fun w => refCmp_b a b w h h2⟩
  · exact ⟨_, 0, fun w hP => pcmp_ok a b w hP h h2, fun w => refCmp_ok a b _ w h h2 fun i _ => rfl⟩
def OutTx (w : World) (s : ByteArray) (c : Int) (e : Ending) (w' : World) : Prop := e = .returned (.tuple #[.string s, .int .i64 c]) ∧ Below w.heap.size w w'
theorem both_text (v : Nat → Int) : ∃ s c, (∀ w, Gv w → Calls Tryz.prog 26 #[PV v] w (OutTx w s c)) ∧ (∀ w, Calls Tryz.prog 27 #[PV v] w (OutTx w s c)) := by
  cases h : bdB v 576
  · exact ⟨_, _, fun w _ => ptextF_no v w h, fun w => refTextF_no v w h⟩
  · exact ⟨_, _, fun w hG => ptextF_ok v w hG h, fun w => refTextF_ok v w h⟩
/-- What Ratio returns, each time the same. -/
structure RtU (Rt : (Nat → Int) → Int → Prop) : Prop where
  one : ∀ u v c d, Rt u c → Rt v d → PV u = PV v ∧ c = d
def OutRq (Rt : (Nat → Int) → Int → Prop) (w : World) (e : Ending) (w' : World) : Prop := ∃ v c, Rt v c ∧ e = .returned (.tuple #[PV v, .int .i64 c]) ∧ Below w.heap.size w w'
theorem rt_lit (v : Nat → Int) (c : Int) : RtU fun u d => u = v ∧ d = c := ⟨fun _ _ _ _ h k => ⟨by rw [h.1, k.1], h.2.trans k.2.symm⟩⟩
theorem both_ratio (n d : Int) : ∃ Rt, RtU Rt ∧ (∀ w, Pm w → Calls Tryz.prog 21 #[.int .i64 n, .int .i64 d] w (OutRq Rt w)) ∧ (∀ w, Calls Tryz.prog 22 #[.int .i64 n, .int .i64 d] w (OutRq Rt w)) := by
  have lit : ∀ {w : World} {e : Ending} {w' : World}, OutV w (fun _ => 0) 1 e w' → OutRq (fun u d => u = (fun _ => 0) ∧ d = 1) w e w' := fun h => ⟨_, _, ⟨rfl, rfl⟩, h.1, h.2⟩
  by_cases h1 : n < 1
  · exact ⟨_, rt_lit (fun _ => 0) 1, fun w _ => (ratio_n0 n d w h1).mono fun _ _ h => lit h, fun w => (refRatio_n0 n d w h1).mono fun _ _ h => lit h⟩
  by_cases h2 : 1000000000 < n
  · exact ⟨_, rt_lit (fun _ => 0) 1, fun w _ => (ratio_n1 n d w (by omega) h2).mono fun _ _ h => lit h, fun w => (refRatio_n1 n d w (by omega) h2).mono fun _ _ h => lit h⟩
  by_cases h3 : d < 1
  · exact ⟨_, rt_lit (fun _ => 0) 1, fun w _ => (ratio_d0 n d w (by omega) (by omega) h3).mono fun _ _ h => lit h, fun w => (refRatio_d0 n d w (by omega) (by omega) h3).mono fun _ _ h => lit h⟩
  by_cases h4 : 1000000000 < d
  · exact ⟨_, rt_lit (fun _ => 0) 1, fun w _ => (ratio_d1 n d w (by omega) (by omega) (by omega) h4).mono fun _ _ h => lit h, fun w => (refRatio_d1 n d w (by omega) (by omega) (by omega) h4).mono fun _ _ h => lit h⟩
  obtain ⟨n, rfl⟩ := Int.eq_ofNat_of_zero_le (show 0 ≤ n by omega)
  obtain ⟨d, rfl⟩ := Int.eq_ofNat_of_zero_le (show 0 ≤ d by omega)
  refine ⟨fun v c => ∃ va vb ra rb, FacR n va ra ∧ FacR d vb rb ∧ ((ra = rb ∧ (∀ i, i < 6 → v i = va i - vb i) ∧ c = 0) ∨ (ra ≠ rb ∧ v = (fun _ => 0) ∧ c = 9)), ⟨?_⟩, fun w hP => ?_, fun w => ?_⟩
  · rintro u v c e ⟨va, vb, ra, rb, fa, fb, h⟩ ⟨va', vb', ra', rb', fa', fb', h'⟩
    obtain ⟨e1, e2⟩ := fa.unique fa'
    obtain ⟨e3, e4⟩ := fb.unique fb'
    rcases h with ⟨k1, k2, rfl⟩ | ⟨k1, rfl, rfl⟩
    · rcases h' with ⟨m1, m2, rfl⟩ | ⟨m1, _, _⟩
      · exact ⟨PV_congr fun i hi => by rw [k2 i hi, m2 i hi, e1 i hi, e3 i hi], rfl⟩
      · exact absurd (by rw [← e2, ← e4]; exact k1) m1
    · rcases h' with ⟨m1, _, _⟩ | ⟨_, rfl, rfl⟩
      · exact absurd (by rw [e2, e4]; exact m1) k1
      · exact ⟨rfl, rfl⟩
  · refine (ratio_any n d w hP (by omega) (by omega) (by omega) (by omega)).mono ?_
    rintro e w' ⟨⟨va, vb, v, ra, rb, fa, fb, h⟩, hB⟩
    rcases h with ⟨k1, k2, rfl⟩ | ⟨k1, rfl⟩
    · exact ⟨v, 0, ⟨va, vb, ra, rb, fa, fb, .inl ⟨k1, k2, rfl⟩⟩, rfl, hB⟩
    · exact ⟨fun _ => 0, 9, ⟨va, vb, ra, rb, fa, fb, .inr ⟨k1, rfl, rfl⟩⟩, rfl, hB⟩
  · refine (refRatio_any n d w (by omega) (by omega) (by omega) (by omega)).mono ?_
    rintro e w' ⟨⟨va, vb, v, ra, rb, fa, fb, h⟩, hB⟩
    rcases h with ⟨k1, k2, rfl⟩ | ⟨k1, rfl⟩
    · exact ⟨v, 0, ⟨va, vb, ra, rb, fa, fb, .inl ⟨k1, k2, rfl⟩⟩, rfl, hB⟩
    · exact ⟨fun _ => 0, 9, ⟨va, vb, ra, rb, fa, fb, .inr ⟨k1, rfl, rfl⟩⟩, rfl, hB⟩
def OutFq (x y : Nat) (c : Int) (w : World) (e : Ending) (w' : World) : Prop := ∃ a b, e = .returned (.tuple #[a, b, .int .i64 c]) ∧ Nm w' a x ∧ Nm w' b y ∧ Below w.heap.size w w'
theorem both_frac (v : Nat → Int) : ∃ x y c, (∀ w, Pm w → Calls Tryz.prog 23 #[PV v] w (OutFq x y c w)) ∧ (∀ w, Calls Tryz.prog 24 #[PV v] w (OutFq x y c w)) := by
  cases h : bdB v 48
  · exact ⟨0, 0, 1, fun w _ => (pfraction_no v w h).mono fun _ _ k => ⟨_, _, k.1, Nm.nil _, Nm.nil _, k.2⟩, fun w => (refFraction_no v w h).mono fun _ _ k => ⟨_, _, k.1, Nm.nil _, Nm.nil _, k.2⟩⟩
  · exact ⟨_, _, 0, fun w hP => pfraction_ok v w hP h, fun w => refFraction_ok v w h⟩
/-- Parse on both sides. -/
theorem both_parse2 (l : List UInt8) (hs : (strL l).size ≤ 200) : ∃ v c, (∀ w, Gv w → Calls Tryz.prog 28 #[.string (strL l)] w (OutV w v c)) ∧ (∀ w, Calls Tryz.prog 29 #[.string (strL l)] w (OutV w v c)) := by
  obtain ⟨v, c, hv, h⟩ := both_parse l
  have hl : l.length ≤ 281474976710656 := by rw [strL_len] at hs; omega
  refine ⟨v, c, fun w hG => ?_, fun w => refParse_any l w hs _ rfl v c hv⟩
  rcases h with ⟨q, h1, h2, rfl⟩ | ⟨h1, rfl, rfl⟩
  · have := pparse_ok l w hG hl q h1
    unfold OutV at this ⊢
    rw [h2] at this; exact this
  · exact pparse_no l w hG hl h1
end Go.Proofs.YtdlfnonlalkjdaaGreatDoor
namespace Go.Proofs.YtdlfnonlalkjdaaGreatDoor
open Go.RowKit M
theorem both_ratio2 (n d : Int) : ∃ v c, (∀ w, Pm w → Calls Tryz.prog 21 #[.int .i64 n, .int .i64 d] w (OutV w v c)) ∧ (∀ w, Calls Tryz.prog 22 #[.int .i64 n, .int .i64 d] w (OutV w v c)) := by
  obtain ⟨Rt, hU, h1, h2⟩ := both_ratio n d
  by_cases h : ∃ v c, Rt v c
  · obtain ⟨v, c, hv⟩ := h
    refine ⟨v, c, fun w hP => (h1 w hP).mono ?_, fun w => (h2 w).mono ?_⟩ <;>
    · rintro e w' ⟨u, d', hu, he, hB⟩
      obtain ⟨e1, e2⟩ := hU.one u v d' c hu hv
      exact ⟨by rw [he, e1, e2], hB⟩
  · refine ⟨fun _ => 0, 0, fun w hP => (h1 w hP).mono ?_, fun w => (h2 w).mono ?_⟩ <;>
    · rintro e w' ⟨u, d', hu, he, hB⟩
      exact absurd ⟨_, _, hu⟩ h
theorem pref_all {w W : World} {a b v : Nat → Int} (h : LQ w W [(w.heap.size + 1 + 1, 24, #[.int .i64 (v 0), .int .i64 (v 1), .int .i64 (v 2), .int .i64 (v 3), .int .i64 (v 4), .int .i64 (v 5)]), (w.heap.size + 1, 23, #[.int .i64 (b 0), .int .i64 (b 1), .int .i64 (b 2), .int .i64 (b 3), .int .i64 (b 4), .int .i64 (b 5)]), (w.heap.size, 23, #[.int .i64 (a 0), .int .i64 (a 1), .int .i64 (a 2), .int .i64 (a 3), .int .i64 (a 4), .int .i64 (a 5)])]) : LQ w W [(w.heap.size + 1 + 1, 24, #[.int .i64 (v 0), .int .i64 (v 1), .int .i64 (v 2), .int .i64 (v 3), .int .i64 (v 4), .int .i64 (v 5)]), (w.heap.size + 1, 23, #[.int .i64 (b 0), .int .i64 (b 1), .int .i64 (b 2), .int .i64 (b 3), .int .i64 (b 4), .int .i64 (b 5)]), (w.heap.size, 23, #[.int .i64 (a 0), .int .i64 (a 1), .int .i64 (a 2), .int .i64 (a 3), .int .i64 (a 4), .int .i64 (a 5)])] ∧ W.cell? ⟨w.heap.size, 0, none⟩ = some (.int .i64 (a 0)) ∧ W.cell? ⟨w.heap.size, 1, none⟩ = some (.int .i64 (a 1)) ∧ W.cell? ⟨w.heap.size, 2, none⟩ = some (.int .i64 (a 2)) ∧ W.cell? ⟨w.heap.size, 3, none⟩ = some (.int .i64 (a 3)) ∧ W.cell? ⟨w.heap.size, 4, none⟩ = some (.int .i64 (a 4)) ∧ W.cell? ⟨w.heap.size, 5, none⟩ = some (.int .i64 (a 5)) ∧ W.cell? ⟨w.heap.size + 1 + 1, 0, none⟩ = some (.int .i64 (v 0)) ∧ W.cell? ⟨w.heap.size + 1 + 1, 1, none⟩ = some (.int .i64 (v 1)) ∧ W.cell? ⟨w.heap.size + 1 + 1, 2, none⟩ = some (.int .i64 (v 2)) ∧ W.cell? ⟨w.heap.size + 1 + 1, 3, none⟩ = some (.int .i64 (v 3)) ∧ W.cell? ⟨w.heap.size + 1 + 1, 4, none⟩ = some (.int .i64 (v 4)) ∧ W.cell? ⟨w.heap.size + 1 + 1, 5, none⟩ = some (.int .i64 (v 5)) :=
  have k := h.six w.heap.size 23 (.int .i64 (a 0)) (.int .i64 (a 1)) (.int .i64 (a 2)) (.int .i64 (a 3)) (.int .i64 (a 4)) (.int .i64 (a 5)) (List.mem_cons_of_mem _ (List.mem_cons_of_mem _ List.mem_cons_self))
  have m := h.six (w.heap.size + 1 + 1) 24 (.int .i64 (v 0)) (.int .i64 (v 1)) (.int .i64 (v 2)) (.int .i64 (v 3)) (.int .i64 (v 4)) (.int .i64 (v 5)) List.mem_cons_self
  ⟨h, k.1, k.2.1, k.2.2.1, k.2.2.2.1, k.2.2.2.2.1, k.2.2.2.2.2.1, m.1, m.2.1, m.2.2.1, m.2.2.2.1, m.2.2.2.2.1, m.2.2.2.2.2.1⟩
set_option maxRecDepth 20000 in
set_option maxHeartbeats 16000000 in
theorem pref_long (a b v : Nat → Int) (n d : Int) (l : List UInt8) (w : World) (hl : Gv w) (hlen : l.length ≤ 281474976710656) (hlong : 200 < l.length) (vb ib : Bool) (V1 : Hx (∀ w, Calls Tryz.prog 5 #[PV a] w fun e w' => e = .returned (.bool vb) ∧ Below w.heap.size w w')) (V2 : Hx (∀ w, Calls Tryz.prog 6 #[PV a] w fun e w' => e = .returned (.bool vb) ∧ Below w.heap.size w w')) (V3 : Hx (∀ w, Calls Tryz.prog 7 #[PV v] w fun e w' => e = .returned (.bool ib) ∧ Below w.heap.size w w')) (V4 : Hx (∀ w, Calls Tryz.prog 8 #[PV v] w fun e w' => e = .returned (.bool ib) ∧ Below w.heap.size w w')) (ov : Nat → Int) (oc : Int) (O1 : Hx (∀ w, Calls Tryz.prog 9 #[PV v] w (OutV w ov (oc)))) (O2 : Hx (∀ w, Calls Tryz.prog 10 #[PV v] w (OutV w ov (oc)))) (hv : Nat → Int) (hc : Int) (H1 : Hx (∀ w, Calls Tryz.prog 11 #[PV a] w (OutV w hv (hc)))) (H2 : Hx (∀ w, Calls Tryz.prog 12 #[PV a] w (OutV w hv (hc)))) (mv : Nat → Int) (mc : Int) (M1 : Hx (∀ w, Calls Tryz.prog 13 #[PV a, PV b] w (OutV w mv (mc)))) (M2 : Hx (∀ w, Calls Tryz.prog 14 #[PV a, PV b] w (OutV w mv (mc)))) (ev : Nat → Int) (ec : Int) (E1 : Hx (∀ w, Calls Tryz.prog 15 #[PV a, PV b] w (OutV w ev (ec)))) (E2 : Hx (∀ w, Calls Tryz.prog 16 #[PV a, PV b] w (OutV w ev (ec)))) (pv : Nat → Int) (pc : Int) (P1 : Hx (∀ w, Calls Tryz.prog 17 #[PV a, .int .i64 n, .int .i64 d] w (OutV w pv (pc)))) (P2 : Hx (∀ w, Calls Tryz.prog 18 #[PV a, .int .i64 n, .int .i64 d] w (OutV w pv (pc)))) (ji jc : Int) (J1 : Hx (∀ w, Pm w → Calls Tryz.prog 19 #[PV a, PV b] w (OutJ w ji jc))) (J2 : Hx (∀ w, Calls Tryz.prog 20 #[PV a, PV b] w (OutJ w ji jc))) (rv : Nat → Int) (rc : Int) (R1 : Hx (∀ w, Pm w → Calls Tryz.prog 21 #[.int .i64 n, .int .i64 d] w (OutV w rv (rc)))) (R2 : Hx (∀ w, Calls Tryz.prog 22 #[.int .i64 n, .int .i64 d] w (OutV w rv (rc)))) (fx fy : Nat) (fc : Int) (F1 : Hx (∀ w, Pm w → Calls Tryz.prog 23 #[PV v] w (OutFq fx fy fc w))) (F2 : Hx (∀ w, Calls Tryz.prog 24 #[PV v] w (OutFq fx fy fc w))) (ts : ByteArray) (tc : Int) (T1 : Hx (∀ w, Gv w → Calls Tryz.prog 26 #[PV a] w (OutTx w ts tc))) (T2 : Hx (∀ w, Calls Tryz.prog 27 #[PV a] w (OutTx w ts tc))) :
    Calls Tryz.prog 3 #[PV a, PV b, PV v, .int .i64 n, .int .i64 d, .string (strL l)] w fun e w' => e = .returned (.bool true) ∧ Below w.heap.size w w' := by
  have S : Bx (LQ w w []) := ⟨LQ.start w hl⟩
  replace S := Bx.mk (S.out.push #[.int .i64 (a 0), .int .i64 (a 1), .int .i64 (a 2), .int .i64 (a 3), .int .i64 (a 4), .int .i64 (a 5)] 23)
  replace S := Bx.mk (S.out.push #[.int .i64 (b 0), .int .i64 (b 1), .int .i64 (b 2), .int .i64 (b 3), .int .i64 (b 4), .int .i64 (b 5)] 23)
  replace S := Bx.mk (S.out.push #[.int .i64 (v 0), .int .i64 (v 1), .int .i64 (v 2), .int .i64 (v 3), .int .i64 (v 4), .int .i64 (v 5)] 24)
  simp only [World.size_alloc] at S
  go_enter Tryz.func3, Tryz.ntmps3
  go_wp2_with fail
  refine (head_any _ S.out.gv).mono ?_
  rintro e w1 ⟨rfl, hb⟩
  replace S := Bx.mk (S.out.call hb)
  clear hb
  have HS0 := pref_all S.out
  have HS1 := pref_all S.out.drew
  clear S
  go_wp2_with fail
  go_region_held3 (fun W' => LQ w W' [(w.heap.size + 1 + 1, 24, #[.int .i64 (v 0), .int .i64 (v 1), .int .i64 (v 2), .int .i64 (v 3), .int .i64 (v 4), .int .i64 (v 5)]), (w.heap.size + 1, 23, #[.int .i64 (b 0), .int .i64 (b 1), .int .i64 (b 2), .int .i64 (b 3), .int .i64 (b 4), .int .i64 (b 5)]), (w.heap.size, 23, #[.int .i64 (a 0), .int .i64 (a 1), .int .i64 (a 2), .int .i64 (a 3), .int .i64 (a 4), .int .i64 (a 5)])] ∧ W'.cell? ⟨w.heap.size, 0, none⟩ = some (.int .i64 (a 0)) ∧ W'.cell? ⟨w.heap.size, 1, none⟩ = some (.int .i64 (a 1)) ∧ W'.cell? ⟨w.heap.size, 2, none⟩ = some (.int .i64 (a 2)) ∧ W'.cell? ⟨w.heap.size, 3, none⟩ = some (.int .i64 (a 3)) ∧ W'.cell? ⟨w.heap.size, 4, none⟩ = some (.int .i64 (a 4)) ∧ W'.cell? ⟨w.heap.size, 5, none⟩ = some (.int .i64 (a 5)) ∧ W'.cell? ⟨w.heap.size + 1 + 1, 0, none⟩ = some (.int .i64 (v 0)) ∧ W'.cell? ⟨w.heap.size + 1 + 1, 1, none⟩ = some (.int .i64 (v 1)) ∧ W'.cell? ⟨w.heap.size + 1 + 1, 2, none⟩ = some (.int .i64 (v 2)) ∧ W'.cell? ⟨w.heap.size + 1 + 1, 3, none⟩ = some (.int .i64 (v 3)) ∧ W'.cell? ⟨w.heap.size + 1 + 1, 4, none⟩ = some (.int .i64 (v 4)) ∧ W'.cell? ⟨w.heap.size + 1 + 1, 5, none⟩ = some (.int .i64 (v 5)))
    (first | (with_reducible assumption) | (refine pref_all ?_; with_reducible assumption) | (refine pref_all (LQ.drew ?_); with_reducible assumption))
    (first | (go_at_call 5; refine (V1.out _).mono ?_; rintro e w' ⟨rfl, hb1⟩; have hS' := LQ.call (And.left (by assumption)) hb1) | (go_at_call 6; refine (V2.out _).mono ?_; rintro e w' ⟨rfl, hb1⟩; have hS' := LQ.call (And.left (by assumption)) hb1) | (go_at_call 7; refine (V3.out _).mono ?_; rintro e w' ⟨rfl, hb1⟩; have hS' := LQ.call (And.left (by assumption)) hb1) | (go_at_call 8; refine (V4.out _).mono ?_; rintro e w' ⟨rfl, hb1⟩; have hS' := LQ.call (And.left (by assumption)) hb1))
  have S := Bx.mk hS'
  clear HS0 HS1 hS' hb1
  have Qov := eq6_same 23 Tryz.underlying23 ov
  obtain ⟨c1_0, c1_1, c1_2, c1_3, c1_4, c1_5, z1⟩ := S.out.six (w.heap.size + 1 + 1) 24 (.int .i64 (v 0)) (.int .i64 (v 1)) (.int .i64 (v 2)) (.int .i64 (v 3)) (.int .i64 (v 4)) (.int .i64 (v 5)) List.mem_cons_self
  obtain ⟨f1_0, f1_1, f1_2, f1_3, f1_4, f1_5⟩ := S.out.fz6 (w.heap.size + 1 + 1) 24 #[.int .i64 (v 0), .int .i64 (v 1), .int .i64 (v 2), .int .i64 (v 3), .int .i64 (v 4), .int .i64 (v 5)] List.mem_cons_self
  go_wp2_with fail
  refine (O1.out _).mono ?_
  rintro e w2 ⟨rfl, hb⟩
  replace S := Bx.mk (S.out.call hb)
  clear c1_0 c1_1 c1_2 c1_3 c1_4 c1_5 z1 f1_0 f1_1 f1_2 f1_3 f1_4 f1_5
  clear hb
  replace S := Bx.mk (S.out.push #[.int .i64 (ov 0), .int .i64 (ov 1), .int .i64 (ov 2), .int .i64 (ov 3), .int .i64 (ov 4), .int .i64 (ov 5)] 23)
  obtain ⟨c2_0, c2_1, c2_2, c2_3, c2_4, c2_5, z2⟩ := S.out.six (w.heap.size + 1 + 1) 24 (.int .i64 (v 0)) (.int .i64 (v 1)) (.int .i64 (v 2)) (.int .i64 (v 3)) (.int .i64 (v 4)) (.int .i64 (v 5)) (List.mem_cons_of_mem _ List.mem_cons_self)
  obtain ⟨f2_0, f2_1, f2_2, f2_3, f2_4, f2_5⟩ := S.out.fz6 (w.heap.size + 1 + 1) 24 #[.int .i64 (v 0), .int .i64 (v 1), .int .i64 (v 2), .int .i64 (v 3), .int .i64 (v 4), .int .i64 (v 5)] (List.mem_cons_of_mem _ List.mem_cons_self)
  go_wp2_with fail
  refine (O2.out _).mono ?_
  rintro e w3 ⟨rfl, hb⟩
  replace S := Bx.mk (S.out.call hb)
  clear c2_0 c2_1 c2_2 c2_3 c2_4 c2_5 z2 f2_0 f2_1 f2_2 f2_3 f2_4 f2_5
  clear hb
  replace S := Bx.mk (S.out.push #[.int .i64 (ov 0), .int .i64 (ov 1), .int .i64 (ov 2), .int .i64 (ov 3), .int .i64 (ov 4), .int .i64 (ov 5)] 23)
  obtain ⟨c3_0, c3_1, c3_2, c3_3, c3_4, c3_5, z3⟩ := S.out.six w3.heap.size 23 (.int .i64 (ov 0)) (.int .i64 (ov 1)) (.int .i64 (ov 2)) (.int .i64 (ov 3)) (.int .i64 (ov 4)) (.int .i64 (ov 5)) List.mem_cons_self
  obtain ⟨f3_0, f3_1, f3_2, f3_3, f3_4, f3_5⟩ := S.out.fz6 w3.heap.size 23 #[.int .i64 (ov 0), .int .i64 (ov 1), .int .i64 (ov 2), .int .i64 (ov 3), .int .i64 (ov 4), .int .i64 (ov 5)] List.mem_cons_self
  obtain ⟨c4_0, c4_1, c4_2, c4_3, c4_4, c4_5, z4⟩ := S.out.six w2.heap.size 23 (.int .i64 (ov 0)) (.int .i64 (ov 1)) (.int .i64 (ov 2)) (.int .i64 (ov 3)) (.int .i64 (ov 4)) (.int .i64 (ov 5)) (List.mem_cons_of_mem _ List.mem_cons_self)
  obtain ⟨f4_0, f4_1, f4_2, f4_3, f4_4, f4_5⟩ := S.out.fz6 w2.heap.size 23 #[.int .i64 (ov 0), .int .i64 (ov 1), .int .i64 (ov 2), .int .i64 (ov 3), .int .i64 (ov 4), .int .i64 (ov 5)] (List.mem_cons_of_mem _ List.mem_cons_self)
  have Qhv := eq6_same 24 Tryz.underlying24 hv
  obtain ⟨c5_0, c5_1, c5_2, c5_3, c5_4, c5_5, z5⟩ := S.out.six w.heap.size 23 (.int .i64 (a 0)) (.int .i64 (a 1)) (.int .i64 (a 2)) (.int .i64 (a 3)) (.int .i64 (a 4)) (.int .i64 (a 5)) (List.mem_cons_of_mem _ (List.mem_cons_of_mem _ (List.mem_cons_of_mem _ (List.mem_cons_of_mem _ List.mem_cons_self))))
  obtain ⟨f5_0, f5_1, f5_2, f5_3, f5_4, f5_5⟩ := S.out.fz6 w.heap.size 23 #[.int .i64 (a 0), .int .i64 (a 1), .int .i64 (a 2), .int .i64 (a 3), .int .i64 (a 4), .int .i64 (a 5)] (List.mem_cons_of_mem _ (List.mem_cons_of_mem _ (List.mem_cons_of_mem _ (List.mem_cons_of_mem _ List.mem_cons_self))))
  go_wp2_with fail
  refine (H1.out _).mono ?_
  rintro e w4 ⟨rfl, hb⟩
  replace S := Bx.mk (S.out.call hb)
  clear c5_0 c5_1 c5_2 c5_3 c5_4 c5_5 z5 f5_0 f5_1 f5_2 f5_3 f5_4 f5_5
  clear hb
  replace S := Bx.mk (S.out.push #[.int .i64 (hv 0), .int .i64 (hv 1), .int .i64 (hv 2), .int .i64 (hv 3), .int .i64 (hv 4), .int .i64 (hv 5)] 24)
  obtain ⟨c6_0, c6_1, c6_2, c6_3, c6_4, c6_5, z6⟩ := S.out.six w.heap.size 23 (.int .i64 (a 0)) (.int .i64 (a 1)) (.int .i64 (a 2)) (.int .i64 (a 3)) (.int .i64 (a 4)) (.int .i64 (a 5)) (List.mem_cons_of_mem _ (List.mem_cons_of_mem _ (List.mem_cons_of_mem _ (List.mem_cons_of_mem _ (List.mem_cons_of_mem _ List.mem_cons_self)))))
  obtain ⟨f6_0, f6_1, f6_2, f6_3, f6_4, f6_5⟩ := S.out.fz6 w.heap.size 23 #[.int .i64 (a 0), .int .i64 (a 1), .int .i64 (a 2), .int .i64 (a 3), .int .i64 (a 4), .int .i64 (a 5)] (List.mem_cons_of_mem _ (List.mem_cons_of_mem _ (List.mem_cons_of_mem _ (List.mem_cons_of_mem _ (List.mem_cons_of_mem _ List.mem_cons_self)))))
  go_wp2_with fail
  refine (H2.out _).mono ?_
  rintro e w5 ⟨rfl, hb⟩
  replace S := Bx.mk (S.out.call hb)
  clear c6_0 c6_1 c6_2 c6_3 c6_4 c6_5 z6 f6_0 f6_1 f6_2 f6_3 f6_4 f6_5
  clear hb
  replace S := Bx.mk (S.out.push #[.int .i64 (hv 0), .int .i64 (hv 1), .int .i64 (hv 2), .int .i64 (hv 3), .int .i64 (hv 4), .int .i64 (hv 5)] 24)
  obtain ⟨c7_0, c7_1, c7_2, c7_3, c7_4, c7_5, z7⟩ := S.out.six w5.heap.size 24 (.int .i64 (hv 0)) (.int .i64 (hv 1)) (.int .i64 (hv 2)) (.int .i64 (hv 3)) (.int .i64 (hv 4)) (.int .i64 (hv 5)) List.mem_cons_self
  obtain ⟨f7_0, f7_1, f7_2, f7_3, f7_4, f7_5⟩ := S.out.fz6 w5.heap.size 24 #[.int .i64 (hv 0), .int .i64 (hv 1), .int .i64 (hv 2), .int .i64 (hv 3), .int .i64 (hv 4), .int .i64 (hv 5)] List.mem_cons_self
  obtain ⟨c8_0, c8_1, c8_2, c8_3, c8_4, c8_5, z8⟩ := S.out.six w4.heap.size 24 (.int .i64 (hv 0)) (.int .i64 (hv 1)) (.int .i64 (hv 2)) (.int .i64 (hv 3)) (.int .i64 (hv 4)) (.int .i64 (hv 5)) (List.mem_cons_of_mem _ List.mem_cons_self)
  obtain ⟨f8_0, f8_1, f8_2, f8_3, f8_4, f8_5⟩ := S.out.fz6 w4.heap.size 24 #[.int .i64 (hv 0), .int .i64 (hv 1), .int .i64 (hv 2), .int .i64 (hv 3), .int .i64 (hv 4), .int .i64 (hv 5)] (List.mem_cons_of_mem _ List.mem_cons_self)
  have Qmv := eq6_same 23 Tryz.underlying23 mv
  obtain ⟨c9_0, c9_1, c9_2, c9_3, c9_4, c9_5, z9⟩ := S.out.six w3.heap.size 23 (.int .i64 (ov 0)) (.int .i64 (ov 1)) (.int .i64 (ov 2)) (.int .i64 (ov 3)) (.int .i64 (ov 4)) (.int .i64 (ov 5)) (List.mem_cons_of_mem _ (List.mem_cons_of_mem _ List.mem_cons_self))
  obtain ⟨f9_0, f9_1, f9_2, f9_3, f9_4, f9_5⟩ := S.out.fz6 w3.heap.size 23 #[.int .i64 (ov 0), .int .i64 (ov 1), .int .i64 (ov 2), .int .i64 (ov 3), .int .i64 (ov 4), .int .i64 (ov 5)] (List.mem_cons_of_mem _ (List.mem_cons_of_mem _ List.mem_cons_self))
  obtain ⟨c10_0, c10_1, c10_2, c10_3, c10_4, c10_5, z10⟩ := S.out.six w2.heap.size 23 (.int .i64 (ov 0)) (.int .i64 (ov 1)) (.int .i64 (ov 2)) (.int .i64 (ov 3)) (.int .i64 (ov 4)) (.int .i64 (ov 5)) (List.mem_cons_of_mem _ (List.mem_cons_of_mem _ (List.mem_cons_of_mem _ List.mem_cons_self)))
  obtain ⟨f10_0, f10_1, f10_2, f10_3, f10_4, f10_5⟩ := S.out.fz6 w2.heap.size 23 #[.int .i64 (ov 0), .int .i64 (ov 1), .int .i64 (ov 2), .int .i64 (ov 3), .int .i64 (ov 4), .int .i64 (ov 5)] (List.mem_cons_of_mem _ (List.mem_cons_of_mem _ (List.mem_cons_of_mem _ List.mem_cons_self)))
  obtain ⟨c11_0, c11_1, c11_2, c11_3, c11_4, c11_5, z11⟩ := S.out.six w.heap.size 23 (.int .i64 (a 0)) (.int .i64 (a 1)) (.int .i64 (a 2)) (.int .i64 (a 3)) (.int .i64 (a 4)) (.int .i64 (a 5)) (List.mem_cons_of_mem _ (List.mem_cons_of_mem _ (List.mem_cons_of_mem _ (List.mem_cons_of_mem _ (List.mem_cons_of_mem _ (List.mem_cons_of_mem _ List.mem_cons_self))))))
  obtain ⟨f11_0, f11_1, f11_2, f11_3, f11_4, f11_5⟩ := S.out.fz6 w.heap.size 23 #[.int .i64 (a 0), .int .i64 (a 1), .int .i64 (a 2), .int .i64 (a 3), .int .i64 (a 4), .int .i64 (a 5)] (List.mem_cons_of_mem _ (List.mem_cons_of_mem _ (List.mem_cons_of_mem _ (List.mem_cons_of_mem _ (List.mem_cons_of_mem _ (List.mem_cons_of_mem _ List.mem_cons_self))))))
  obtain ⟨c12_0, c12_1, c12_2, c12_3, c12_4, c12_5, z12⟩ := S.out.six (w.heap.size + 1) 23 (.int .i64 (b 0)) (.int .i64 (b 1)) (.int .i64 (b 2)) (.int .i64 (b 3)) (.int .i64 (b 4)) (.int .i64 (b 5)) (List.mem_cons_of_mem _ (List.mem_cons_of_mem _ (List.mem_cons_of_mem _ (List.mem_cons_of_mem _ (List.mem_cons_of_mem _ List.mem_cons_self)))))
  obtain ⟨f12_0, f12_1, f12_2, f12_3, f12_4, f12_5⟩ := S.out.fz6 (w.heap.size + 1) 23 #[.int .i64 (b 0), .int .i64 (b 1), .int .i64 (b 2), .int .i64 (b 3), .int .i64 (b 4), .int .i64 (b 5)] (List.mem_cons_of_mem _ (List.mem_cons_of_mem _ (List.mem_cons_of_mem _ (List.mem_cons_of_mem _ (List.mem_cons_of_mem _ List.mem_cons_self)))))
  go_wp2_with fail
  refine (M1.out _).mono ?_
  rintro e w6 ⟨rfl, hb⟩
  replace S := Bx.mk (S.out.call hb)
  clear c9_0 c9_1 c9_2 c9_3 c9_4 c9_5 z9 f9_0 f9_1 f9_2 f9_3 f9_4 f9_5 c10_0 c10_1 c10_2 c10_3 c10_4 c10_5 z10 f10_0 f10_1 f10_2 f10_3 f10_4 f10_5 c11_0 c11_1 c11_2 c11_3 c11_4 c11_5 z11 f11_0 f11_1 f11_2 f11_3 f11_4 f11_5 c12_0 c12_1 c12_2 c12_3 c12_4 c12_5 z12 f12_0 f12_1 f12_2 f12_3 f12_4 f12_5
  clear hb
  obtain ⟨c13_0, c13_1, c13_2, c13_3, c13_4, c13_5, z13⟩ := S.out.six w2.heap.size 23 (.int .i64 (ov 0)) (.int .i64 (ov 1)) (.int .i64 (ov 2)) (.int .i64 (ov 3)) (.int .i64 (ov 4)) (.int .i64 (ov 5)) (List.mem_cons_of_mem _ (List.mem_cons_of_mem _ (List.mem_cons_of_mem _ List.mem_cons_self)))
  obtain ⟨f13_0, f13_1, f13_2, f13_3, f13_4, f13_5⟩ := S.out.fz6 w2.heap.size 23 #[.int .i64 (ov 0), .int .i64 (ov 1), .int .i64 (ov 2), .int .i64 (ov 3), .int .i64 (ov 4), .int .i64 (ov 5)] (List.mem_cons_of_mem _ (List.mem_cons_of_mem _ (List.mem_cons_of_mem _ List.mem_cons_self)))
  replace S := Bx.mk (LQ.put6 (L := [(w5.heap.size, 24, #[.int .i64 (hv 0), .int .i64 (hv 1), .int .i64 (hv 2), .int .i64 (hv 3), .int .i64 (hv 4), .int .i64 (hv 5)]), (w4.heap.size, 24, #[.int .i64 (hv 0), .int .i64 (hv 1), .int .i64 (hv 2), .int .i64 (hv 3), .int .i64 (hv 4), .int .i64 (hv 5)]), (w3.heap.size, 23, #[.int .i64 (ov 0), .int .i64 (ov 1), .int .i64 (ov 2), .int .i64 (ov 3), .int .i64 (ov 4), .int .i64 (ov 5)])]) (M := [(w.heap.size + 1 + 1, 24, #[.int .i64 (v 0), .int .i64 (v 1), .int .i64 (v 2), .int .i64 (v 3), .int .i64 (v 4), .int .i64 (v 5)]), (w.heap.size + 1, 23, #[.int .i64 (b 0), .int .i64 (b 1), .int .i64 (b 2), .int .i64 (b 3), .int .i64 (b 4), .int .i64 (b 5)]), (w.heap.size, 23, #[.int .i64 (a 0), .int .i64 (a 1), .int .i64 (a 2), .int .i64 (a 3), .int .i64 (a 4), .int .i64 (a 5)])]) (b := w2.heap.size) (t := 23) S.out (.int .i64 (mv 0)) (.int .i64 (mv 1)) (.int .i64 (mv 2)) (.int .i64 (mv 3)) (.int .i64 (mv 4)) (.int .i64 (mv 5)))
  simp only [List.cons_append, List.nil_append] at S
  obtain ⟨c14_0, c14_1, c14_2, c14_3, c14_4, c14_5, z14⟩ := S.out.six w.heap.size 23 (.int .i64 (a 0)) (.int .i64 (a 1)) (.int .i64 (a 2)) (.int .i64 (a 3)) (.int .i64 (a 4)) (.int .i64 (a 5)) (List.mem_cons_of_mem _ (List.mem_cons_of_mem _ (List.mem_cons_of_mem _ (List.mem_cons_of_mem _ (List.mem_cons_of_mem _ (List.mem_cons_of_mem _ List.mem_cons_self))))))
  obtain ⟨f14_0, f14_1, f14_2, f14_3, f14_4, f14_5⟩ := S.out.fz6 w.heap.size 23 #[.int .i64 (a 0), .int .i64 (a 1), .int .i64 (a 2), .int .i64 (a 3), .int .i64 (a 4), .int .i64 (a 5)] (List.mem_cons_of_mem _ (List.mem_cons_of_mem _ (List.mem_cons_of_mem _ (List.mem_cons_of_mem _ (List.mem_cons_of_mem _ (List.mem_cons_of_mem _ List.mem_cons_self))))))
  obtain ⟨c15_0, c15_1, c15_2, c15_3, c15_4, c15_5, z15⟩ := S.out.six (w.heap.size + 1) 23 (.int .i64 (b 0)) (.int .i64 (b 1)) (.int .i64 (b 2)) (.int .i64 (b 3)) (.int .i64 (b 4)) (.int .i64 (b 5)) (List.mem_cons_of_mem _ (List.mem_cons_of_mem _ (List.mem_cons_of_mem _ (List.mem_cons_of_mem _ (List.mem_cons_of_mem _ List.mem_cons_self)))))
  obtain ⟨f15_0, f15_1, f15_2, f15_3, f15_4, f15_5⟩ := S.out.fz6 (w.heap.size + 1) 23 #[.int .i64 (b 0), .int .i64 (b 1), .int .i64 (b 2), .int .i64 (b 3), .int .i64 (b 4), .int .i64 (b 5)] (List.mem_cons_of_mem _ (List.mem_cons_of_mem _ (List.mem_cons_of_mem _ (List.mem_cons_of_mem _ (List.mem_cons_of_mem _ List.mem_cons_self)))))
  go_wp2_with fail
  refine (M2.out _).mono ?_
  rintro e w7 ⟨rfl, hb⟩
  replace S := Bx.mk (S.out.call hb)
  clear c13_0 c13_1 c13_2 c13_3 c13_4 c13_5 z13 f13_0 f13_1 f13_2 f13_3 f13_4 f13_5 c14_0 c14_1 c14_2 c14_3 c14_4 c14_5 z14 f14_0 f14_1 f14_2 f14_3 f14_4 f14_5 c15_0 c15_1 c15_2 c15_3 c15_4 c15_5 z15 f15_0 f15_1 f15_2 f15_3 f15_4 f15_5
  clear hb
  obtain ⟨c16_0, c16_1, c16_2, c16_3, c16_4, c16_5, z16⟩ := S.out.six w3.heap.size 23 (.int .i64 (ov 0)) (.int .i64 (ov 1)) (.int .i64 (ov 2)) (.int .i64 (ov 3)) (.int .i64 (ov 4)) (.int .i64 (ov 5)) (List.mem_cons_of_mem _ (List.mem_cons_of_mem _ List.mem_cons_self))
  obtain ⟨f16_0, f16_1, f16_2, f16_3, f16_4, f16_5⟩ := S.out.fz6 w3.heap.size 23 #[.int .i64 (ov 0), .int .i64 (ov 1), .int .i64 (ov 2), .int .i64 (ov 3), .int .i64 (ov 4), .int .i64 (ov 5)] (List.mem_cons_of_mem _ (List.mem_cons_of_mem _ List.mem_cons_self))
  replace S := Bx.mk (LQ.put6 (L := [(w5.heap.size, 24, #[.int .i64 (hv 0), .int .i64 (hv 1), .int .i64 (hv 2), .int .i64 (hv 3), .int .i64 (hv 4), .int .i64 (hv 5)]), (w4.heap.size, 24, #[.int .i64 (hv 0), .int .i64 (hv 1), .int .i64 (hv 2), .int .i64 (hv 3), .int .i64 (hv 4), .int .i64 (hv 5)])]) (M := [(w2.heap.size, 23, #[.int .i64 (mv 0), .int .i64 (mv 1), .int .i64 (mv 2), .int .i64 (mv 3), .int .i64 (mv 4), .int .i64 (mv 5)]), (w.heap.size + 1 + 1, 24, #[.int .i64 (v 0), .int .i64 (v 1), .int .i64 (v 2), .int .i64 (v 3), .int .i64 (v 4), .int .i64 (v 5)]), (w.heap.size + 1, 23, #[.int .i64 (b 0), .int .i64 (b 1), .int .i64 (b 2), .int .i64 (b 3), .int .i64 (b 4), .int .i64 (b 5)]), (w.heap.size, 23, #[.int .i64 (a 0), .int .i64 (a 1), .int .i64 (a 2), .int .i64 (a 3), .int .i64 (a 4), .int .i64 (a 5)])]) (b := w3.heap.size) (t := 23) S.out (.int .i64 (mv 0)) (.int .i64 (mv 1)) (.int .i64 (mv 2)) (.int .i64 (mv 3)) (.int .i64 (mv 4)) (.int .i64 (mv 5)))
  simp only [List.cons_append, List.nil_append] at S
  have Qev := eq6_same 23 Tryz.underlying23 ev
  obtain ⟨c17_0, c17_1, c17_2, c17_3, c17_4, c17_5, z17⟩ := S.out.six w3.heap.size 23 (.int .i64 (mv 0)) (.int .i64 (mv 1)) (.int .i64 (mv 2)) (.int .i64 (mv 3)) (.int .i64 (mv 4)) (.int .i64 (mv 5)) (List.mem_cons_of_mem _ (List.mem_cons_of_mem _ List.mem_cons_self))
  obtain ⟨f17_0, f17_1, f17_2, f17_3, f17_4, f17_5⟩ := S.out.fz6 w3.heap.size 23 #[.int .i64 (mv 0), .int .i64 (mv 1), .int .i64 (mv 2), .int .i64 (mv 3), .int .i64 (mv 4), .int .i64 (mv 5)] (List.mem_cons_of_mem _ (List.mem_cons_of_mem _ List.mem_cons_self))
  obtain ⟨c18_0, c18_1, c18_2, c18_3, c18_4, c18_5, z18⟩ := S.out.six w2.heap.size 23 (.int .i64 (mv 0)) (.int .i64 (mv 1)) (.int .i64 (mv 2)) (.int .i64 (mv 3)) (.int .i64 (mv 4)) (.int .i64 (mv 5)) (List.mem_cons_of_mem _ (List.mem_cons_of_mem _ (List.mem_cons_of_mem _ List.mem_cons_self)))
  obtain ⟨f18_0, f18_1, f18_2, f18_3, f18_4, f18_5⟩ := S.out.fz6 w2.heap.size 23 #[.int .i64 (mv 0), .int .i64 (mv 1), .int .i64 (mv 2), .int .i64 (mv 3), .int .i64 (mv 4), .int .i64 (mv 5)] (List.mem_cons_of_mem _ (List.mem_cons_of_mem _ (List.mem_cons_of_mem _ List.mem_cons_self)))
  obtain ⟨c19_0, c19_1, c19_2, c19_3, c19_4, c19_5, z19⟩ := S.out.six w.heap.size 23 (.int .i64 (a 0)) (.int .i64 (a 1)) (.int .i64 (a 2)) (.int .i64 (a 3)) (.int .i64 (a 4)) (.int .i64 (a 5)) (List.mem_cons_of_mem _ (List.mem_cons_of_mem _ (List.mem_cons_of_mem _ (List.mem_cons_of_mem _ (List.mem_cons_of_mem _ (List.mem_cons_of_mem _ List.mem_cons_self))))))
  obtain ⟨f19_0, f19_1, f19_2, f19_3, f19_4, f19_5⟩ := S.out.fz6 w.heap.size 23 #[.int .i64 (a 0), .int .i64 (a 1), .int .i64 (a 2), .int .i64 (a 3), .int .i64 (a 4), .int .i64 (a 5)] (List.mem_cons_of_mem _ (List.mem_cons_of_mem _ (List.mem_cons_of_mem _ (List.mem_cons_of_mem _ (List.mem_cons_of_mem _ (List.mem_cons_of_mem _ List.mem_cons_self))))))
  obtain ⟨c20_0, c20_1, c20_2, c20_3, c20_4, c20_5, z20⟩ := S.out.six (w.heap.size + 1) 23 (.int .i64 (b 0)) (.int .i64 (b 1)) (.int .i64 (b 2)) (.int .i64 (b 3)) (.int .i64 (b 4)) (.int .i64 (b 5)) (List.mem_cons_of_mem _ (List.mem_cons_of_mem _ (List.mem_cons_of_mem _ (List.mem_cons_of_mem _ (List.mem_cons_of_mem _ List.mem_cons_self)))))
  obtain ⟨f20_0, f20_1, f20_2, f20_3, f20_4, f20_5⟩ := S.out.fz6 (w.heap.size + 1) 23 #[.int .i64 (b 0), .int .i64 (b 1), .int .i64 (b 2), .int .i64 (b 3), .int .i64 (b 4), .int .i64 (b 5)] (List.mem_cons_of_mem _ (List.mem_cons_of_mem _ (List.mem_cons_of_mem _ (List.mem_cons_of_mem _ (List.mem_cons_of_mem _ List.mem_cons_self)))))
  go_wp2_with fail
  refine (E1.out _).mono ?_
  rintro e w8 ⟨rfl, hb⟩
  replace S := Bx.mk (S.out.call hb)
  clear c17_0 c17_1 c17_2 c17_3 c17_4 c17_5 z17 f17_0 f17_1 f17_2 f17_3 f17_4 f17_5 c18_0 c18_1 c18_2 c18_3 c18_4 c18_5 z18 f18_0 f18_1 f18_2 f18_3 f18_4 f18_5 c19_0 c19_1 c19_2 c19_3 c19_4 c19_5 z19 f19_0 f19_1 f19_2 f19_3 f19_4 f19_5 c20_0 c20_1 c20_2 c20_3 c20_4 c20_5 z20 f20_0 f20_1 f20_2 f20_3 f20_4 f20_5
  clear hb
  obtain ⟨c21_0, c21_1, c21_2, c21_3, c21_4, c21_5, z21⟩ := S.out.six w2.heap.size 23 (.int .i64 (mv 0)) (.int .i64 (mv 1)) (.int .i64 (mv 2)) (.int .i64 (mv 3)) (.int .i64 (mv 4)) (.int .i64 (mv 5)) (List.mem_cons_of_mem _ (List.mem_cons_of_mem _ (List.mem_cons_of_mem _ List.mem_cons_self)))
  obtain ⟨f21_0, f21_1, f21_2, f21_3, f21_4, f21_5⟩ := S.out.fz6 w2.heap.size 23 #[.int .i64 (mv 0), .int .i64 (mv 1), .int .i64 (mv 2), .int .i64 (mv 3), .int .i64 (mv 4), .int .i64 (mv 5)] (List.mem_cons_of_mem _ (List.mem_cons_of_mem _ (List.mem_cons_of_mem _ List.mem_cons_self)))
  replace S := Bx.mk (LQ.put6 (L := [(w5.heap.size, 24, #[.int .i64 (hv 0), .int .i64 (hv 1), .int .i64 (hv 2), .int .i64 (hv 3), .int .i64 (hv 4), .int .i64 (hv 5)]), (w4.heap.size, 24, #[.int .i64 (hv 0), .int .i64 (hv 1), .int .i64 (hv 2), .int .i64 (hv 3), .int .i64 (hv 4), .int .i64 (hv 5)]), (w3.heap.size, 23, #[.int .i64 (mv 0), .int .i64 (mv 1), .int .i64 (mv 2), .int .i64 (mv 3), .int .i64 (mv 4), .int .i64 (mv 5)])]) (M := [(w.heap.size + 1 + 1, 24, #[.int .i64 (v 0), .int .i64 (v 1), .int .i64 (v 2), .int .i64 (v 3), .int .i64 (v 4), .int .i64 (v 5)]), (w.heap.size + 1, 23, #[.int .i64 (b 0), .int .i64 (b 1), .int .i64 (b 2), .int .i64 (b 3), .int .i64 (b 4), .int .i64 (b 5)]), (w.heap.size, 23, #[.int .i64 (a 0), .int .i64 (a 1), .int .i64 (a 2), .int .i64 (a 3), .int .i64 (a 4), .int .i64 (a 5)])]) (b := w2.heap.size) (t := 23) S.out (.int .i64 (ev 0)) (.int .i64 (ev 1)) (.int .i64 (ev 2)) (.int .i64 (ev 3)) (.int .i64 (ev 4)) (.int .i64 (ev 5)))
  simp only [List.cons_append, List.nil_append] at S
  obtain ⟨c22_0, c22_1, c22_2, c22_3, c22_4, c22_5, z22⟩ := S.out.six w.heap.size 23 (.int .i64 (a 0)) (.int .i64 (a 1)) (.int .i64 (a 2)) (.int .i64 (a 3)) (.int .i64 (a 4)) (.int .i64 (a 5)) (List.mem_cons_of_mem _ (List.mem_cons_of_mem _ (List.mem_cons_of_mem _ (List.mem_cons_of_mem _ (List.mem_cons_of_mem _ (List.mem_cons_of_mem _ List.mem_cons_self))))))
  obtain ⟨f22_0, f22_1, f22_2, f22_3, f22_4, f22_5⟩ := S.out.fz6 w.heap.size 23 #[.int .i64 (a 0), .int .i64 (a 1), .int .i64 (a 2), .int .i64 (a 3), .int .i64 (a 4), .int .i64 (a 5)] (List.mem_cons_of_mem _ (List.mem_cons_of_mem _ (List.mem_cons_of_mem _ (List.mem_cons_of_mem _ (List.mem_cons_of_mem _ (List.mem_cons_of_mem _ List.mem_cons_self))))))
  obtain ⟨c23_0, c23_1, c23_2, c23_3, c23_4, c23_5, z23⟩ := S.out.six (w.heap.size + 1) 23 (.int .i64 (b 0)) (.int .i64 (b 1)) (.int .i64 (b 2)) (.int .i64 (b 3)) (.int .i64 (b 4)) (.int .i64 (b 5)) (List.mem_cons_of_mem _ (List.mem_cons_of_mem _ (List.mem_cons_of_mem _ (List.mem_cons_of_mem _ (List.mem_cons_of_mem _ List.mem_cons_self)))))
  obtain ⟨f23_0, f23_1, f23_2, f23_3, f23_4, f23_5⟩ := S.out.fz6 (w.heap.size + 1) 23 #[.int .i64 (b 0), .int .i64 (b 1), .int .i64 (b 2), .int .i64 (b 3), .int .i64 (b 4), .int .i64 (b 5)] (List.mem_cons_of_mem _ (List.mem_cons_of_mem _ (List.mem_cons_of_mem _ (List.mem_cons_of_mem _ (List.mem_cons_of_mem _ List.mem_cons_self)))))
  go_wp2_with fail
  refine (E2.out _).mono ?_
  rintro e w9 ⟨rfl, hb⟩
  replace S := Bx.mk (S.out.call hb)
  clear c21_0 c21_1 c21_2 c21_3 c21_4 c21_5 z21 f21_0 f21_1 f21_2 f21_3 f21_4 f21_5 c22_0 c22_1 c22_2 c22_3 c22_4 c22_5 z22 f22_0 f22_1 f22_2 f22_3 f22_4 f22_5 c23_0 c23_1 c23_2 c23_3 c23_4 c23_5 z23 f23_0 f23_1 f23_2 f23_3 f23_4 f23_5
  clear hb
  obtain ⟨c24_0, c24_1, c24_2, c24_3, c24_4, c24_5, z24⟩ := S.out.six w3.heap.size 23 (.int .i64 (mv 0)) (.int .i64 (mv 1)) (.int .i64 (mv 2)) (.int .i64 (mv 3)) (.int .i64 (mv 4)) (.int .i64 (mv 5)) (List.mem_cons_of_mem _ (List.mem_cons_of_mem _ List.mem_cons_self))
  obtain ⟨f24_0, f24_1, f24_2, f24_3, f24_4, f24_5⟩ := S.out.fz6 w3.heap.size 23 #[.int .i64 (mv 0), .int .i64 (mv 1), .int .i64 (mv 2), .int .i64 (mv 3), .int .i64 (mv 4), .int .i64 (mv 5)] (List.mem_cons_of_mem _ (List.mem_cons_of_mem _ List.mem_cons_self))
  replace S := Bx.mk (LQ.put6 (L := [(w5.heap.size, 24, #[.int .i64 (hv 0), .int .i64 (hv 1), .int .i64 (hv 2), .int .i64 (hv 3), .int .i64 (hv 4), .int .i64 (hv 5)]), (w4.heap.size, 24, #[.int .i64 (hv 0), .int .i64 (hv 1), .int .i64 (hv 2), .int .i64 (hv 3), .int .i64 (hv 4), .int .i64 (hv 5)])]) (M := [(w2.heap.size, 23, #[.int .i64 (ev 0), .int .i64 (ev 1), .int .i64 (ev 2), .int .i64 (ev 3), .int .i64 (ev 4), .int .i64 (ev 5)]), (w.heap.size + 1 + 1, 24, #[.int .i64 (v 0), .int .i64 (v 1), .int .i64 (v 2), .int .i64 (v 3), .int .i64 (v 4), .int .i64 (v 5)]), (w.heap.size + 1, 23, #[.int .i64 (b 0), .int .i64 (b 1), .int .i64 (b 2), .int .i64 (b 3), .int .i64 (b 4), .int .i64 (b 5)]), (w.heap.size, 23, #[.int .i64 (a 0), .int .i64 (a 1), .int .i64 (a 2), .int .i64 (a 3), .int .i64 (a 4), .int .i64 (a 5)])]) (b := w3.heap.size) (t := 23) S.out (.int .i64 (ev 0)) (.int .i64 (ev 1)) (.int .i64 (ev 2)) (.int .i64 (ev 3)) (.int .i64 (ev 4)) (.int .i64 (ev 5)))
  simp only [List.cons_append, List.nil_append] at S
  have Qpv := eq6_same 23 Tryz.underlying23 pv
  obtain ⟨c25_0, c25_1, c25_2, c25_3, c25_4, c25_5, z25⟩ := S.out.six w3.heap.size 23 (.int .i64 (ev 0)) (.int .i64 (ev 1)) (.int .i64 (ev 2)) (.int .i64 (ev 3)) (.int .i64 (ev 4)) (.int .i64 (ev 5)) (List.mem_cons_of_mem _ (List.mem_cons_of_mem _ List.mem_cons_self))
  obtain ⟨f25_0, f25_1, f25_2, f25_3, f25_4, f25_5⟩ := S.out.fz6 w3.heap.size 23 #[.int .i64 (ev 0), .int .i64 (ev 1), .int .i64 (ev 2), .int .i64 (ev 3), .int .i64 (ev 4), .int .i64 (ev 5)] (List.mem_cons_of_mem _ (List.mem_cons_of_mem _ List.mem_cons_self))
  obtain ⟨c26_0, c26_1, c26_2, c26_3, c26_4, c26_5, z26⟩ := S.out.six w2.heap.size 23 (.int .i64 (ev 0)) (.int .i64 (ev 1)) (.int .i64 (ev 2)) (.int .i64 (ev 3)) (.int .i64 (ev 4)) (.int .i64 (ev 5)) (List.mem_cons_of_mem _ (List.mem_cons_of_mem _ (List.mem_cons_of_mem _ List.mem_cons_self)))
  obtain ⟨f26_0, f26_1, f26_2, f26_3, f26_4, f26_5⟩ := S.out.fz6 w2.heap.size 23 #[.int .i64 (ev 0), .int .i64 (ev 1), .int .i64 (ev 2), .int .i64 (ev 3), .int .i64 (ev 4), .int .i64 (ev 5)] (List.mem_cons_of_mem _ (List.mem_cons_of_mem _ (List.mem_cons_of_mem _ List.mem_cons_self)))
  obtain ⟨c27_0, c27_1, c27_2, c27_3, c27_4, c27_5, z27⟩ := S.out.six w.heap.size 23 (.int .i64 (a 0)) (.int .i64 (a 1)) (.int .i64 (a 2)) (.int .i64 (a 3)) (.int .i64 (a 4)) (.int .i64 (a 5)) (List.mem_cons_of_mem _ (List.mem_cons_of_mem _ (List.mem_cons_of_mem _ (List.mem_cons_of_mem _ (List.mem_cons_of_mem _ (List.mem_cons_of_mem _ List.mem_cons_self))))))
  obtain ⟨f27_0, f27_1, f27_2, f27_3, f27_4, f27_5⟩ := S.out.fz6 w.heap.size 23 #[.int .i64 (a 0), .int .i64 (a 1), .int .i64 (a 2), .int .i64 (a 3), .int .i64 (a 4), .int .i64 (a 5)] (List.mem_cons_of_mem _ (List.mem_cons_of_mem _ (List.mem_cons_of_mem _ (List.mem_cons_of_mem _ (List.mem_cons_of_mem _ (List.mem_cons_of_mem _ List.mem_cons_self))))))
  go_wp2_with fail
  refine (P1.out _).mono ?_
  rintro e w10 ⟨rfl, hb⟩
  replace S := Bx.mk (S.out.call hb)
  clear c25_0 c25_1 c25_2 c25_3 c25_4 c25_5 z25 f25_0 f25_1 f25_2 f25_3 f25_4 f25_5 c26_0 c26_1 c26_2 c26_3 c26_4 c26_5 z26 f26_0 f26_1 f26_2 f26_3 f26_4 f26_5 c27_0 c27_1 c27_2 c27_3 c27_4 c27_5 z27 f27_0 f27_1 f27_2 f27_3 f27_4 f27_5
  clear hb
  obtain ⟨c28_0, c28_1, c28_2, c28_3, c28_4, c28_5, z28⟩ := S.out.six w2.heap.size 23 (.int .i64 (ev 0)) (.int .i64 (ev 1)) (.int .i64 (ev 2)) (.int .i64 (ev 3)) (.int .i64 (ev 4)) (.int .i64 (ev 5)) (List.mem_cons_of_mem _ (List.mem_cons_of_mem _ (List.mem_cons_of_mem _ List.mem_cons_self)))
  obtain ⟨f28_0, f28_1, f28_2, f28_3, f28_4, f28_5⟩ := S.out.fz6 w2.heap.size 23 #[.int .i64 (ev 0), .int .i64 (ev 1), .int .i64 (ev 2), .int .i64 (ev 3), .int .i64 (ev 4), .int .i64 (ev 5)] (List.mem_cons_of_mem _ (List.mem_cons_of_mem _ (List.mem_cons_of_mem _ List.mem_cons_self)))
  replace S := Bx.mk (LQ.put6 (L := [(w5.heap.size, 24, #[.int .i64 (hv 0), .int .i64 (hv 1), .int .i64 (hv 2), .int .i64 (hv 3), .int .i64 (hv 4), .int .i64 (hv 5)]), (w4.heap.size, 24, #[.int .i64 (hv 0), .int .i64 (hv 1), .int .i64 (hv 2), .int .i64 (hv 3), .int .i64 (hv 4), .int .i64 (hv 5)]), (w3.heap.size, 23, #[.int .i64 (ev 0), .int .i64 (ev 1), .int .i64 (ev 2), .int .i64 (ev 3), .int .i64 (ev 4), .int .i64 (ev 5)])]) (M := [(w.heap.size + 1 + 1, 24, #[.int .i64 (v 0), .int .i64 (v 1), .int .i64 (v 2), .int .i64 (v 3), .int .i64 (v 4), .int .i64 (v 5)]), (w.heap.size + 1, 23, #[.int .i64 (b 0), .int .i64 (b 1), .int .i64 (b 2), .int .i64 (b 3), .int .i64 (b 4), .int .i64 (b 5)]), (w.heap.size, 23, #[.int .i64 (a 0), .int .i64 (a 1), .int .i64 (a 2), .int .i64 (a 3), .int .i64 (a 4), .int .i64 (a 5)])]) (b := w2.heap.size) (t := 23) S.out (.int .i64 (pv 0)) (.int .i64 (pv 1)) (.int .i64 (pv 2)) (.int .i64 (pv 3)) (.int .i64 (pv 4)) (.int .i64 (pv 5)))
  simp only [List.cons_append, List.nil_append] at S
  obtain ⟨c29_0, c29_1, c29_2, c29_3, c29_4, c29_5, z29⟩ := S.out.six w.heap.size 23 (.int .i64 (a 0)) (.int .i64 (a 1)) (.int .i64 (a 2)) (.int .i64 (a 3)) (.int .i64 (a 4)) (.int .i64 (a 5)) (List.mem_cons_of_mem _ (List.mem_cons_of_mem _ (List.mem_cons_of_mem _ (List.mem_cons_of_mem _ (List.mem_cons_of_mem _ (List.mem_cons_of_mem _ List.mem_cons_self))))))
  obtain ⟨f29_0, f29_1, f29_2, f29_3, f29_4, f29_5⟩ := S.out.fz6 w.heap.size 23 #[.int .i64 (a 0), .int .i64 (a 1), .int .i64 (a 2), .int .i64 (a 3), .int .i64 (a 4), .int .i64 (a 5)] (List.mem_cons_of_mem _ (List.mem_cons_of_mem _ (List.mem_cons_of_mem _ (List.mem_cons_of_mem _ (List.mem_cons_of_mem _ (List.mem_cons_of_mem _ List.mem_cons_self))))))
  go_wp2_with fail
  refine (P2.out _).mono ?_
  rintro e w11 ⟨rfl, hb⟩
  replace S := Bx.mk (S.out.call hb)
  clear c28_0 c28_1 c28_2 c28_3 c28_4 c28_5 z28 f28_0 f28_1 f28_2 f28_3 f28_4 f28_5 c29_0 c29_1 c29_2 c29_3 c29_4 c29_5 z29 f29_0 f29_1 f29_2 f29_3 f29_4 f29_5
  clear hb
  obtain ⟨c30_0, c30_1, c30_2, c30_3, c30_4, c30_5, z30⟩ := S.out.six w3.heap.size 23 (.int .i64 (ev 0)) (.int .i64 (ev 1)) (.int .i64 (ev 2)) (.int .i64 (ev 3)) (.int .i64 (ev 4)) (.int .i64 (ev 5)) (List.mem_cons_of_mem _ (List.mem_cons_of_mem _ List.mem_cons_self))
  obtain ⟨f30_0, f30_1, f30_2, f30_3, f30_4, f30_5⟩ := S.out.fz6 w3.heap.size 23 #[.int .i64 (ev 0), .int .i64 (ev 1), .int .i64 (ev 2), .int .i64 (ev 3), .int .i64 (ev 4), .int .i64 (ev 5)] (List.mem_cons_of_mem _ (List.mem_cons_of_mem _ List.mem_cons_self))
  replace S := Bx.mk (LQ.put6 (L := [(w5.heap.size, 24, #[.int .i64 (hv 0), .int .i64 (hv 1), .int .i64 (hv 2), .int .i64 (hv 3), .int .i64 (hv 4), .int .i64 (hv 5)]), (w4.heap.size, 24, #[.int .i64 (hv 0), .int .i64 (hv 1), .int .i64 (hv 2), .int .i64 (hv 3), .int .i64 (hv 4), .int .i64 (hv 5)])]) (M := [(w2.heap.size, 23, #[.int .i64 (pv 0), .int .i64 (pv 1), .int .i64 (pv 2), .int .i64 (pv 3), .int .i64 (pv 4), .int .i64 (pv 5)]), (w.heap.size + 1 + 1, 24, #[.int .i64 (v 0), .int .i64 (v 1), .int .i64 (v 2), .int .i64 (v 3), .int .i64 (v 4), .int .i64 (v 5)]), (w.heap.size + 1, 23, #[.int .i64 (b 0), .int .i64 (b 1), .int .i64 (b 2), .int .i64 (b 3), .int .i64 (b 4), .int .i64 (b 5)]), (w.heap.size, 23, #[.int .i64 (a 0), .int .i64 (a 1), .int .i64 (a 2), .int .i64 (a 3), .int .i64 (a 4), .int .i64 (a 5)])]) (b := w3.heap.size) (t := 23) S.out (.int .i64 (pv 0)) (.int .i64 (pv 1)) (.int .i64 (pv 2)) (.int .i64 (pv 3)) (.int .i64 (pv 4)) (.int .i64 (pv 5)))
  simp only [List.cons_append, List.nil_append] at S
  obtain ⟨c31_0, c31_1, c31_2, c31_3, c31_4, c31_5, z31⟩ := S.out.six w.heap.size 23 (.int .i64 (a 0)) (.int .i64 (a 1)) (.int .i64 (a 2)) (.int .i64 (a 3)) (.int .i64 (a 4)) (.int .i64 (a 5)) (List.mem_cons_of_mem _ (List.mem_cons_of_mem _ (List.mem_cons_of_mem _ (List.mem_cons_of_mem _ (List.mem_cons_of_mem _ (List.mem_cons_of_mem _ List.mem_cons_self))))))
  obtain ⟨f31_0, f31_1, f31_2, f31_3, f31_4, f31_5⟩ := S.out.fz6 w.heap.size 23 #[.int .i64 (a 0), .int .i64 (a 1), .int .i64 (a 2), .int .i64 (a 3), .int .i64 (a 4), .int .i64 (a 5)] (List.mem_cons_of_mem _ (List.mem_cons_of_mem _ (List.mem_cons_of_mem _ (List.mem_cons_of_mem _ (List.mem_cons_of_mem _ (List.mem_cons_of_mem _ List.mem_cons_self))))))
  obtain ⟨c32_0, c32_1, c32_2, c32_3, c32_4, c32_5, z32⟩ := S.out.six (w.heap.size + 1) 23 (.int .i64 (b 0)) (.int .i64 (b 1)) (.int .i64 (b 2)) (.int .i64 (b 3)) (.int .i64 (b 4)) (.int .i64 (b 5)) (List.mem_cons_of_mem _ (List.mem_cons_of_mem _ (List.mem_cons_of_mem _ (List.mem_cons_of_mem _ (List.mem_cons_of_mem _ List.mem_cons_self)))))
  obtain ⟨f32_0, f32_1, f32_2, f32_3, f32_4, f32_5⟩ := S.out.fz6 (w.heap.size + 1) 23 #[.int .i64 (b 0), .int .i64 (b 1), .int .i64 (b 2), .int .i64 (b 3), .int .i64 (b 4), .int .i64 (b 5)] (List.mem_cons_of_mem _ (List.mem_cons_of_mem _ (List.mem_cons_of_mem _ (List.mem_cons_of_mem _ (List.mem_cons_of_mem _ List.mem_cons_self)))))
  obtain ⟨c33_0, c33_1, c33_2, c33_3, c33_4, c33_5, z33⟩ := S.out.six w3.heap.size 23 (.int .i64 (pv 0)) (.int .i64 (pv 1)) (.int .i64 (pv 2)) (.int .i64 (pv 3)) (.int .i64 (pv 4)) (.int .i64 (pv 5)) (List.mem_cons_of_mem _ (List.mem_cons_of_mem _ List.mem_cons_self))
  obtain ⟨f33_0, f33_1, f33_2, f33_3, f33_4, f33_5⟩ := S.out.fz6 w3.heap.size 23 #[.int .i64 (pv 0), .int .i64 (pv 1), .int .i64 (pv 2), .int .i64 (pv 3), .int .i64 (pv 4), .int .i64 (pv 5)] (List.mem_cons_of_mem _ (List.mem_cons_of_mem _ List.mem_cons_self))
  obtain ⟨c34_0, c34_1, c34_2, c34_3, c34_4, c34_5, z34⟩ := S.out.six w2.heap.size 23 (.int .i64 (pv 0)) (.int .i64 (pv 1)) (.int .i64 (pv 2)) (.int .i64 (pv 3)) (.int .i64 (pv 4)) (.int .i64 (pv 5)) (List.mem_cons_of_mem _ (List.mem_cons_of_mem _ (List.mem_cons_of_mem _ List.mem_cons_self)))
  obtain ⟨f34_0, f34_1, f34_2, f34_3, f34_4, f34_5⟩ := S.out.fz6 w2.heap.size 23 #[.int .i64 (pv 0), .int .i64 (pv 1), .int .i64 (pv 2), .int .i64 (pv 3), .int .i64 (pv 4), .int .i64 (pv 5)] (List.mem_cons_of_mem _ (List.mem_cons_of_mem _ (List.mem_cons_of_mem _ List.mem_cons_self)))
  go_wp2_with fail
  refine (J1.out _ S.out.gv.pm).mono ?_
  rintro e w12 ⟨rfl, hb⟩
  replace S := Bx.mk (S.out.call hb)
  clear c31_0 c31_1 c31_2 c31_3 c31_4 c31_5 z31 f31_0 f31_1 f31_2 f31_3 f31_4 f31_5 c32_0 c32_1 c32_2 c32_3 c32_4 c32_5 z32 f32_0 f32_1 f32_2 f32_3 f32_4 f32_5 c33_0 c33_1 c33_2 c33_3 c33_4 c33_5 z33 f33_0 f33_1 f33_2 f33_3 f33_4 f33_5 c34_0 c34_1 c34_2 c34_3 c34_4 c34_5 z34 f34_0 f34_1 f34_2 f34_3 f34_4 f34_5
  clear hb
  obtain ⟨c35_0, c35_1, c35_2, c35_3, c35_4, c35_5, z35⟩ := S.out.six w.heap.size 23 (.int .i64 (a 0)) (.int .i64 (a 1)) (.int .i64 (a 2)) (.int .i64 (a 3)) (.int .i64 (a 4)) (.int .i64 (a 5)) (List.mem_cons_of_mem _ (List.mem_cons_of_mem _ (List.mem_cons_of_mem _ (List.mem_cons_of_mem _ (List.mem_cons_of_mem _ (List.mem_cons_of_mem _ List.mem_cons_self))))))
  obtain ⟨f35_0, f35_1, f35_2, f35_3, f35_4, f35_5⟩ := S.out.fz6 w.heap.size 23 #[.int .i64 (a 0), .int .i64 (a 1), .int .i64 (a 2), .int .i64 (a 3), .int .i64 (a 4), .int .i64 (a 5)] (List.mem_cons_of_mem _ (List.mem_cons_of_mem _ (List.mem_cons_of_mem _ (List.mem_cons_of_mem _ (List.mem_cons_of_mem _ (List.mem_cons_of_mem _ List.mem_cons_self))))))
  obtain ⟨c36_0, c36_1, c36_2, c36_3, c36_4, c36_5, z36⟩ := S.out.six (w.heap.size + 1) 23 (.int .i64 (b 0)) (.int .i64 (b 1)) (.int .i64 (b 2)) (.int .i64 (b 3)) (.int .i64 (b 4)) (.int .i64 (b 5)) (List.mem_cons_of_mem _ (List.mem_cons_of_mem _ (List.mem_cons_of_mem _ (List.mem_cons_of_mem _ (List.mem_cons_of_mem _ List.mem_cons_self)))))
  obtain ⟨f36_0, f36_1, f36_2, f36_3, f36_4, f36_5⟩ := S.out.fz6 (w.heap.size + 1) 23 #[.int .i64 (b 0), .int .i64 (b 1), .int .i64 (b 2), .int .i64 (b 3), .int .i64 (b 4), .int .i64 (b 5)] (List.mem_cons_of_mem _ (List.mem_cons_of_mem _ (List.mem_cons_of_mem _ (List.mem_cons_of_mem _ (List.mem_cons_of_mem _ List.mem_cons_self)))))
  go_wp2_with fail
  refine (J2.out _).mono ?_
  rintro e w13 ⟨rfl, hb⟩
  replace S := Bx.mk (S.out.call hb)
  clear c35_0 c35_1 c35_2 c35_3 c35_4 c35_5 z35 f35_0 f35_1 f35_2 f35_3 f35_4 f35_5 c36_0 c36_1 c36_2 c36_3 c36_4 c36_5 z36 f36_0 f36_1 f36_2 f36_3 f36_4 f36_5
  clear hb
  have Qrv := eq6_same 24 Tryz.underlying24 rv
  obtain ⟨c37_0, c37_1, c37_2, c37_3, c37_4, c37_5, z37⟩ := S.out.six w5.heap.size 24 (.int .i64 (hv 0)) (.int .i64 (hv 1)) (.int .i64 (hv 2)) (.int .i64 (hv 3)) (.int .i64 (hv 4)) (.int .i64 (hv 5)) List.mem_cons_self
  obtain ⟨f37_0, f37_1, f37_2, f37_3, f37_4, f37_5⟩ := S.out.fz6 w5.heap.size 24 #[.int .i64 (hv 0), .int .i64 (hv 1), .int .i64 (hv 2), .int .i64 (hv 3), .int .i64 (hv 4), .int .i64 (hv 5)] List.mem_cons_self
  obtain ⟨c38_0, c38_1, c38_2, c38_3, c38_4, c38_5, z38⟩ := S.out.six w4.heap.size 24 (.int .i64 (hv 0)) (.int .i64 (hv 1)) (.int .i64 (hv 2)) (.int .i64 (hv 3)) (.int .i64 (hv 4)) (.int .i64 (hv 5)) (List.mem_cons_of_mem _ List.mem_cons_self)
  obtain ⟨f38_0, f38_1, f38_2, f38_3, f38_4, f38_5⟩ := S.out.fz6 w4.heap.size 24 #[.int .i64 (hv 0), .int .i64 (hv 1), .int .i64 (hv 2), .int .i64 (hv 3), .int .i64 (hv 4), .int .i64 (hv 5)] (List.mem_cons_of_mem _ List.mem_cons_self)
  go_wp2_with fail
  refine (R1.out _ S.out.gv.pm).mono ?_
  rintro e w14 ⟨rfl, hb⟩
  replace S := Bx.mk (S.out.call hb)
  clear c37_0 c37_1 c37_2 c37_3 c37_4 c37_5 z37 f37_0 f37_1 f37_2 f37_3 f37_4 f37_5 c38_0 c38_1 c38_2 c38_3 c38_4 c38_5 z38 f38_0 f38_1 f38_2 f38_3 f38_4 f38_5
  clear hb
  obtain ⟨c39_0, c39_1, c39_2, c39_3, c39_4, c39_5, z39⟩ := S.out.six w4.heap.size 24 (.int .i64 (hv 0)) (.int .i64 (hv 1)) (.int .i64 (hv 2)) (.int .i64 (hv 3)) (.int .i64 (hv 4)) (.int .i64 (hv 5)) (List.mem_cons_of_mem _ List.mem_cons_self)
  obtain ⟨f39_0, f39_1, f39_2, f39_3, f39_4, f39_5⟩ := S.out.fz6 w4.heap.size 24 #[.int .i64 (hv 0), .int .i64 (hv 1), .int .i64 (hv 2), .int .i64 (hv 3), .int .i64 (hv 4), .int .i64 (hv 5)] (List.mem_cons_of_mem _ List.mem_cons_self)
  replace S := Bx.mk (LQ.put6 (L := [(w5.heap.size, 24, #[.int .i64 (hv 0), .int .i64 (hv 1), .int .i64 (hv 2), .int .i64 (hv 3), .int .i64 (hv 4), .int .i64 (hv 5)])]) (M := [(w3.heap.size, 23, #[.int .i64 (pv 0), .int .i64 (pv 1), .int .i64 (pv 2), .int .i64 (pv 3), .int .i64 (pv 4), .int .i64 (pv 5)]), (w2.heap.size, 23, #[.int .i64 (pv 0), .int .i64 (pv 1), .int .i64 (pv 2), .int .i64 (pv 3), .int .i64 (pv 4), .int .i64 (pv 5)]), (w.heap.size + 1 + 1, 24, #[.int .i64 (v 0), .int .i64 (v 1), .int .i64 (v 2), .int .i64 (v 3), .int .i64 (v 4), .int .i64 (v 5)]), (w.heap.size + 1, 23, #[.int .i64 (b 0), .int .i64 (b 1), .int .i64 (b 2), .int .i64 (b 3), .int .i64 (b 4), .int .i64 (b 5)]), (w.heap.size, 23, #[.int .i64 (a 0), .int .i64 (a 1), .int .i64 (a 2), .int .i64 (a 3), .int .i64 (a 4), .int .i64 (a 5)])]) (b := w4.heap.size) (t := 24) S.out (.int .i64 (rv 0)) (.int .i64 (rv 1)) (.int .i64 (rv 2)) (.int .i64 (rv 3)) (.int .i64 (rv 4)) (.int .i64 (rv 5)))
  simp only [List.cons_append, List.nil_append] at S
  go_wp2_with fail
  refine (R2.out _).mono ?_
  rintro e w15 ⟨rfl, hb⟩
  replace S := Bx.mk (S.out.call hb)
  clear c39_0 c39_1 c39_2 c39_3 c39_4 c39_5 z39 f39_0 f39_1 f39_2 f39_3 f39_4 f39_5
  clear hb
  obtain ⟨c40_0, c40_1, c40_2, c40_3, c40_4, c40_5, z40⟩ := S.out.six w5.heap.size 24 (.int .i64 (hv 0)) (.int .i64 (hv 1)) (.int .i64 (hv 2)) (.int .i64 (hv 3)) (.int .i64 (hv 4)) (.int .i64 (hv 5)) List.mem_cons_self
  obtain ⟨f40_0, f40_1, f40_2, f40_3, f40_4, f40_5⟩ := S.out.fz6 w5.heap.size 24 #[.int .i64 (hv 0), .int .i64 (hv 1), .int .i64 (hv 2), .int .i64 (hv 3), .int .i64 (hv 4), .int .i64 (hv 5)] List.mem_cons_self
  replace S := Bx.mk (LQ.put6 (L := []) (M := [(w4.heap.size, 24, #[.int .i64 (rv 0), .int .i64 (rv 1), .int .i64 (rv 2), .int .i64 (rv 3), .int .i64 (rv 4), .int .i64 (rv 5)]), (w3.heap.size, 23, #[.int .i64 (pv 0), .int .i64 (pv 1), .int .i64 (pv 2), .int .i64 (pv 3), .int .i64 (pv 4), .int .i64 (pv 5)]), (w2.heap.size, 23, #[.int .i64 (pv 0), .int .i64 (pv 1), .int .i64 (pv 2), .int .i64 (pv 3), .int .i64 (pv 4), .int .i64 (pv 5)]), (w.heap.size + 1 + 1, 24, #[.int .i64 (v 0), .int .i64 (v 1), .int .i64 (v 2), .int .i64 (v 3), .int .i64 (v 4), .int .i64 (v 5)]), (w.heap.size + 1, 23, #[.int .i64 (b 0), .int .i64 (b 1), .int .i64 (b 2), .int .i64 (b 3), .int .i64 (b 4), .int .i64 (b 5)]), (w.heap.size, 23, #[.int .i64 (a 0), .int .i64 (a 1), .int .i64 (a 2), .int .i64 (a 3), .int .i64 (a 4), .int .i64 (a 5)])]) (b := w5.heap.size) (t := 24) S.out (.int .i64 (rv 0)) (.int .i64 (rv 1)) (.int .i64 (rv 2)) (.int .i64 (rv 3)) (.int .i64 (rv 4)) (.int .i64 (rv 5)))
  simp only [List.nil_append] at S
  obtain ⟨c41_0, c41_1, c41_2, c41_3, c41_4, c41_5, z41⟩ := S.out.six (w.heap.size + 1 + 1) 24 (.int .i64 (v 0)) (.int .i64 (v 1)) (.int .i64 (v 2)) (.int .i64 (v 3)) (.int .i64 (v 4)) (.int .i64 (v 5)) (List.mem_cons_of_mem _ (List.mem_cons_of_mem _ (List.mem_cons_of_mem _ (List.mem_cons_of_mem _ List.mem_cons_self))))
  obtain ⟨f41_0, f41_1, f41_2, f41_3, f41_4, f41_5⟩ := S.out.fz6 (w.heap.size + 1 + 1) 24 #[.int .i64 (v 0), .int .i64 (v 1), .int .i64 (v 2), .int .i64 (v 3), .int .i64 (v 4), .int .i64 (v 5)] (List.mem_cons_of_mem _ (List.mem_cons_of_mem _ (List.mem_cons_of_mem _ (List.mem_cons_of_mem _ List.mem_cons_self))))
  obtain ⟨c42_0, c42_1, c42_2, c42_3, c42_4, c42_5, z42⟩ := S.out.six w5.heap.size 24 (.int .i64 (rv 0)) (.int .i64 (rv 1)) (.int .i64 (rv 2)) (.int .i64 (rv 3)) (.int .i64 (rv 4)) (.int .i64 (rv 5)) List.mem_cons_self
  obtain ⟨f42_0, f42_1, f42_2, f42_3, f42_4, f42_5⟩ := S.out.fz6 w5.heap.size 24 #[.int .i64 (rv 0), .int .i64 (rv 1), .int .i64 (rv 2), .int .i64 (rv 3), .int .i64 (rv 4), .int .i64 (rv 5)] List.mem_cons_self
  obtain ⟨c43_0, c43_1, c43_2, c43_3, c43_4, c43_5, z43⟩ := S.out.six w4.heap.size 24 (.int .i64 (rv 0)) (.int .i64 (rv 1)) (.int .i64 (rv 2)) (.int .i64 (rv 3)) (.int .i64 (rv 4)) (.int .i64 (rv 5)) (List.mem_cons_of_mem _ List.mem_cons_self)
  obtain ⟨f43_0, f43_1, f43_2, f43_3, f43_4, f43_5⟩ := S.out.fz6 w4.heap.size 24 #[.int .i64 (rv 0), .int .i64 (rv 1), .int .i64 (rv 2), .int .i64 (rv 3), .int .i64 (rv 4), .int .i64 (rv 5)] (List.mem_cons_of_mem _ List.mem_cons_self)
  go_wp2_with fail
  refine (F1.out _ S.out.gv.pm).mono ?_
  rintro e w16 ⟨ka, kb, rfl, na, nb, hb⟩
  replace S := Bx.mk (S.out.call hb)
  clear c41_0 c41_1 c41_2 c41_3 c41_4 c41_5 z41 f41_0 f41_1 f41_2 f41_3 f41_4 f41_5 c42_0 c42_1 c42_2 c42_3 c42_4 c42_5 z42 f42_0 f42_1 f42_2 f42_3 f42_4 f42_5 c43_0 c43_1 c43_2 c43_3 c43_4 c43_5 z43 f43_0 f43_1 f43_2 f43_3 f43_4 f43_5
  have NL := Hx.mk (live2 na nb)
  clear hb na nb
  obtain ⟨c44_0, c44_1, c44_2, c44_3, c44_4, c44_5, z44⟩ := S.out.six (w.heap.size + 1 + 1) 24 (.int .i64 (v 0)) (.int .i64 (v 1)) (.int .i64 (v 2)) (.int .i64 (v 3)) (.int .i64 (v 4)) (.int .i64 (v 5)) (List.mem_cons_of_mem _ (List.mem_cons_of_mem _ (List.mem_cons_of_mem _ (List.mem_cons_of_mem _ List.mem_cons_self))))
  obtain ⟨f44_0, f44_1, f44_2, f44_3, f44_4, f44_5⟩ := S.out.fz6 (w.heap.size + 1 + 1) 24 #[.int .i64 (v 0), .int .i64 (v 1), .int .i64 (v 2), .int .i64 (v 3), .int .i64 (v 4), .int .i64 (v 5)] (List.mem_cons_of_mem _ (List.mem_cons_of_mem _ (List.mem_cons_of_mem _ (List.mem_cons_of_mem _ List.mem_cons_self))))
  go_wp2_with fail
  refine (F2.out _).mono ?_
  rintro e w17 ⟨ma, mb, rfl, na, nb, hb⟩
  replace S := Bx.mk (S.out.call hb)
  clear c44_0 c44_1 c44_2 c44_3 c44_4 c44_5 z44 f44_0 f44_1 f44_2 f44_3 f44_4 f44_5
  have NM := Hx.mk (Live.cons na (Live.cons nb (NL.out.keep (Below.mono hb (Nat.le_refl _)))))
  clear hb na nb NL
  go_wp2_with fail
  refine (same_yes (a := fx) (b := fx) NM.out (by simp) (by simp) rfl).mono ?_
  rintro e w18 ⟨rfl, NQ, hb⟩
  replace S := Bx.mk (S.out.call hb)
  clear NM hb
  have NM := Hx.mk NQ
  clear NQ
  go_wp2_with fail
  refine (same_yes (a := fy) (b := fy) NM.out (by simp) (by simp) rfl).mono ?_
  rintro e w19 ⟨rfl, NQ, hb⟩
  replace S := Bx.mk (S.out.call hb)
  clear NM hb NQ
  obtain ⟨c45_0, c45_1, c45_2, c45_3, c45_4, c45_5, z45⟩ := S.out.six w.heap.size 23 (.int .i64 (a 0)) (.int .i64 (a 1)) (.int .i64 (a 2)) (.int .i64 (a 3)) (.int .i64 (a 4)) (.int .i64 (a 5)) (List.mem_cons_of_mem _ (List.mem_cons_of_mem _ (List.mem_cons_of_mem _ (List.mem_cons_of_mem _ (List.mem_cons_of_mem _ (List.mem_cons_of_mem _ List.mem_cons_self))))))
  obtain ⟨f45_0, f45_1, f45_2, f45_3, f45_4, f45_5⟩ := S.out.fz6 w.heap.size 23 #[.int .i64 (a 0), .int .i64 (a 1), .int .i64 (a 2), .int .i64 (a 3), .int .i64 (a 4), .int .i64 (a 5)] (List.mem_cons_of_mem _ (List.mem_cons_of_mem _ (List.mem_cons_of_mem _ (List.mem_cons_of_mem _ (List.mem_cons_of_mem _ (List.mem_cons_of_mem _ List.mem_cons_self))))))
  go_wp2_with fail
  refine (T1.out _ S.out.gv).mono ?_
  rintro e w20 ⟨rfl, hb⟩
  replace S := Bx.mk (S.out.call hb)
  clear c45_0 c45_1 c45_2 c45_3 c45_4 c45_5 z45 f45_0 f45_1 f45_2 f45_3 f45_4 f45_5
  clear hb
  obtain ⟨c46_0, c46_1, c46_2, c46_3, c46_4, c46_5, z46⟩ := S.out.six w.heap.size 23 (.int .i64 (a 0)) (.int .i64 (a 1)) (.int .i64 (a 2)) (.int .i64 (a 3)) (.int .i64 (a 4)) (.int .i64 (a 5)) (List.mem_cons_of_mem _ (List.mem_cons_of_mem _ (List.mem_cons_of_mem _ (List.mem_cons_of_mem _ (List.mem_cons_of_mem _ (List.mem_cons_of_mem _ List.mem_cons_self))))))
  obtain ⟨f46_0, f46_1, f46_2, f46_3, f46_4, f46_5⟩ := S.out.fz6 w.heap.size 23 #[.int .i64 (a 0), .int .i64 (a 1), .int .i64 (a 2), .int .i64 (a 3), .int .i64 (a 4), .int .i64 (a 5)] (List.mem_cons_of_mem _ (List.mem_cons_of_mem _ (List.mem_cons_of_mem _ (List.mem_cons_of_mem _ (List.mem_cons_of_mem _ (List.mem_cons_of_mem _ List.mem_cons_self))))))
  go_wp2_with fail
  refine (T2.out _).mono ?_
  rintro e w21 ⟨rfl, hb⟩
  replace S := Bx.mk (S.out.call hb)
  clear c46_0 c46_1 c46_2 c46_3 c46_4 c46_5 z46 f46_0 f46_1 f46_2 f46_3 f46_4 f46_5
  clear hb
  have hs : 200 < (l.length : Int) := by omega
  clear hlong hlen
  go_wp2_with fail
  go_ret
  exact ⟨rfl, S.out.bl⟩
set_option maxRecDepth 20000 in
set_option maxHeartbeats 16000000 in
theorem pref_short (a b v : Nat → Int) (n d : Int) (l : List UInt8) (w : World) (hl : Gv w) (hlen : l.length ≤ 281474976710656) (hlong : l.length ≤ 200) (vb ib : Bool) (V1 : Hx (∀ w, Calls Tryz.prog 5 #[PV a] w fun e w' => e = .returned (.bool vb) ∧ Below w.heap.size w w')) (V2 : Hx (∀ w, Calls Tryz.prog 6 #[PV a] w fun e w' => e = .returned (.bool vb) ∧ Below w.heap.size w w')) (V3 : Hx (∀ w, Calls Tryz.prog 7 #[PV v] w fun e w' => e = .returned (.bool ib) ∧ Below w.heap.size w w')) (V4 : Hx (∀ w, Calls Tryz.prog 8 #[PV v] w fun e w' => e = .returned (.bool ib) ∧ Below w.heap.size w w')) (ov : Nat → Int) (oc : Int) (O1 : Hx (∀ w, Calls Tryz.prog 9 #[PV v] w (OutV w ov (oc)))) (O2 : Hx (∀ w, Calls Tryz.prog 10 #[PV v] w (OutV w ov (oc)))) (hv : Nat → Int) (hc : Int) (H1 : Hx (∀ w, Calls Tryz.prog 11 #[PV a] w (OutV w hv (hc)))) (H2 : Hx (∀ w, Calls Tryz.prog 12 #[PV a] w (OutV w hv (hc)))) (mv : Nat → Int) (mc : Int) (M1 : Hx (∀ w, Calls Tryz.prog 13 #[PV a, PV b] w (OutV w mv (mc)))) (M2 : Hx (∀ w, Calls Tryz.prog 14 #[PV a, PV b] w (OutV w mv (mc)))) (ev : Nat → Int) (ec : Int) (E1 : Hx (∀ w, Calls Tryz.prog 15 #[PV a, PV b] w (OutV w ev (ec)))) (E2 : Hx (∀ w, Calls Tryz.prog 16 #[PV a, PV b] w (OutV w ev (ec)))) (pv : Nat → Int) (pc : Int) (P1 : Hx (∀ w, Calls Tryz.prog 17 #[PV a, .int .i64 n, .int .i64 d] w (OutV w pv (pc)))) (P2 : Hx (∀ w, Calls Tryz.prog 18 #[PV a, .int .i64 n, .int .i64 d] w (OutV w pv (pc)))) (ji jc : Int) (J1 : Hx (∀ w, Pm w → Calls Tryz.prog 19 #[PV a, PV b] w (OutJ w ji jc))) (J2 : Hx (∀ w, Calls Tryz.prog 20 #[PV a, PV b] w (OutJ w ji jc))) (rv : Nat → Int) (rc : Int) (R1 : Hx (∀ w, Pm w → Calls Tryz.prog 21 #[.int .i64 n, .int .i64 d] w (OutV w rv (rc)))) (R2 : Hx (∀ w, Calls Tryz.prog 22 #[.int .i64 n, .int .i64 d] w (OutV w rv (rc)))) (fx fy : Nat) (fc : Int) (F1 : Hx (∀ w, Pm w → Calls Tryz.prog 23 #[PV v] w (OutFq fx fy fc w))) (F2 : Hx (∀ w, Calls Tryz.prog 24 #[PV v] w (OutFq fx fy fc w))) (ts : ByteArray) (tc : Int) (T1 : Hx (∀ w, Gv w → Calls Tryz.prog 26 #[PV a] w (OutTx w ts tc))) (T2 : Hx (∀ w, Calls Tryz.prog 27 #[PV a] w (OutTx w ts tc))) (qv : Nat → Int) (qc : Int) (Q1 : Hx (∀ w, Gv w → Calls Tryz.prog 28 #[.string (strL l)] w (OutV w qv (qc)))) (Q2 : Hx (∀ w, Calls Tryz.prog 29 #[.string (strL l)] w (OutV w qv (qc)))) :
    Calls Tryz.prog 3 #[PV a, PV b, PV v, .int .i64 n, .int .i64 d, .string (strL l)] w fun e w' => e = .returned (.bool true) ∧ Below w.heap.size w w' := by
  have S : Bx (LQ w w []) := ⟨LQ.start w hl⟩
  replace S := Bx.mk (S.out.push #[.int .i64 (a 0), .int .i64 (a 1), .int .i64 (a 2), .int .i64 (a 3), .int .i64 (a 4), .int .i64 (a 5)] 23)
  replace S := Bx.mk (S.out.push #[.int .i64 (b 0), .int .i64 (b 1), .int .i64 (b 2), .int .i64 (b 3), .int .i64 (b 4), .int .i64 (b 5)] 23)
  replace S := Bx.mk (S.out.push #[.int .i64 (v 0), .int .i64 (v 1), .int .i64 (v 2), .int .i64 (v 3), .int .i64 (v 4), .int .i64 (v 5)] 24)
  simp only [World.size_alloc] at S
  go_enter Tryz.func3, Tryz.ntmps3
  go_wp2_with fail
  refine (head_any _ S.out.gv).mono ?_
  rintro e w1 ⟨rfl, hb⟩
  replace S := Bx.mk (S.out.call hb)
  clear hb
  have HS0 := pref_all S.out
  have HS1 := pref_all S.out.drew
  clear S
  go_wp2_with fail
  go_region_held3 (fun W' => LQ w W' [(w.heap.size + 1 + 1, 24, #[.int .i64 (v 0), .int .i64 (v 1), .int .i64 (v 2), .int .i64 (v 3), .int .i64 (v 4), .int .i64 (v 5)]), (w.heap.size + 1, 23, #[.int .i64 (b 0), .int .i64 (b 1), .int .i64 (b 2), .int .i64 (b 3), .int .i64 (b 4), .int .i64 (b 5)]), (w.heap.size, 23, #[.int .i64 (a 0), .int .i64 (a 1), .int .i64 (a 2), .int .i64 (a 3), .int .i64 (a 4), .int .i64 (a 5)])] ∧ W'.cell? ⟨w.heap.size, 0, none⟩ = some (.int .i64 (a 0)) ∧ W'.cell? ⟨w.heap.size, 1, none⟩ = some (.int .i64 (a 1)) ∧ W'.cell? ⟨w.heap.size, 2, none⟩ = some (.int .i64 (a 2)) ∧ W'.cell? ⟨w.heap.size, 3, none⟩ = some (.int .i64 (a 3)) ∧ W'.cell? ⟨w.heap.size, 4, none⟩ = some (.int .i64 (a 4)) ∧ W'.cell? ⟨w.heap.size, 5, none⟩ = some (.int .i64 (a 5)) ∧ W'.cell? ⟨w.heap.size + 1 + 1, 0, none⟩ = some (.int .i64 (v 0)) ∧ W'.cell? ⟨w.heap.size + 1 + 1, 1, none⟩ = some (.int .i64 (v 1)) ∧ W'.cell? ⟨w.heap.size + 1 + 1, 2, none⟩ = some (.int .i64 (v 2)) ∧ W'.cell? ⟨w.heap.size + 1 + 1, 3, none⟩ = some (.int .i64 (v 3)) ∧ W'.cell? ⟨w.heap.size + 1 + 1, 4, none⟩ = some (.int .i64 (v 4)) ∧ W'.cell? ⟨w.heap.size + 1 + 1, 5, none⟩ = some (.int .i64 (v 5)))
    (first | (with_reducible assumption) | (refine pref_all ?_; with_reducible assumption) | (refine pref_all (LQ.drew ?_); with_reducible assumption))
    (first | (go_at_call 5; refine (V1.out _).mono ?_; rintro e w' ⟨rfl, hb1⟩; have hS' := LQ.call (And.left (by assumption)) hb1) | (go_at_call 6; refine (V2.out _).mono ?_; rintro e w' ⟨rfl, hb1⟩; have hS' := LQ.call (And.left (by assumption)) hb1) | (go_at_call 7; refine (V3.out _).mono ?_; rintro e w' ⟨rfl, hb1⟩; have hS' := LQ.call (And.left (by assumption)) hb1) | (go_at_call 8; refine (V4.out _).mono ?_; rintro e w' ⟨rfl, hb1⟩; have hS' := LQ.call (And.left (by assumption)) hb1))
  have S := Bx.mk hS'
  clear HS0 HS1 hS' hb1
  have Qov := eq6_same 23 Tryz.underlying23 ov
  obtain ⟨c1_0, c1_1, c1_2, c1_3, c1_4, c1_5, z1⟩ := S.out.six (w.heap.size + 1 + 1) 24 (.int .i64 (v 0)) (.int .i64 (v 1)) (.int .i64 (v 2)) (.int .i64 (v 3)) (.int .i64 (v 4)) (.int .i64 (v 5)) List.mem_cons_self
  obtain ⟨f1_0, f1_1, f1_2, f1_3, f1_4, f1_5⟩ := S.out.fz6 (w.heap.size + 1 + 1) 24 #[.int .i64 (v 0), .int .i64 (v 1), .int .i64 (v 2), .int .i64 (v 3), .int .i64 (v 4), .int .i64 (v 5)] List.mem_cons_self
  go_wp2_with fail
  refine (O1.out _).mono ?_
  rintro e w2 ⟨rfl, hb⟩
  replace S := Bx.mk (S.out.call hb)
  clear c1_0 c1_1 c1_2 c1_3 c1_4 c1_5 z1 f1_0 f1_1 f1_2 f1_3 f1_4 f1_5
  clear hb
  replace S := Bx.mk (S.out.push #[.int .i64 (ov 0), .int .i64 (ov 1), .int .i64 (ov 2), .int .i64 (ov 3), .int .i64 (ov 4), .int .i64 (ov 5)] 23)
  obtain ⟨c2_0, c2_1, c2_2, c2_3, c2_4, c2_5, z2⟩ := S.out.six (w.heap.size + 1 + 1) 24 (.int .i64 (v 0)) (.int .i64 (v 1)) (.int .i64 (v 2)) (.int .i64 (v 3)) (.int .i64 (v 4)) (.int .i64 (v 5)) (List.mem_cons_of_mem _ List.mem_cons_self)
  obtain ⟨f2_0, f2_1, f2_2, f2_3, f2_4, f2_5⟩ := S.out.fz6 (w.heap.size + 1 + 1) 24 #[.int .i64 (v 0), .int .i64 (v 1), .int .i64 (v 2), .int .i64 (v 3), .int .i64 (v 4), .int .i64 (v 5)] (List.mem_cons_of_mem _ List.mem_cons_self)
  go_wp2_with fail
  refine (O2.out _).mono ?_
  rintro e w3 ⟨rfl, hb⟩
  replace S := Bx.mk (S.out.call hb)
  clear c2_0 c2_1 c2_2 c2_3 c2_4 c2_5 z2 f2_0 f2_1 f2_2 f2_3 f2_4 f2_5
  clear hb
  replace S := Bx.mk (S.out.push #[.int .i64 (ov 0), .int .i64 (ov 1), .int .i64 (ov 2), .int .i64 (ov 3), .int .i64 (ov 4), .int .i64 (ov 5)] 23)
  obtain ⟨c3_0, c3_1, c3_2, c3_3, c3_4, c3_5, z3⟩ := S.out.six w3.heap.size 23 (.int .i64 (ov 0)) (.int .i64 (ov 1)) (.int .i64 (ov 2)) (.int .i64 (ov 3)) (.int .i64 (ov 4)) (.int .i64 (ov 5)) List.mem_cons_self
  obtain ⟨f3_0, f3_1, f3_2, f3_3, f3_4, f3_5⟩ := S.out.fz6 w3.heap.size 23 #[.int .i64 (ov 0), .int .i64 (ov 1), .int .i64 (ov 2), .int .i64 (ov 3), .int .i64 (ov 4), .int .i64 (ov 5)] List.mem_cons_self
  obtain ⟨c4_0, c4_1, c4_2, c4_3, c4_4, c4_5, z4⟩ := S.out.six w2.heap.size 23 (.int .i64 (ov 0)) (.int .i64 (ov 1)) (.int .i64 (ov 2)) (.int .i64 (ov 3)) (.int .i64 (ov 4)) (.int .i64 (ov 5)) (List.mem_cons_of_mem _ List.mem_cons_self)
  obtain ⟨f4_0, f4_1, f4_2, f4_3, f4_4, f4_5⟩ := S.out.fz6 w2.heap.size 23 #[.int .i64 (ov 0), .int .i64 (ov 1), .int .i64 (ov 2), .int .i64 (ov 3), .int .i64 (ov 4), .int .i64 (ov 5)] (List.mem_cons_of_mem _ List.mem_cons_self)
  have Qhv := eq6_same 24 Tryz.underlying24 hv
  obtain ⟨c5_0, c5_1, c5_2, c5_3, c5_4, c5_5, z5⟩ := S.out.six w.heap.size 23 (.int .i64 (a 0)) (.int .i64 (a 1)) (.int .i64 (a 2)) (.int .i64 (a 3)) (.int .i64 (a 4)) (.int .i64 (a 5)) (List.mem_cons_of_mem _ (List.mem_cons_of_mem _ (List.mem_cons_of_mem _ (List.mem_cons_of_mem _ List.mem_cons_self))))
  obtain ⟨f5_0, f5_1, f5_2, f5_3, f5_4, f5_5⟩ := S.out.fz6 w.heap.size 23 #[.int .i64 (a 0), .int .i64 (a 1), .int .i64 (a 2), .int .i64 (a 3), .int .i64 (a 4), .int .i64 (a 5)] (List.mem_cons_of_mem _ (List.mem_cons_of_mem _ (List.mem_cons_of_mem _ (List.mem_cons_of_mem _ List.mem_cons_self))))
  go_wp2_with fail
  refine (H1.out _).mono ?_
  rintro e w4 ⟨rfl, hb⟩
  replace S := Bx.mk (S.out.call hb)
  clear c5_0 c5_1 c5_2 c5_3 c5_4 c5_5 z5 f5_0 f5_1 f5_2 f5_3 f5_4 f5_5
  clear hb
  replace S := Bx.mk (S.out.push #[.int .i64 (hv 0), .int .i64 (hv 1), .int .i64 (hv 2), .int .i64 (hv 3), .int .i64 (hv 4), .int .i64 (hv 5)] 24)
  obtain ⟨c6_0, c6_1, c6_2, c6_3, c6_4, c6_5, z6⟩ := S.out.six w.heap.size 23 (.int .i64 (a 0)) (.int .i64 (a 1)) (.int .i64 (a 2)) (.int .i64 (a 3)) (.int .i64 (a 4)) (.int .i64 (a 5)) (List.mem_cons_of_mem _ (List.mem_cons_of_mem _ (List.mem_cons_of_mem _ (List.mem_cons_of_mem _ (List.mem_cons_of_mem _ List.mem_cons_self)))))
  obtain ⟨f6_0, f6_1, f6_2, f6_3, f6_4, f6_5⟩ := S.out.fz6 w.heap.size 23 #[.int .i64 (a 0), .int .i64 (a 1), .int .i64 (a 2), .int .i64 (a 3), .int .i64 (a 4), .int .i64 (a 5)] (List.mem_cons_of_mem _ (List.mem_cons_of_mem _ (List.mem_cons_of_mem _ (List.mem_cons_of_mem _ (List.mem_cons_of_mem _ List.mem_cons_self)))))
  go_wp2_with fail
  refine (H2.out _).mono ?_
  rintro e w5 ⟨rfl, hb⟩
  replace S := Bx.mk (S.out.call hb)
  clear c6_0 c6_1 c6_2 c6_3 c6_4 c6_5 z6 f6_0 f6_1 f6_2 f6_3 f6_4 f6_5
  clear hb
  replace S := Bx.mk (S.out.push #[.int .i64 (hv 0), .int .i64 (hv 1), .int .i64 (hv 2), .int .i64 (hv 3), .int .i64 (hv 4), .int .i64 (hv 5)] 24)
  obtain ⟨c7_0, c7_1, c7_2, c7_3, c7_4, c7_5, z7⟩ := S.out.six w5.heap.size 24 (.int .i64 (hv 0)) (.int .i64 (hv 1)) (.int .i64 (hv 2)) (.int .i64 (hv 3)) (.int .i64 (hv 4)) (.int .i64 (hv 5)) List.mem_cons_self
  obtain ⟨f7_0, f7_1, f7_2, f7_3, f7_4, f7_5⟩ := S.out.fz6 w5.heap.size 24 #[.int .i64 (hv 0), .int .i64 (hv 1), .int .i64 (hv 2), .int .i64 (hv 3), .int .i64 (hv 4), .int .i64 (hv 5)] List.mem_cons_self
  obtain ⟨c8_0, c8_1, c8_2, c8_3, c8_4, c8_5, z8⟩ := S.out.six w4.heap.size 24 (.int .i64 (hv 0)) (.int .i64 (hv 1)) (.int .i64 (hv 2)) (.int .i64 (hv 3)) (.int .i64 (hv 4)) (.int .i64 (hv 5)) (List.mem_cons_of_mem _ List.mem_cons_self)
  obtain ⟨f8_0, f8_1, f8_2, f8_3, f8_4, f8_5⟩ := S.out.fz6 w4.heap.size 24 #[.int .i64 (hv 0), .int .i64 (hv 1), .int .i64 (hv 2), .int .i64 (hv 3), .int .i64 (hv 4), .int .i64 (hv 5)] (List.mem_cons_of_mem _ List.mem_cons_self)
  have Qmv := eq6_same 23 Tryz.underlying23 mv
  obtain ⟨c9_0, c9_1, c9_2, c9_3, c9_4, c9_5, z9⟩ := S.out.six w3.heap.size 23 (.int .i64 (ov 0)) (.int .i64 (ov 1)) (.int .i64 (ov 2)) (.int .i64 (ov 3)) (.int .i64 (ov 4)) (.int .i64 (ov 5)) (List.mem_cons_of_mem _ (List.mem_cons_of_mem _ List.mem_cons_self))
  obtain ⟨f9_0, f9_1, f9_2, f9_3, f9_4, f9_5⟩ := S.out.fz6 w3.heap.size 23 #[.int .i64 (ov 0), .int .i64 (ov 1), .int .i64 (ov 2), .int .i64 (ov 3), .int .i64 (ov 4), .int .i64 (ov 5)] (List.mem_cons_of_mem _ (List.mem_cons_of_mem _ List.mem_cons_self))
  obtain ⟨c10_0, c10_1, c10_2, c10_3, c10_4, c10_5, z10⟩ := S.out.six w2.heap.size 23 (.int .i64 (ov 0)) (.int .i64 (ov 1)) (.int .i64 (ov 2)) (.int .i64 (ov 3)) (.int .i64 (ov 4)) (.int .i64 (ov 5)) (List.mem_cons_of_mem _ (List.mem_cons_of_mem _ (List.mem_cons_of_mem _ List.mem_cons_self)))
  obtain ⟨f10_0, f10_1, f10_2, f10_3, f10_4, f10_5⟩ := S.out.fz6 w2.heap.size 23 #[.int .i64 (ov 0), .int .i64 (ov 1), .int .i64 (ov 2), .int .i64 (ov 3), .int .i64 (ov 4), .int .i64 (ov 5)] (List.mem_cons_of_mem _ (List.mem_cons_of_mem _ (List.mem_cons_of_mem _ List.mem_cons_self)))
  obtain ⟨c11_0, c11_1, c11_2, c11_3, c11_4, c11_5, z11⟩ := S.out.six w.heap.size 23 (.int .i64 (a 0)) (.int .i64 (a 1)) (.int .i64 (a 2)) (.int .i64 (a 3)) (.int .i64 (a 4)) (.int .i64 (a 5)) (List.mem_cons_of_mem _ (List.mem_cons_of_mem _ (List.mem_cons_of_mem _ (List.mem_cons_of_mem _ (List.mem_cons_of_mem _ (List.mem_cons_of_mem _ List.mem_cons_self))))))
  obtain ⟨f11_0, f11_1, f11_2, f11_3, f11_4, f11_5⟩ := S.out.fz6 w.heap.size 23 #[.int .i64 (a 0), .int .i64 (a 1), .int .i64 (a 2), .int .i64 (a 3), .int .i64 (a 4), .int .i64 (a 5)] (List.mem_cons_of_mem _ (List.mem_cons_of_mem _ (List.mem_cons_of_mem _ (List.mem_cons_of_mem _ (List.mem_cons_of_mem _ (List.mem_cons_of_mem _ List.mem_cons_self))))))
  obtain ⟨c12_0, c12_1, c12_2, c12_3, c12_4, c12_5, z12⟩ := S.out.six (w.heap.size + 1) 23 (.int .i64 (b 0)) (.int .i64 (b 1)) (.int .i64 (b 2)) (.int .i64 (b 3)) (.int .i64 (b 4)) (.int .i64 (b 5)) (List.mem_cons_of_mem _ (List.mem_cons_of_mem _ (List.mem_cons_of_mem _ (List.mem_cons_of_mem _ (List.mem_cons_of_mem _ List.mem_cons_self)))))
  obtain ⟨f12_0, f12_1, f12_2, f12_3, f12_4, f12_5⟩ := S.out.fz6 (w.heap.size + 1) 23 #[.int .i64 (b 0), .int .i64 (b 1), .int .i64 (b 2), .int .i64 (b 3), .int .i64 (b 4), .int .i64 (b 5)] (List.mem_cons_of_mem _ (List.mem_cons_of_mem _ (List.mem_cons_of_mem _ (List.mem_cons_of_mem _ (List.mem_cons_of_mem _ List.mem_cons_self)))))
  go_wp2_with fail
  refine (M1.out _).mono ?_
  rintro e w6 ⟨rfl, hb⟩
  replace S := Bx.mk (S.out.call hb)
  clear c9_0 c9_1 c9_2 c9_3 c9_4 c9_5 z9 f9_0 f9_1 f9_2 f9_3 f9_4 f9_5 c10_0 c10_1 c10_2 c10_3 c10_4 c10_5 z10 f10_0 f10_1 f10_2 f10_3 f10_4 f10_5 c11_0 c11_1 c11_2 c11_3 c11_4 c11_5 z11 f11_0 f11_1 f11_2 f11_3 f11_4 f11_5 c12_0 c12_1 c12_2 c12_3 c12_4 c12_5 z12 f12_0 f12_1 f12_2 f12_3 f12_4 f12_5
  clear hb
  obtain ⟨c13_0, c13_1, c13_2, c13_3, c13_4, c13_5, z13⟩ := S.out.six w2.heap.size 23 (.int .i64 (ov 0)) (.int .i64 (ov 1)) (.int .i64 (ov 2)) (.int .i64 (ov 3)) (.int .i64 (ov 4)) (.int .i64 (ov 5)) (List.mem_cons_of_mem _ (List.mem_cons_of_mem _ (List.mem_cons_of_mem _ List.mem_cons_self)))
  obtain ⟨f13_0, f13_1, f13_2, f13_3, f13_4, f13_5⟩ := S.out.fz6 w2.heap.size 23 #[.int .i64 (ov 0), .int .i64 (ov 1), .int .i64 (ov 2), .int .i64 (ov 3), .int .i64 (ov 4), .int .i64 (ov 5)] (List.mem_cons_of_mem _ (List.mem_cons_of_mem _ (List.mem_cons_of_mem _ List.mem_cons_self)))
  replace S := Bx.mk (LQ.put6 (L := [(w5.heap.size, 24, #[.int .i64 (hv 0), .int .i64 (hv 1), .int .i64 (hv 2), .int .i64 (hv 3), .int .i64 (hv 4), .int .i64 (hv 5)]), (w4.heap.size, 24, #[.int .i64 (hv 0), .int .i64 (hv 1), .int .i64 (hv 2), .int .i64 (hv 3), .int .i64 (hv 4), .int .i64 (hv 5)]), (w3.heap.size, 23, #[.int .i64 (ov 0), .int .i64 (ov 1), .int .i64 (ov 2), .int .i64 (ov 3), .int .i64 (ov 4), .int .i64 (ov 5)])]) (M := [(w.heap.size + 1 + 1, 24, #[.int .i64 (v 0), .int .i64 (v 1), .int .i64 (v 2), .int .i64 (v 3), .int .i64 (v 4), .int .i64 (v 5)]), (w.heap.size + 1, 23, #[.int .i64 (b 0), .int .i64 (b 1), .int .i64 (b 2), .int .i64 (b 3), .int .i64 (b 4), .int .i64 (b 5)]), (w.heap.size, 23, #[.int .i64 (a 0), .int .i64 (a 1), .int .i64 (a 2), .int .i64 (a 3), .int .i64 (a 4), .int .i64 (a 5)])]) (b := w2.heap.size) (t := 23) S.out (.int .i64 (mv 0)) (.int .i64 (mv 1)) (.int .i64 (mv 2)) (.int .i64 (mv 3)) (.int .i64 (mv 4)) (.int .i64 (mv 5)))
  simp only [List.cons_append, List.nil_append] at S
  obtain ⟨c14_0, c14_1, c14_2, c14_3, c14_4, c14_5, z14⟩ := S.out.six w.heap.size 23 (.int .i64 (a 0)) (.int .i64 (a 1)) (.int .i64 (a 2)) (.int .i64 (a 3)) (.int .i64 (a 4)) (.int .i64 (a 5)) (List.mem_cons_of_mem _ (List.mem_cons_of_mem _ (List.mem_cons_of_mem _ (List.mem_cons_of_mem _ (List.mem_cons_of_mem _ (List.mem_cons_of_mem _ List.mem_cons_self))))))
  obtain ⟨f14_0, f14_1, f14_2, f14_3, f14_4, f14_5⟩ := S.out.fz6 w.heap.size 23 #[.int .i64 (a 0), .int .i64 (a 1), .int .i64 (a 2), .int .i64 (a 3), .int .i64 (a 4), .int .i64 (a 5)] (List.mem_cons_of_mem _ (List.mem_cons_of_mem _ (List.mem_cons_of_mem _ (List.mem_cons_of_mem _ (List.mem_cons_of_mem _ (List.mem_cons_of_mem _ List.mem_cons_self))))))
  obtain ⟨c15_0, c15_1, c15_2, c15_3, c15_4, c15_5, z15⟩ := S.out.six (w.heap.size + 1) 23 (.int .i64 (b 0)) (.int .i64 (b 1)) (.int .i64 (b 2)) (.int .i64 (b 3)) (.int .i64 (b 4)) (.int .i64 (b 5)) (List.mem_cons_of_mem _ (List.mem_cons_of_mem _ (List.mem_cons_of_mem _ (List.mem_cons_of_mem _ (List.mem_cons_of_mem _ List.mem_cons_self)))))
  obtain ⟨f15_0, f15_1, f15_2, f15_3, f15_4, f15_5⟩ := S.out.fz6 (w.heap.size + 1) 23 #[.int .i64 (b 0), .int .i64 (b 1), .int .i64 (b 2), .int .i64 (b 3), .int .i64 (b 4), .int .i64 (b 5)] (List.mem_cons_of_mem _ (List.mem_cons_of_mem _ (List.mem_cons_of_mem _ (List.mem_cons_of_mem _ (List.mem_cons_of_mem _ List.mem_cons_self)))))
  go_wp2_with fail
  refine (M2.out _).mono ?_
  rintro e w7 ⟨rfl, hb⟩
  replace S := Bx.mk (S.out.call hb)
  clear c13_0 c13_1 c13_2 c13_3 c13_4 c13_5 z13 f13_0 f13_1 f13_2 f13_3 f13_4 f13_5 c14_0 c14_1 c14_2 c14_3 c14_4 c14_5 z14 f14_0 f14_1 f14_2 f14_3 f14_4 f14_5 c15_0 c15_1 c15_2 c15_3 c15_4 c15_5 z15 f15_0 f15_1 f15_2 f15_3 f15_4 f15_5
  clear hb
  obtain ⟨c16_0, c16_1, c16_2, c16_3, c16_4, c16_5, z16⟩ := S.out.six w3.heap.size 23 (.int .i64 (ov 0)) (.int .i64 (ov 1)) (.int .i64 (ov 2)) (.int .i64 (ov 3)) (.int .i64 (ov 4)) (.int .i64 (ov 5)) (List.mem_cons_of_mem _ (List.mem_cons_of_mem _ List.mem_cons_self))
  obtain ⟨f16_0, f16_1, f16_2, f16_3, f16_4, f16_5⟩ := S.out.fz6 w3.heap.size 23 #[.int .i64 (ov 0), .int .i64 (ov 1), .int .i64 (ov 2), .int .i64 (ov 3), .int .i64 (ov 4), .int .i64 (ov 5)] (List.mem_cons_of_mem _ (List.mem_cons_of_mem _ List.mem_cons_self))
  replace S := Bx.mk (LQ.put6 (L := [(w5.heap.size, 24, #[.int .i64 (hv 0), .int .i64 (hv 1), .int .i64 (hv 2), .int .i64 (hv 3), .int .i64 (hv 4), .int .i64 (hv 5)]), (w4.heap.size, 24, #[.int .i64 (hv 0), .int .i64 (hv 1), .int .i64 (hv 2), .int .i64 (hv 3), .int .i64 (hv 4), .int .i64 (hv 5)])]) (M := [(w2.heap.size, 23, #[.int .i64 (mv 0), .int .i64 (mv 1), .int .i64 (mv 2), .int .i64 (mv 3), .int .i64 (mv 4), .int .i64 (mv 5)]), (w.heap.size + 1 + 1, 24, #[.int .i64 (v 0), .int .i64 (v 1), .int .i64 (v 2), .int .i64 (v 3), .int .i64 (v 4), .int .i64 (v 5)]), (w.heap.size + 1, 23, #[.int .i64 (b 0), .int .i64 (b 1), .int .i64 (b 2), .int .i64 (b 3), .int .i64 (b 4), .int .i64 (b 5)]), (w.heap.size, 23, #[.int .i64 (a 0), .int .i64 (a 1), .int .i64 (a 2), .int .i64 (a 3), .int .i64 (a 4), .int .i64 (a 5)])]) (b := w3.heap.size) (t := 23) S.out (.int .i64 (mv 0)) (.int .i64 (mv 1)) (.int .i64 (mv 2)) (.int .i64 (mv 3)) (.int .i64 (mv 4)) (.int .i64 (mv 5)))
  simp only [List.cons_append, List.nil_append] at S
  have Qev := eq6_same 23 Tryz.underlying23 ev
  obtain ⟨c17_0, c17_1, c17_2, c17_3, c17_4, c17_5, z17⟩ := S.out.six w3.heap.size 23 (.int .i64 (mv 0)) (.int .i64 (mv 1)) (.int .i64 (mv 2)) (.int .i64 (mv 3)) (.int .i64 (mv 4)) (.int .i64 (mv 5)) (List.mem_cons_of_mem _ (List.mem_cons_of_mem _ List.mem_cons_self))
  obtain ⟨f17_0, f17_1, f17_2, f17_3, f17_4, f17_5⟩ := S.out.fz6 w3.heap.size 23 #[.int .i64 (mv 0), .int .i64 (mv 1), .int .i64 (mv 2), .int .i64 (mv 3), .int .i64 (mv 4), .int .i64 (mv 5)] (List.mem_cons_of_mem _ (List.mem_cons_of_mem _ List.mem_cons_self))
  obtain ⟨c18_0, c18_1, c18_2, c18_3, c18_4, c18_5, z18⟩ := S.out.six w2.heap.size 23 (.int .i64 (mv 0)) (.int .i64 (mv 1)) (.int .i64 (mv 2)) (.int .i64 (mv 3)) (.int .i64 (mv 4)) (.int .i64 (mv 5)) (List.mem_cons_of_mem _ (List.mem_cons_of_mem _ (List.mem_cons_of_mem _ List.mem_cons_self)))
  obtain ⟨f18_0, f18_1, f18_2, f18_3, f18_4, f18_5⟩ := S.out.fz6 w2.heap.size 23 #[.int .i64 (mv 0), .int .i64 (mv 1), .int .i64 (mv 2), .int .i64 (mv 3), .int .i64 (mv 4), .int .i64 (mv 5)] (List.mem_cons_of_mem _ (List.mem_cons_of_mem _ (List.mem_cons_of_mem _ List.mem_cons_self)))
  obtain ⟨c19_0, c19_1, c19_2, c19_3, c19_4, c19_5, z19⟩ := S.out.six w.heap.size 23 (.int .i64 (a 0)) (.int .i64 (a 1)) (.int .i64 (a 2)) (.int .i64 (a 3)) (.int .i64 (a 4)) (.int .i64 (a 5)) (List.mem_cons_of_mem _ (List.mem_cons_of_mem _ (List.mem_cons_of_mem _ (List.mem_cons_of_mem _ (List.mem_cons_of_mem _ (List.mem_cons_of_mem _ List.mem_cons_self))))))
  obtain ⟨f19_0, f19_1, f19_2, f19_3, f19_4, f19_5⟩ := S.out.fz6 w.heap.size 23 #[.int .i64 (a 0), .int .i64 (a 1), .int .i64 (a 2), .int .i64 (a 3), .int .i64 (a 4), .int .i64 (a 5)] (List.mem_cons_of_mem _ (List.mem_cons_of_mem _ (List.mem_cons_of_mem _ (List.mem_cons_of_mem _ (List.mem_cons_of_mem _ (List.mem_cons_of_mem _ List.mem_cons_self))))))
  obtain ⟨c20_0, c20_1, c20_2, c20_3, c20_4, c20_5, z20⟩ := S.out.six (w.heap.size + 1) 23 (.int .i64 (b 0)) (.int .i64 (b 1)) (.int .i64 (b 2)) (.int .i64 (b 3)) (.int .i64 (b 4)) (.int .i64 (b 5)) (List.mem_cons_of_mem _ (List.mem_cons_of_mem _ (List.mem_cons_of_mem _ (List.mem_cons_of_mem _ (List.mem_cons_of_mem _ List.mem_cons_self)))))
  obtain ⟨f20_0, f20_1, f20_2, f20_3, f20_4, f20_5⟩ := S.out.fz6 (w.heap.size + 1) 23 #[.int .i64 (b 0), .int .i64 (b 1), .int .i64 (b 2), .int .i64 (b 3), .int .i64 (b 4), .int .i64 (b 5)] (List.mem_cons_of_mem _ (List.mem_cons_of_mem _ (List.mem_cons_of_mem _ (List.mem_cons_of_mem _ (List.mem_cons_of_mem _ List.mem_cons_self)))))
  go_wp2_with fail
  refine (E1.out _).mono ?_
  rintro e w8 ⟨rfl, hb⟩
  replace S := Bx.mk (S.out.call hb)
  clear c17_0 c17_1 c17_2 c17_3 c17_4 c17_5 z17 f17_0 f17_1 f17_2 f17_3 f17_4 f17_5 c18_0 c18_1 c18_2 c18_3 c18_4 c18_5 z18 f18_0 f18_1 f18_2 f18_3 f18_4 f18_5 c19_0 c19_1 c19_2 c19_3 c19_4 c19_5 z19 f19_0 f19_1 f19_2 f19_3 f19_4 f19_5 c20_0 c20_1 c20_2 c20_3 c20_4 c20_5 z20 f20_0 f20_1 f20_2 f20_3 f20_4 f20_5
  clear hb
  obtain ⟨c21_0, c21_1, c21_2, c21_3, c21_4, c21_5, z21⟩ := S.out.six w2.heap.size 23 (.int .i64 (mv 0)) (.int .i64 (mv 1)) (.int .i64 (mv 2)) (.int .i64 (mv 3)) (.int .i64 (mv 4)) (.int .i64 (mv 5)) (List.mem_cons_of_mem _ (List.mem_cons_of_mem _ (List.mem_cons_of_mem _ List.mem_cons_self)))
  obtain ⟨f21_0, f21_1, f21_2, f21_3, f21_4, f21_5⟩ := S.out.fz6 w2.heap.size 23 #[.int .i64 (mv 0), .int .i64 (mv 1), .int .i64 (mv 2), .int .i64 (mv 3), .int .i64 (mv 4), .int .i64 (mv 5)] (List.mem_cons_of_mem _ (List.mem_cons_of_mem _ (List.mem_cons_of_mem _ List.mem_cons_self)))
  replace S := Bx.mk (LQ.put6 (L := [(w5.heap.size, 24, #[.int .i64 (hv 0), .int .i64 (hv 1), .int .i64 (hv 2), .int .i64 (hv 3), .int .i64 (hv 4), .int .i64 (hv 5)]), (w4.heap.size, 24, #[.int .i64 (hv 0), .int .i64 (hv 1), .int .i64 (hv 2), .int .i64 (hv 3), .int .i64 (hv 4), .int .i64 (hv 5)]), (w3.heap.size, 23, #[.int .i64 (mv 0), .int .i64 (mv 1), .int .i64 (mv 2), .int .i64 (mv 3), .int .i64 (mv 4), .int .i64 (mv 5)])]) (M := [(w.heap.size + 1 + 1, 24, #[.int .i64 (v 0), .int .i64 (v 1), .int .i64 (v 2), .int .i64 (v 3), .int .i64 (v 4), .int .i64 (v 5)]), (w.heap.size + 1, 23, #[.int .i64 (b 0), .int .i64 (b 1), .int .i64 (b 2), .int .i64 (b 3), .int .i64 (b 4), .int .i64 (b 5)]), (w.heap.size, 23, #[.int .i64 (a 0), .int .i64 (a 1), .int .i64 (a 2), .int .i64 (a 3), .int .i64 (a 4), .int .i64 (a 5)])]) (b := w2.heap.size) (t := 23) S.out (.int .i64 (ev 0)) (.int .i64 (ev 1)) (.int .i64 (ev 2)) (.int .i64 (ev 3)) (.int .i64 (ev 4)) (.int .i64 (ev 5)))
  simp only [List.cons_append, List.nil_append] at S
  obtain ⟨c22_0, c22_1, c22_2, c22_3, c22_4, c22_5, z22⟩ := S.out.six w.heap.size 23 (.int .i64 (a 0)) (.int .i64 (a 1)) (.int .i64 (a 2)) (.int .i64 (a 3)) (.int .i64 (a 4)) (.int .i64 (a 5)) (List.mem_cons_of_mem _ (List.mem_cons_of_mem _ (List.mem_cons_of_mem _ (List.mem_cons_of_mem _ (List.mem_cons_of_mem _ (List.mem_cons_of_mem _ List.mem_cons_self))))))
  obtain ⟨f22_0, f22_1, f22_2, f22_3, f22_4, f22_5⟩ := S.out.fz6 w.heap.size 23 #[.int .i64 (a 0), .int .i64 (a 1), .int .i64 (a 2), .int .i64 (a 3), .int .i64 (a 4), .int .i64 (a 5)] (List.mem_cons_of_mem _ (List.mem_cons_of_mem _ (List.mem_cons_of_mem _ (List.mem_cons_of_mem _ (List.mem_cons_of_mem _ (List.mem_cons_of_mem _ List.mem_cons_self))))))
  obtain ⟨c23_0, c23_1, c23_2, c23_3, c23_4, c23_5, z23⟩ := S.out.six (w.heap.size + 1) 23 (.int .i64 (b 0)) (.int .i64 (b 1)) (.int .i64 (b 2)) (.int .i64 (b 3)) (.int .i64 (b 4)) (.int .i64 (b 5)) (List.mem_cons_of_mem _ (List.mem_cons_of_mem _ (List.mem_cons_of_mem _ (List.mem_cons_of_mem _ (List.mem_cons_of_mem _ List.mem_cons_self)))))
  obtain ⟨f23_0, f23_1, f23_2, f23_3, f23_4, f23_5⟩ := S.out.fz6 (w.heap.size + 1) 23 #[.int .i64 (b 0), .int .i64 (b 1), .int .i64 (b 2), .int .i64 (b 3), .int .i64 (b 4), .int .i64 (b 5)] (List.mem_cons_of_mem _ (List.mem_cons_of_mem _ (List.mem_cons_of_mem _ (List.mem_cons_of_mem _ (List.mem_cons_of_mem _ List.mem_cons_self)))))
  go_wp2_with fail
  refine (E2.out _).mono ?_
  rintro e w9 ⟨rfl, hb⟩
  replace S := Bx.mk (S.out.call hb)
  clear c21_0 c21_1 c21_2 c21_3 c21_4 c21_5 z21 f21_0 f21_1 f21_2 f21_3 f21_4 f21_5 c22_0 c22_1 c22_2 c22_3 c22_4 c22_5 z22 f22_0 f22_1 f22_2 f22_3 f22_4 f22_5 c23_0 c23_1 c23_2 c23_3 c23_4 c23_5 z23 f23_0 f23_1 f23_2 f23_3 f23_4 f23_5
  clear hb
  obtain ⟨c24_0, c24_1, c24_2, c24_3, c24_4, c24_5, z24⟩ := S.out.six w3.heap.size 23 (.int .i64 (mv 0)) (.int .i64 (mv 1)) (.int .i64 (mv 2)) (.int .i64 (mv 3)) (.int .i64 (mv 4)) (.int .i64 (mv 5)) (List.mem_cons_of_mem _ (List.mem_cons_of_mem _ List.mem_cons_self))
  obtain ⟨f24_0, f24_1, f24_2, f24_3, f24_4, f24_5⟩ := S.out.fz6 w3.heap.size 23 #[.int .i64 (mv 0), .int .i64 (mv 1), .int .i64 (mv 2), .int .i64 (mv 3), .int .i64 (mv 4), .int .i64 (mv 5)] (List.mem_cons_of_mem _ (List.mem_cons_of_mem _ List.mem_cons_self))
  replace S := Bx.mk (LQ.put6 (L := [(w5.heap.size, 24, #[.int .i64 (hv 0), .int .i64 (hv 1), .int .i64 (hv 2), .int .i64 (hv 3), .int .i64 (hv 4), .int .i64 (hv 5)]), (w4.heap.size, 24, #[.int .i64 (hv 0), .int .i64 (hv 1), .int .i64 (hv 2), .int .i64 (hv 3), .int .i64 (hv 4), .int .i64 (hv 5)])]) (M := [(w2.heap.size, 23, #[.int .i64 (ev 0), .int .i64 (ev 1), .int .i64 (ev 2), .int .i64 (ev 3), .int .i64 (ev 4), .int .i64 (ev 5)]), (w.heap.size + 1 + 1, 24, #[.int .i64 (v 0), .int .i64 (v 1), .int .i64 (v 2), .int .i64 (v 3), .int .i64 (v 4), .int .i64 (v 5)]), (w.heap.size + 1, 23, #[.int .i64 (b 0), .int .i64 (b 1), .int .i64 (b 2), .int .i64 (b 3), .int .i64 (b 4), .int .i64 (b 5)]), (w.heap.size, 23, #[.int .i64 (a 0), .int .i64 (a 1), .int .i64 (a 2), .int .i64 (a 3), .int .i64 (a 4), .int .i64 (a 5)])]) (b := w3.heap.size) (t := 23) S.out (.int .i64 (ev 0)) (.int .i64 (ev 1)) (.int .i64 (ev 2)) (.int .i64 (ev 3)) (.int .i64 (ev 4)) (.int .i64 (ev 5)))
  simp only [List.cons_append, List.nil_append] at S
  have Qpv := eq6_same 23 Tryz.underlying23 pv
  obtain ⟨c25_0, c25_1, c25_2, c25_3, c25_4, c25_5, z25⟩ := S.out.six w3.heap.size 23 (.int .i64 (ev 0)) (.int .i64 (ev 1)) (.int .i64 (ev 2)) (.int .i64 (ev 3)) (.int .i64 (ev 4)) (.int .i64 (ev 5)) (List.mem_cons_of_mem _ (List.mem_cons_of_mem _ List.mem_cons_self))
  obtain ⟨f25_0, f25_1, f25_2, f25_3, f25_4, f25_5⟩ := S.out.fz6 w3.heap.size 23 #[.int .i64 (ev 0), .int .i64 (ev 1), .int .i64 (ev 2), .int .i64 (ev 3), .int .i64 (ev 4), .int .i64 (ev 5)] (List.mem_cons_of_mem _ (List.mem_cons_of_mem _ List.mem_cons_self))
  obtain ⟨c26_0, c26_1, c26_2, c26_3, c26_4, c26_5, z26⟩ := S.out.six w2.heap.size 23 (.int .i64 (ev 0)) (.int .i64 (ev 1)) (.int .i64 (ev 2)) (.int .i64 (ev 3)) (.int .i64 (ev 4)) (.int .i64 (ev 5)) (List.mem_cons_of_mem _ (List.mem_cons_of_mem _ (List.mem_cons_of_mem _ List.mem_cons_self)))
  obtain ⟨f26_0, f26_1, f26_2, f26_3, f26_4, f26_5⟩ := S.out.fz6 w2.heap.size 23 #[.int .i64 (ev 0), .int .i64 (ev 1), .int .i64 (ev 2), .int .i64 (ev 3), .int .i64 (ev 4), .int .i64 (ev 5)] (List.mem_cons_of_mem _ (List.mem_cons_of_mem _ (List.mem_cons_of_mem _ List.mem_cons_self)))
  obtain ⟨c27_0, c27_1, c27_2, c27_3, c27_4, c27_5, z27⟩ := S.out.six w.heap.size 23 (.int .i64 (a 0)) (.int .i64 (a 1)) (.int .i64 (a 2)) (.int .i64 (a 3)) (.int .i64 (a 4)) (.int .i64 (a 5)) (List.mem_cons_of_mem _ (List.mem_cons_of_mem _ (List.mem_cons_of_mem _ (List.mem_cons_of_mem _ (List.mem_cons_of_mem _ (List.mem_cons_of_mem _ List.mem_cons_self))))))
  obtain ⟨f27_0, f27_1, f27_2, f27_3, f27_4, f27_5⟩ := S.out.fz6 w.heap.size 23 #[.int .i64 (a 0), .int .i64 (a 1), .int .i64 (a 2), .int .i64 (a 3), .int .i64 (a 4), .int .i64 (a 5)] (List.mem_cons_of_mem _ (List.mem_cons_of_mem _ (List.mem_cons_of_mem _ (List.mem_cons_of_mem _ (List.mem_cons_of_mem _ (List.mem_cons_of_mem _ List.mem_cons_self))))))
  go_wp2_with fail
  refine (P1.out _).mono ?_
  rintro e w10 ⟨rfl, hb⟩
  replace S := Bx.mk (S.out.call hb)
  clear c25_0 c25_1 c25_2 c25_3 c25_4 c25_5 z25 f25_0 f25_1 f25_2 f25_3 f25_4 f25_5 c26_0 c26_1 c26_2 c26_3 c26_4 c26_5 z26 f26_0 f26_1 f26_2 f26_3 f26_4 f26_5 c27_0 c27_1 c27_2 c27_3 c27_4 c27_5 z27 f27_0 f27_1 f27_2 f27_3 f27_4 f27_5
  clear hb
  obtain ⟨c28_0, c28_1, c28_2, c28_3, c28_4, c28_5, z28⟩ := S.out.six w2.heap.size 23 (.int .i64 (ev 0)) (.int .i64 (ev 1)) (.int .i64 (ev 2)) (.int .i64 (ev 3)) (.int .i64 (ev 4)) (.int .i64 (ev 5)) (List.mem_cons_of_mem _ (List.mem_cons_of_mem _ (List.mem_cons_of_mem _ List.mem_cons_self)))
  obtain ⟨f28_0, f28_1, f28_2, f28_3, f28_4, f28_5⟩ := S.out.fz6 w2.heap.size 23 #[.int .i64 (ev 0), .int .i64 (ev 1), .int .i64 (ev 2), .int .i64 (ev 3), .int .i64 (ev 4), .int .i64 (ev 5)] (List.mem_cons_of_mem _ (List.mem_cons_of_mem _ (List.mem_cons_of_mem _ List.mem_cons_self)))
  replace S := Bx.mk (LQ.put6 (L := [(w5.heap.size, 24, #[.int .i64 (hv 0), .int .i64 (hv 1), .int .i64 (hv 2), .int .i64 (hv 3), .int .i64 (hv 4), .int .i64 (hv 5)]), (w4.heap.size, 24, #[.int .i64 (hv 0), .int .i64 (hv 1), .int .i64 (hv 2), .int .i64 (hv 3), .int .i64 (hv 4), .int .i64 (hv 5)]), (w3.heap.size, 23, #[.int .i64 (ev 0), .int .i64 (ev 1), .int .i64 (ev 2), .int .i64 (ev 3), .int .i64 (ev 4), .int .i64 (ev 5)])]) (M := [(w.heap.size + 1 + 1, 24, #[.int .i64 (v 0), .int .i64 (v 1), .int .i64 (v 2), .int .i64 (v 3), .int .i64 (v 4), .int .i64 (v 5)]), (w.heap.size + 1, 23, #[.int .i64 (b 0), .int .i64 (b 1), .int .i64 (b 2), .int .i64 (b 3), .int .i64 (b 4), .int .i64 (b 5)]), (w.heap.size, 23, #[.int .i64 (a 0), .int .i64 (a 1), .int .i64 (a 2), .int .i64 (a 3), .int .i64 (a 4), .int .i64 (a 5)])]) (b := w2.heap.size) (t := 23) S.out (.int .i64 (pv 0)) (.int .i64 (pv 1)) (.int .i64 (pv 2)) (.int .i64 (pv 3)) (.int .i64 (pv 4)) (.int .i64 (pv 5)))
  simp only [List.cons_append, List.nil_append] at S
  obtain ⟨c29_0, c29_1, c29_2, c29_3, c29_4, c29_5, z29⟩ := S.out.six w.heap.size 23 (.int .i64 (a 0)) (.int .i64 (a 1)) (.int .i64 (a 2)) (.int .i64 (a 3)) (.int .i64 (a 4)) (.int .i64 (a 5)) (List.mem_cons_of_mem _ (List.mem_cons_of_mem _ (List.mem_cons_of_mem _ (List.mem_cons_of_mem _ (List.mem_cons_of_mem _ (List.mem_cons_of_mem _ List.mem_cons_self))))))
  obtain ⟨f29_0, f29_1, f29_2, f29_3, f29_4, f29_5⟩ := S.out.fz6 w.heap.size 23 #[.int .i64 (a 0), .int .i64 (a 1), .int .i64 (a 2), .int .i64 (a 3), .int .i64 (a 4), .int .i64 (a 5)] (List.mem_cons_of_mem _ (List.mem_cons_of_mem _ (List.mem_cons_of_mem _ (List.mem_cons_of_mem _ (List.mem_cons_of_mem _ (List.mem_cons_of_mem _ List.mem_cons_self))))))
  go_wp2_with fail
  refine (P2.out _).mono ?_
  rintro e w11 ⟨rfl, hb⟩
  replace S := Bx.mk (S.out.call hb)
  clear c28_0 c28_1 c28_2 c28_3 c28_4 c28_5 z28 f28_0 f28_1 f28_2 f28_3 f28_4 f28_5 c29_0 c29_1 c29_2 c29_3 c29_4 c29_5 z29 f29_0 f29_1 f29_2 f29_3 f29_4 f29_5
  clear hb
  obtain ⟨c30_0, c30_1, c30_2, c30_3, c30_4, c30_5, z30⟩ := S.out.six w3.heap.size 23 (.int .i64 (ev 0)) (.int .i64 (ev 1)) (.int .i64 (ev 2)) (.int .i64 (ev 3)) (.int .i64 (ev 4)) (.int .i64 (ev 5)) (List.mem_cons_of_mem _ (List.mem_cons_of_mem _ List.mem_cons_self))
  obtain ⟨f30_0, f30_1, f30_2, f30_3, f30_4, f30_5⟩ := S.out.fz6 w3.heap.size 23 #[.int .i64 (ev 0), .int .i64 (ev 1), .int .i64 (ev 2), .int .i64 (ev 3), .int .i64 (ev 4), .int .i64 (ev 5)] (List.mem_cons_of_mem _ (List.mem_cons_of_mem _ List.mem_cons_self))
  replace S := Bx.mk (LQ.put6 (L := [(w5.heap.size, 24, #[.int .i64 (hv 0), .int .i64 (hv 1), .int .i64 (hv 2), .int .i64 (hv 3), .int .i64 (hv 4), .int .i64 (hv 5)]), (w4.heap.size, 24, #[.int .i64 (hv 0), .int .i64 (hv 1), .int .i64 (hv 2), .int .i64 (hv 3), .int .i64 (hv 4), .int .i64 (hv 5)])]) (M := [(w2.heap.size, 23, #[.int .i64 (pv 0), .int .i64 (pv 1), .int .i64 (pv 2), .int .i64 (pv 3), .int .i64 (pv 4), .int .i64 (pv 5)]), (w.heap.size + 1 + 1, 24, #[.int .i64 (v 0), .int .i64 (v 1), .int .i64 (v 2), .int .i64 (v 3), .int .i64 (v 4), .int .i64 (v 5)]), (w.heap.size + 1, 23, #[.int .i64 (b 0), .int .i64 (b 1), .int .i64 (b 2), .int .i64 (b 3), .int .i64 (b 4), .int .i64 (b 5)]), (w.heap.size, 23, #[.int .i64 (a 0), .int .i64 (a 1), .int .i64 (a 2), .int .i64 (a 3), .int .i64 (a 4), .int .i64 (a 5)])]) (b := w3.heap.size) (t := 23) S.out (.int .i64 (pv 0)) (.int .i64 (pv 1)) (.int .i64 (pv 2)) (.int .i64 (pv 3)) (.int .i64 (pv 4)) (.int .i64 (pv 5)))
  simp only [List.cons_append, List.nil_append] at S
  obtain ⟨c31_0, c31_1, c31_2, c31_3, c31_4, c31_5, z31⟩ := S.out.six w.heap.size 23 (.int .i64 (a 0)) (.int .i64 (a 1)) (.int .i64 (a 2)) (.int .i64 (a 3)) (.int .i64 (a 4)) (.int .i64 (a 5)) (List.mem_cons_of_mem _ (List.mem_cons_of_mem _ (List.mem_cons_of_mem _ (List.mem_cons_of_mem _ (List.mem_cons_of_mem _ (List.mem_cons_of_mem _ List.mem_cons_self))))))
  obtain ⟨f31_0, f31_1, f31_2, f31_3, f31_4, f31_5⟩ := S.out.fz6 w.heap.size 23 #[.int .i64 (a 0), .int .i64 (a 1), .int .i64 (a 2), .int .i64 (a 3), .int .i64 (a 4), .int .i64 (a 5)] (List.mem_cons_of_mem _ (List.mem_cons_of_mem _ (List.mem_cons_of_mem _ (List.mem_cons_of_mem _ (List.mem_cons_of_mem _ (List.mem_cons_of_mem _ List.mem_cons_self))))))
  obtain ⟨c32_0, c32_1, c32_2, c32_3, c32_4, c32_5, z32⟩ := S.out.six (w.heap.size + 1) 23 (.int .i64 (b 0)) (.int .i64 (b 1)) (.int .i64 (b 2)) (.int .i64 (b 3)) (.int .i64 (b 4)) (.int .i64 (b 5)) (List.mem_cons_of_mem _ (List.mem_cons_of_mem _ (List.mem_cons_of_mem _ (List.mem_cons_of_mem _ (List.mem_cons_of_mem _ List.mem_cons_self)))))
  obtain ⟨f32_0, f32_1, f32_2, f32_3, f32_4, f32_5⟩ := S.out.fz6 (w.heap.size + 1) 23 #[.int .i64 (b 0), .int .i64 (b 1), .int .i64 (b 2), .int .i64 (b 3), .int .i64 (b 4), .int .i64 (b 5)] (List.mem_cons_of_mem _ (List.mem_cons_of_mem _ (List.mem_cons_of_mem _ (List.mem_cons_of_mem _ (List.mem_cons_of_mem _ List.mem_cons_self)))))
  obtain ⟨c33_0, c33_1, c33_2, c33_3, c33_4, c33_5, z33⟩ := S.out.six w3.heap.size 23 (.int .i64 (pv 0)) (.int .i64 (pv 1)) (.int .i64 (pv 2)) (.int .i64 (pv 3)) (.int .i64 (pv 4)) (.int .i64 (pv 5)) (List.mem_cons_of_mem _ (List.mem_cons_of_mem _ List.mem_cons_self))
  obtain ⟨f33_0, f33_1, f33_2, f33_3, f33_4, f33_5⟩ := S.out.fz6 w3.heap.size 23 #[.int .i64 (pv 0), .int .i64 (pv 1), .int .i64 (pv 2), .int .i64 (pv 3), .int .i64 (pv 4), .int .i64 (pv 5)] (List.mem_cons_of_mem _ (List.mem_cons_of_mem _ List.mem_cons_self))
  obtain ⟨c34_0, c34_1, c34_2, c34_3, c34_4, c34_5, z34⟩ := S.out.six w2.heap.size 23 (.int .i64 (pv 0)) (.int .i64 (pv 1)) (.int .i64 (pv 2)) (.int .i64 (pv 3)) (.int .i64 (pv 4)) (.int .i64 (pv 5)) (List.mem_cons_of_mem _ (List.mem_cons_of_mem _ (List.mem_cons_of_mem _ List.mem_cons_self)))
  obtain ⟨f34_0, f34_1, f34_2, f34_3, f34_4, f34_5⟩ := S.out.fz6 w2.heap.size 23 #[.int .i64 (pv 0), .int .i64 (pv 1), .int .i64 (pv 2), .int .i64 (pv 3), .int .i64 (pv 4), .int .i64 (pv 5)] (List.mem_cons_of_mem _ (List.mem_cons_of_mem _ (List.mem_cons_of_mem _ List.mem_cons_self)))
  go_wp2_with fail
  refine (J1.out _ S.out.gv.pm).mono ?_
  rintro e w12 ⟨rfl, hb⟩
  replace S := Bx.mk (S.out.call hb)
  clear c31_0 c31_1 c31_2 c31_3 c31_4 c31_5 z31 f31_0 f31_1 f31_2 f31_3 f31_4 f31_5 c32_0 c32_1 c32_2 c32_3 c32_4 c32_5 z32 f32_0 f32_1 f32_2 f32_3 f32_4 f32_5 c33_0 c33_1 c33_2 c33_3 c33_4 c33_5 z33 f33_0 f33_1 f33_2 f33_3 f33_4 f33_5 c34_0 c34_1 c34_2 c34_3 c34_4 c34_5 z34 f34_0 f34_1 f34_2 f34_3 f34_4 f34_5
  clear hb
  obtain ⟨c35_0, c35_1, c35_2, c35_3, c35_4, c35_5, z35⟩ := S.out.six w.heap.size 23 (.int .i64 (a 0)) (.int .i64 (a 1)) (.int .i64 (a 2)) (.int .i64 (a 3)) (.int .i64 (a 4)) (.int .i64 (a 5)) (List.mem_cons_of_mem _ (List.mem_cons_of_mem _ (List.mem_cons_of_mem _ (List.mem_cons_of_mem _ (List.mem_cons_of_mem _ (List.mem_cons_of_mem _ List.mem_cons_self))))))
  obtain ⟨f35_0, f35_1, f35_2, f35_3, f35_4, f35_5⟩ := S.out.fz6 w.heap.size 23 #[.int .i64 (a 0), .int .i64 (a 1), .int .i64 (a 2), .int .i64 (a 3), .int .i64 (a 4), .int .i64 (a 5)] (List.mem_cons_of_mem _ (List.mem_cons_of_mem _ (List.mem_cons_of_mem _ (List.mem_cons_of_mem _ (List.mem_cons_of_mem _ (List.mem_cons_of_mem _ List.mem_cons_self))))))
  obtain ⟨c36_0, c36_1, c36_2, c36_3, c36_4, c36_5, z36⟩ := S.out.six (w.heap.size + 1) 23 (.int .i64 (b 0)) (.int .i64 (b 1)) (.int .i64 (b 2)) (.int .i64 (b 3)) (.int .i64 (b 4)) (.int .i64 (b 5)) (List.mem_cons_of_mem _ (List.mem_cons_of_mem _ (List.mem_cons_of_mem _ (List.mem_cons_of_mem _ (List.mem_cons_of_mem _ List.mem_cons_self)))))
  obtain ⟨f36_0, f36_1, f36_2, f36_3, f36_4, f36_5⟩ := S.out.fz6 (w.heap.size + 1) 23 #[.int .i64 (b 0), .int .i64 (b 1), .int .i64 (b 2), .int .i64 (b 3), .int .i64 (b 4), .int .i64 (b 5)] (List.mem_cons_of_mem _ (List.mem_cons_of_mem _ (List.mem_cons_of_mem _ (List.mem_cons_of_mem _ (List.mem_cons_of_mem _ List.mem_cons_self)))))
  go_wp2_with fail
  refine (J2.out _).mono ?_
  rintro e w13 ⟨rfl, hb⟩
  replace S := Bx.mk (S.out.call hb)
  clear c35_0 c35_1 c35_2 c35_3 c35_4 c35_5 z35 f35_0 f35_1 f35_2 f35_3 f35_4 f35_5 c36_0 c36_1 c36_2 c36_3 c36_4 c36_5 z36 f36_0 f36_1 f36_2 f36_3 f36_4 f36_5
  clear hb
  have Qrv := eq6_same 24 Tryz.underlying24 rv
  obtain ⟨c37_0, c37_1, c37_2, c37_3, c37_4, c37_5, z37⟩ := S.out.six w5.heap.size 24 (.int .i64 (hv 0)) (.int .i64 (hv 1)) (.int .i64 (hv 2)) (.int .i64 (hv 3)) (.int .i64 (hv 4)) (.int .i64 (hv 5)) List.mem_cons_self
  obtain ⟨f37_0, f37_1, f37_2, f37_3, f37_4, f37_5⟩ := S.out.fz6 w5.heap.size 24 #[.int .i64 (hv 0), .int .i64 (hv 1), .int .i64 (hv 2), .int .i64 (hv 3), .int .i64 (hv 4), .int .i64 (hv 5)] List.mem_cons_self
  obtain ⟨c38_0, c38_1, c38_2, c38_3, c38_4, c38_5, z38⟩ := S.out.six w4.heap.size 24 (.int .i64 (hv 0)) (.int .i64 (hv 1)) (.int .i64 (hv 2)) (.int .i64 (hv 3)) (.int .i64 (hv 4)) (.int .i64 (hv 5)) (List.mem_cons_of_mem _ List.mem_cons_self)
  obtain ⟨f38_0, f38_1, f38_2, f38_3, f38_4, f38_5⟩ := S.out.fz6 w4.heap.size 24 #[.int .i64 (hv 0), .int .i64 (hv 1), .int .i64 (hv 2), .int .i64 (hv 3), .int .i64 (hv 4), .int .i64 (hv 5)] (List.mem_cons_of_mem _ List.mem_cons_self)
  go_wp2_with fail
  refine (R1.out _ S.out.gv.pm).mono ?_
  rintro e w14 ⟨rfl, hb⟩
  replace S := Bx.mk (S.out.call hb)
  clear c37_0 c37_1 c37_2 c37_3 c37_4 c37_5 z37 f37_0 f37_1 f37_2 f37_3 f37_4 f37_5 c38_0 c38_1 c38_2 c38_3 c38_4 c38_5 z38 f38_0 f38_1 f38_2 f38_3 f38_4 f38_5
  clear hb
  obtain ⟨c39_0, c39_1, c39_2, c39_3, c39_4, c39_5, z39⟩ := S.out.six w4.heap.size 24 (.int .i64 (hv 0)) (.int .i64 (hv 1)) (.int .i64 (hv 2)) (.int .i64 (hv 3)) (.int .i64 (hv 4)) (.int .i64 (hv 5)) (List.mem_cons_of_mem _ List.mem_cons_self)
  obtain ⟨f39_0, f39_1, f39_2, f39_3, f39_4, f39_5⟩ := S.out.fz6 w4.heap.size 24 #[.int .i64 (hv 0), .int .i64 (hv 1), .int .i64 (hv 2), .int .i64 (hv 3), .int .i64 (hv 4), .int .i64 (hv 5)] (List.mem_cons_of_mem _ List.mem_cons_self)
  replace S := Bx.mk (LQ.put6 (L := [(w5.heap.size, 24, #[.int .i64 (hv 0), .int .i64 (hv 1), .int .i64 (hv 2), .int .i64 (hv 3), .int .i64 (hv 4), .int .i64 (hv 5)])]) (M := [(w3.heap.size, 23, #[.int .i64 (pv 0), .int .i64 (pv 1), .int .i64 (pv 2), .int .i64 (pv 3), .int .i64 (pv 4), .int .i64 (pv 5)]), (w2.heap.size, 23, #[.int .i64 (pv 0), .int .i64 (pv 1), .int .i64 (pv 2), .int .i64 (pv 3), .int .i64 (pv 4), .int .i64 (pv 5)]), (w.heap.size + 1 + 1, 24, #[.int .i64 (v 0), .int .i64 (v 1), .int .i64 (v 2), .int .i64 (v 3), .int .i64 (v 4), .int .i64 (v 5)]), (w.heap.size + 1, 23, #[.int .i64 (b 0), .int .i64 (b 1), .int .i64 (b 2), .int .i64 (b 3), .int .i64 (b 4), .int .i64 (b 5)]), (w.heap.size, 23, #[.int .i64 (a 0), .int .i64 (a 1), .int .i64 (a 2), .int .i64 (a 3), .int .i64 (a 4), .int .i64 (a 5)])]) (b := w4.heap.size) (t := 24) S.out (.int .i64 (rv 0)) (.int .i64 (rv 1)) (.int .i64 (rv 2)) (.int .i64 (rv 3)) (.int .i64 (rv 4)) (.int .i64 (rv 5)))
  simp only [List.cons_append, List.nil_append] at S
  go_wp2_with fail
  refine (R2.out _).mono ?_
  rintro e w15 ⟨rfl, hb⟩
  replace S := Bx.mk (S.out.call hb)
  clear c39_0 c39_1 c39_2 c39_3 c39_4 c39_5 z39 f39_0 f39_1 f39_2 f39_3 f39_4 f39_5
  clear hb
  obtain ⟨c40_0, c40_1, c40_2, c40_3, c40_4, c40_5, z40⟩ := S.out.six w5.heap.size 24 (.int .i64 (hv 0)) (.int .i64 (hv 1)) (.int .i64 (hv 2)) (.int .i64 (hv 3)) (.int .i64 (hv 4)) (.int .i64 (hv 5)) List.mem_cons_self
  obtain ⟨f40_0, f40_1, f40_2, f40_3, f40_4, f40_5⟩ := S.out.fz6 w5.heap.size 24 #[.int .i64 (hv 0), .int .i64 (hv 1), .int .i64 (hv 2), .int .i64 (hv 3), .int .i64 (hv 4), .int .i64 (hv 5)] List.mem_cons_self
  replace S := Bx.mk (LQ.put6 (L := []) (M := [(w4.heap.size, 24, #[.int .i64 (rv 0), .int .i64 (rv 1), .int .i64 (rv 2), .int .i64 (rv 3), .int .i64 (rv 4), .int .i64 (rv 5)]), (w3.heap.size, 23, #[.int .i64 (pv 0), .int .i64 (pv 1), .int .i64 (pv 2), .int .i64 (pv 3), .int .i64 (pv 4), .int .i64 (pv 5)]), (w2.heap.size, 23, #[.int .i64 (pv 0), .int .i64 (pv 1), .int .i64 (pv 2), .int .i64 (pv 3), .int .i64 (pv 4), .int .i64 (pv 5)]), (w.heap.size + 1 + 1, 24, #[.int .i64 (v 0), .int .i64 (v 1), .int .i64 (v 2), .int .i64 (v 3), .int .i64 (v 4), .int .i64 (v 5)]), (w.heap.size + 1, 23, #[.int .i64 (b 0), .int .i64 (b 1), .int .i64 (b 2), .int .i64 (b 3), .int .i64 (b 4), .int .i64 (b 5)]), (w.heap.size, 23, #[.int .i64 (a 0), .int .i64 (a 1), .int .i64 (a 2), .int .i64 (a 3), .int .i64 (a 4), .int .i64 (a 5)])]) (b := w5.heap.size) (t := 24) S.out (.int .i64 (rv 0)) (.int .i64 (rv 1)) (.int .i64 (rv 2)) (.int .i64 (rv 3)) (.int .i64 (rv 4)) (.int .i64 (rv 5)))
  simp only [List.nil_append] at S
  obtain ⟨c41_0, c41_1, c41_2, c41_3, c41_4, c41_5, z41⟩ := S.out.six (w.heap.size + 1 + 1) 24 (.int .i64 (v 0)) (.int .i64 (v 1)) (.int .i64 (v 2)) (.int .i64 (v 3)) (.int .i64 (v 4)) (.int .i64 (v 5)) (List.mem_cons_of_mem _ (List.mem_cons_of_mem _ (List.mem_cons_of_mem _ (List.mem_cons_of_mem _ List.mem_cons_self))))
  obtain ⟨f41_0, f41_1, f41_2, f41_3, f41_4, f41_5⟩ := S.out.fz6 (w.heap.size + 1 + 1) 24 #[.int .i64 (v 0), .int .i64 (v 1), .int .i64 (v 2), .int .i64 (v 3), .int .i64 (v 4), .int .i64 (v 5)] (List.mem_cons_of_mem _ (List.mem_cons_of_mem _ (List.mem_cons_of_mem _ (List.mem_cons_of_mem _ List.mem_cons_self))))
  obtain ⟨c42_0, c42_1, c42_2, c42_3, c42_4, c42_5, z42⟩ := S.out.six w5.heap.size 24 (.int .i64 (rv 0)) (.int .i64 (rv 1)) (.int .i64 (rv 2)) (.int .i64 (rv 3)) (.int .i64 (rv 4)) (.int .i64 (rv 5)) List.mem_cons_self
  obtain ⟨f42_0, f42_1, f42_2, f42_3, f42_4, f42_5⟩ := S.out.fz6 w5.heap.size 24 #[.int .i64 (rv 0), .int .i64 (rv 1), .int .i64 (rv 2), .int .i64 (rv 3), .int .i64 (rv 4), .int .i64 (rv 5)] List.mem_cons_self
  obtain ⟨c43_0, c43_1, c43_2, c43_3, c43_4, c43_5, z43⟩ := S.out.six w4.heap.size 24 (.int .i64 (rv 0)) (.int .i64 (rv 1)) (.int .i64 (rv 2)) (.int .i64 (rv 3)) (.int .i64 (rv 4)) (.int .i64 (rv 5)) (List.mem_cons_of_mem _ List.mem_cons_self)
  obtain ⟨f43_0, f43_1, f43_2, f43_3, f43_4, f43_5⟩ := S.out.fz6 w4.heap.size 24 #[.int .i64 (rv 0), .int .i64 (rv 1), .int .i64 (rv 2), .int .i64 (rv 3), .int .i64 (rv 4), .int .i64 (rv 5)] (List.mem_cons_of_mem _ List.mem_cons_self)
  go_wp2_with fail
  refine (F1.out _ S.out.gv.pm).mono ?_
  rintro e w16 ⟨ka, kb, rfl, na, nb, hb⟩
  replace S := Bx.mk (S.out.call hb)
  clear c41_0 c41_1 c41_2 c41_3 c41_4 c41_5 z41 f41_0 f41_1 f41_2 f41_3 f41_4 f41_5 c42_0 c42_1 c42_2 c42_3 c42_4 c42_5 z42 f42_0 f42_1 f42_2 f42_3 f42_4 f42_5 c43_0 c43_1 c43_2 c43_3 c43_4 c43_5 z43 f43_0 f43_1 f43_2 f43_3 f43_4 f43_5
  have NL := Hx.mk (live2 na nb)
  clear hb na nb
  obtain ⟨c44_0, c44_1, c44_2, c44_3, c44_4, c44_5, z44⟩ := S.out.six (w.heap.size + 1 + 1) 24 (.int .i64 (v 0)) (.int .i64 (v 1)) (.int .i64 (v 2)) (.int .i64 (v 3)) (.int .i64 (v 4)) (.int .i64 (v 5)) (List.mem_cons_of_mem _ (List.mem_cons_of_mem _ (List.mem_cons_of_mem _ (List.mem_cons_of_mem _ List.mem_cons_self))))
  obtain ⟨f44_0, f44_1, f44_2, f44_3, f44_4, f44_5⟩ := S.out.fz6 (w.heap.size + 1 + 1) 24 #[.int .i64 (v 0), .int .i64 (v 1), .int .i64 (v 2), .int .i64 (v 3), .int .i64 (v 4), .int .i64 (v 5)] (List.mem_cons_of_mem _ (List.mem_cons_of_mem _ (List.mem_cons_of_mem _ (List.mem_cons_of_mem _ List.mem_cons_self))))
  go_wp2_with fail
  refine (F2.out _).mono ?_
  rintro e w17 ⟨ma, mb, rfl, na, nb, hb⟩
  replace S := Bx.mk (S.out.call hb)
  clear c44_0 c44_1 c44_2 c44_3 c44_4 c44_5 z44 f44_0 f44_1 f44_2 f44_3 f44_4 f44_5
  have NM := Hx.mk (Live.cons na (Live.cons nb (NL.out.keep (Below.mono hb (Nat.le_refl _)))))
  clear hb na nb NL
  go_wp2_with fail
  refine (same_yes (a := fx) (b := fx) NM.out (by simp) (by simp) rfl).mono ?_
  rintro e w18 ⟨rfl, NQ, hb⟩
  replace S := Bx.mk (S.out.call hb)
  clear NM hb
  have NM := Hx.mk NQ
  clear NQ
  go_wp2_with fail
  refine (same_yes (a := fy) (b := fy) NM.out (by simp) (by simp) rfl).mono ?_
  rintro e w19 ⟨rfl, NQ, hb⟩
  replace S := Bx.mk (S.out.call hb)
  clear NM hb NQ
  obtain ⟨c45_0, c45_1, c45_2, c45_3, c45_4, c45_5, z45⟩ := S.out.six w.heap.size 23 (.int .i64 (a 0)) (.int .i64 (a 1)) (.int .i64 (a 2)) (.int .i64 (a 3)) (.int .i64 (a 4)) (.int .i64 (a 5)) (List.mem_cons_of_mem _ (List.mem_cons_of_mem _ (List.mem_cons_of_mem _ (List.mem_cons_of_mem _ (List.mem_cons_of_mem _ (List.mem_cons_of_mem _ List.mem_cons_self))))))
  obtain ⟨f45_0, f45_1, f45_2, f45_3, f45_4, f45_5⟩ := S.out.fz6 w.heap.size 23 #[.int .i64 (a 0), .int .i64 (a 1), .int .i64 (a 2), .int .i64 (a 3), .int .i64 (a 4), .int .i64 (a 5)] (List.mem_cons_of_mem _ (List.mem_cons_of_mem _ (List.mem_cons_of_mem _ (List.mem_cons_of_mem _ (List.mem_cons_of_mem _ (List.mem_cons_of_mem _ List.mem_cons_self))))))
  go_wp2_with fail
  refine (T1.out _ S.out.gv).mono ?_
  rintro e w20 ⟨rfl, hb⟩
  replace S := Bx.mk (S.out.call hb)
  clear c45_0 c45_1 c45_2 c45_3 c45_4 c45_5 z45 f45_0 f45_1 f45_2 f45_3 f45_4 f45_5
  clear hb
  obtain ⟨c46_0, c46_1, c46_2, c46_3, c46_4, c46_5, z46⟩ := S.out.six w.heap.size 23 (.int .i64 (a 0)) (.int .i64 (a 1)) (.int .i64 (a 2)) (.int .i64 (a 3)) (.int .i64 (a 4)) (.int .i64 (a 5)) (List.mem_cons_of_mem _ (List.mem_cons_of_mem _ (List.mem_cons_of_mem _ (List.mem_cons_of_mem _ (List.mem_cons_of_mem _ (List.mem_cons_of_mem _ List.mem_cons_self))))))
  obtain ⟨f46_0, f46_1, f46_2, f46_3, f46_4, f46_5⟩ := S.out.fz6 w.heap.size 23 #[.int .i64 (a 0), .int .i64 (a 1), .int .i64 (a 2), .int .i64 (a 3), .int .i64 (a 4), .int .i64 (a 5)] (List.mem_cons_of_mem _ (List.mem_cons_of_mem _ (List.mem_cons_of_mem _ (List.mem_cons_of_mem _ (List.mem_cons_of_mem _ (List.mem_cons_of_mem _ List.mem_cons_self))))))
  go_wp2_with fail
  refine (T2.out _).mono ?_
  rintro e w21 ⟨rfl, hb⟩
  replace S := Bx.mk (S.out.call hb)
  clear c46_0 c46_1 c46_2 c46_3 c46_4 c46_5 z46 f46_0 f46_1 f46_2 f46_3 f46_4 f46_5
  clear hb
  have hs : (l.length : Int) ≤ 200 := by omega
  clear hlong hlen
  have Qqv := eq6_same 23 Tryz.underlying23 qv
  obtain ⟨c47_0, c47_1, c47_2, c47_3, c47_4, c47_5, z47⟩ := S.out.six w3.heap.size 23 (.int .i64 (pv 0)) (.int .i64 (pv 1)) (.int .i64 (pv 2)) (.int .i64 (pv 3)) (.int .i64 (pv 4)) (.int .i64 (pv 5)) (List.mem_cons_of_mem _ (List.mem_cons_of_mem _ List.mem_cons_self))
  obtain ⟨f47_0, f47_1, f47_2, f47_3, f47_4, f47_5⟩ := S.out.fz6 w3.heap.size 23 #[.int .i64 (pv 0), .int .i64 (pv 1), .int .i64 (pv 2), .int .i64 (pv 3), .int .i64 (pv 4), .int .i64 (pv 5)] (List.mem_cons_of_mem _ (List.mem_cons_of_mem _ List.mem_cons_self))
  obtain ⟨c48_0, c48_1, c48_2, c48_3, c48_4, c48_5, z48⟩ := S.out.six w2.heap.size 23 (.int .i64 (pv 0)) (.int .i64 (pv 1)) (.int .i64 (pv 2)) (.int .i64 (pv 3)) (.int .i64 (pv 4)) (.int .i64 (pv 5)) (List.mem_cons_of_mem _ (List.mem_cons_of_mem _ (List.mem_cons_of_mem _ List.mem_cons_self)))
  obtain ⟨f48_0, f48_1, f48_2, f48_3, f48_4, f48_5⟩ := S.out.fz6 w2.heap.size 23 #[.int .i64 (pv 0), .int .i64 (pv 1), .int .i64 (pv 2), .int .i64 (pv 3), .int .i64 (pv 4), .int .i64 (pv 5)] (List.mem_cons_of_mem _ (List.mem_cons_of_mem _ (List.mem_cons_of_mem _ List.mem_cons_self)))
  go_wp2_with fail
  refine (Q1.out _ S.out.gv).mono ?_
  rintro e w22 ⟨rfl, hb⟩
  replace S := Bx.mk (S.out.call hb)
  clear c47_0 c47_1 c47_2 c47_3 c47_4 c47_5 z47 f47_0 f47_1 f47_2 f47_3 f47_4 f47_5 c48_0 c48_1 c48_2 c48_3 c48_4 c48_5 z48 f48_0 f48_1 f48_2 f48_3 f48_4 f48_5
  clear hb
  obtain ⟨c49_0, c49_1, c49_2, c49_3, c49_4, c49_5, z49⟩ := S.out.six w2.heap.size 23 (.int .i64 (pv 0)) (.int .i64 (pv 1)) (.int .i64 (pv 2)) (.int .i64 (pv 3)) (.int .i64 (pv 4)) (.int .i64 (pv 5)) (List.mem_cons_of_mem _ (List.mem_cons_of_mem _ (List.mem_cons_of_mem _ List.mem_cons_self)))
  obtain ⟨f49_0, f49_1, f49_2, f49_3, f49_4, f49_5⟩ := S.out.fz6 w2.heap.size 23 #[.int .i64 (pv 0), .int .i64 (pv 1), .int .i64 (pv 2), .int .i64 (pv 3), .int .i64 (pv 4), .int .i64 (pv 5)] (List.mem_cons_of_mem _ (List.mem_cons_of_mem _ (List.mem_cons_of_mem _ List.mem_cons_self)))
  replace S := Bx.mk (LQ.put6 (L := [(w5.heap.size, 24, #[.int .i64 (rv 0), .int .i64 (rv 1), .int .i64 (rv 2), .int .i64 (rv 3), .int .i64 (rv 4), .int .i64 (rv 5)]), (w4.heap.size, 24, #[.int .i64 (rv 0), .int .i64 (rv 1), .int .i64 (rv 2), .int .i64 (rv 3), .int .i64 (rv 4), .int .i64 (rv 5)]), (w3.heap.size, 23, #[.int .i64 (pv 0), .int .i64 (pv 1), .int .i64 (pv 2), .int .i64 (pv 3), .int .i64 (pv 4), .int .i64 (pv 5)])]) (M := [(w.heap.size + 1 + 1, 24, #[.int .i64 (v 0), .int .i64 (v 1), .int .i64 (v 2), .int .i64 (v 3), .int .i64 (v 4), .int .i64 (v 5)]), (w.heap.size + 1, 23, #[.int .i64 (b 0), .int .i64 (b 1), .int .i64 (b 2), .int .i64 (b 3), .int .i64 (b 4), .int .i64 (b 5)]), (w.heap.size, 23, #[.int .i64 (a 0), .int .i64 (a 1), .int .i64 (a 2), .int .i64 (a 3), .int .i64 (a 4), .int .i64 (a 5)])]) (b := w2.heap.size) (t := 23) S.out (.int .i64 (qv 0)) (.int .i64 (qv 1)) (.int .i64 (qv 2)) (.int .i64 (qv 3)) (.int .i64 (qv 4)) (.int .i64 (qv 5)))
  simp only [List.cons_append, List.nil_append] at S
  go_wp2_with fail
  refine (Q2.out _).mono ?_
  rintro e w23 ⟨rfl, hb⟩
  replace S := Bx.mk (S.out.call hb)
  clear c49_0 c49_1 c49_2 c49_3 c49_4 c49_5 z49 f49_0 f49_1 f49_2 f49_3 f49_4 f49_5
  clear hb
  obtain ⟨c50_0, c50_1, c50_2, c50_3, c50_4, c50_5, z50⟩ := S.out.six w3.heap.size 23 (.int .i64 (pv 0)) (.int .i64 (pv 1)) (.int .i64 (pv 2)) (.int .i64 (pv 3)) (.int .i64 (pv 4)) (.int .i64 (pv 5)) (List.mem_cons_of_mem _ (List.mem_cons_of_mem _ List.mem_cons_self))
  obtain ⟨f50_0, f50_1, f50_2, f50_3, f50_4, f50_5⟩ := S.out.fz6 w3.heap.size 23 #[.int .i64 (pv 0), .int .i64 (pv 1), .int .i64 (pv 2), .int .i64 (pv 3), .int .i64 (pv 4), .int .i64 (pv 5)] (List.mem_cons_of_mem _ (List.mem_cons_of_mem _ List.mem_cons_self))
  replace S := Bx.mk (LQ.put6 (L := [(w5.heap.size, 24, #[.int .i64 (rv 0), .int .i64 (rv 1), .int .i64 (rv 2), .int .i64 (rv 3), .int .i64 (rv 4), .int .i64 (rv 5)]), (w4.heap.size, 24, #[.int .i64 (rv 0), .int .i64 (rv 1), .int .i64 (rv 2), .int .i64 (rv 3), .int .i64 (rv 4), .int .i64 (rv 5)])]) (M := [(w2.heap.size, 23, #[.int .i64 (qv 0), .int .i64 (qv 1), .int .i64 (qv 2), .int .i64 (qv 3), .int .i64 (qv 4), .int .i64 (qv 5)]), (w.heap.size + 1 + 1, 24, #[.int .i64 (v 0), .int .i64 (v 1), .int .i64 (v 2), .int .i64 (v 3), .int .i64 (v 4), .int .i64 (v 5)]), (w.heap.size + 1, 23, #[.int .i64 (b 0), .int .i64 (b 1), .int .i64 (b 2), .int .i64 (b 3), .int .i64 (b 4), .int .i64 (b 5)]), (w.heap.size, 23, #[.int .i64 (a 0), .int .i64 (a 1), .int .i64 (a 2), .int .i64 (a 3), .int .i64 (a 4), .int .i64 (a 5)])]) (b := w3.heap.size) (t := 23) S.out (.int .i64 (qv 0)) (.int .i64 (qv 1)) (.int .i64 (qv 2)) (.int .i64 (qv 3)) (.int .i64 (qv 4)) (.int .i64 (qv 5)))
  simp only [List.cons_append, List.nil_append] at S
  obtain ⟨c51_0, c51_1, c51_2, c51_3, c51_4, c51_5, z51⟩ := S.out.six w2.heap.size 23 (.int .i64 (qv 0)) (.int .i64 (qv 1)) (.int .i64 (qv 2)) (.int .i64 (qv 3)) (.int .i64 (qv 4)) (.int .i64 (qv 5)) (List.mem_cons_of_mem _ (List.mem_cons_of_mem _ (List.mem_cons_of_mem _ List.mem_cons_self)))
  obtain ⟨f51_0, f51_1, f51_2, f51_3, f51_4, f51_5⟩ := S.out.fz6 w2.heap.size 23 #[.int .i64 (qv 0), .int .i64 (qv 1), .int .i64 (qv 2), .int .i64 (qv 3), .int .i64 (qv 4), .int .i64 (qv 5)] (List.mem_cons_of_mem _ (List.mem_cons_of_mem _ (List.mem_cons_of_mem _ List.mem_cons_self)))
  go_wp2_with fail
  go_ret
  exact ⟨rfl, S.out.bl⟩
theorem pref_all_in (a b v : Nat → Int) (n d : Int) (l : List UInt8) (w : World) (hl : Gv w) (hlen : l.length ≤ 281474976710656) :
    Calls Tryz.prog 3 #[PV a, PV b, PV v, .int .i64 n, .int .i64 d, .string (strL l)] w fun e w' => e = .returned (.bool true) ∧ Below w.heap.size w w' := by
  obtain ⟨ov, oc, O1, O2⟩ := both_of v
  obtain ⟨hv, hc, H1, H2⟩ := both_whole a
  obtain ⟨pv, pc, P1, P2⟩ := both_power a n d
  obtain ⟨ji, jc, J1, J2⟩ := both_cmp a b
  obtain ⟨rv, rc, R1, R2⟩ := both_ratio2 n d
  obtain ⟨fx, fy, fc, F1, F2⟩ := both_frac v
  obtain ⟨ts, tc, T1, T2⟩ := both_text a
  by_cases hlong : 200 < l.length
  · exact pref_long a b v n d l w hl hlen hlong (bdB a 576) (bdB v 48) ⟨fun w => pvalid_any a w _ rfl⟩ ⟨fun w => refValid_any a w _ rfl⟩ ⟨fun w => pinterval_any v w _ rfl⟩ ⟨fun w => refInterval_any v w _ rfl⟩ ov oc ⟨O1⟩ ⟨O2⟩ hv hc ⟨H1⟩ ⟨H2⟩ _ _ ⟨fun w => pmul_any a b _ _ w rfl rfl⟩ ⟨fun w => refMul_any a b w⟩ _ _ ⟨fun w => pdiv_any a b _ _ w rfl rfl⟩ ⟨fun w => refDiv_any a b w⟩ pv pc ⟨P1⟩ ⟨P2⟩ ji jc ⟨J1⟩ ⟨J2⟩ rv rc ⟨R1⟩ ⟨R2⟩ fx fy fc ⟨F1⟩ ⟨F2⟩ ts tc ⟨T1⟩ ⟨T2⟩
  · obtain ⟨qv, qc, Q1, Q2⟩ := both_parse2 l (by rw [strL_len]; omega)
    exact pref_short a b v n d l w hl hlen (by omega) (bdB a 576) (bdB v 48) ⟨fun w => pvalid_any a w _ rfl⟩ ⟨fun w => refValid_any a w _ rfl⟩ ⟨fun w => pinterval_any v w _ rfl⟩ ⟨fun w => refInterval_any v w _ rfl⟩ ov oc ⟨O1⟩ ⟨O2⟩ hv hc ⟨H1⟩ ⟨H2⟩ _ _ ⟨fun w => pmul_any a b _ _ w rfl rfl⟩ ⟨fun w => refMul_any a b w⟩ _ _ ⟨fun w => pdiv_any a b _ _ w rfl rfl⟩ ⟨fun w => refDiv_any a b w⟩ pv pc ⟨P1⟩ ⟨P2⟩ ji jc ⟨J1⟩ ⟨J2⟩ rv rc ⟨R1⟩ ⟨R2⟩ fx fy fc ⟨F1⟩ ⟨F2⟩ ts tc ⟨T1⟩ ⟨T2⟩ qv qc ⟨Q1⟩ ⟨Q2⟩
end Go.Proofs.YtdlfnonlalkjdaaGreatDoor
