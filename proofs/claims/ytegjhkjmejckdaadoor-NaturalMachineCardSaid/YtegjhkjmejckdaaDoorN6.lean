/- natural.addTimes, product. -/
import Derived.Test.YtegjhkjmejckdaaDoorN2
namespace Go.Proofs.YtegjhkjmejckdaaDoor
open Go.RowKit M
/-- Limbs of a row of a call's own: the cells at the offset d, of the list L. -/
theorem Wrote.at {w wr : World} {M : Nat} {L : List Int} (h : Wrote w wr M L) (d j : Nat) (hj : d + j < M) : wr.cell? ⟨w.heap.size, d + j, none⟩ = some (.int .u32 (L.getD (d + j) 0)) := h.cell (d + j) hj
/-- addTimes after k rounds: the row L0 with k limbs replaced from d on. -/
def AtRel (L0 : List Int) (d : Nat) (A : List Int) (x : Int) (k : Nat) (cy : Int) (L : List Int) : Prop :=
  0 ≤ cy ∧ cy < 4294967296 ∧ ∃ C : List Int, C.length = k ∧ L = L0.take d ++ C ++ L0.drop (d + k) ∧ val C + pw k * cy = val ((L0.drop d).take k) + x * val (A.take k)
theorem mul_small (a b : Int) (ha : 0 ≤ a) (hb : 0 ≤ b) (ha1 : a < 4294967296) (hb1 : b < 4294967296) : 0 ≤ a * b ∧ a * b ≤ 18446744065119617025 := by
  constructor
  · exact Int.mul_nonneg ha hb
  · have h1 : a * b ≤ 4294967295 * b := Int.mul_le_mul_of_nonneg_right (by omega) hb
    have h2 : 4294967295 * b ≤ 18446744065119617025 := by omega
    omega
theorem getD_app3 (X C Y : List Int) (d k : Nat) (hX : X.length = d) (hC : C.length = k) : (X ++ C ++ Y).getD (d + k) 0 = Y.getD 0 0 := by
  subst hX hC
  rw [List.getD_eq_getElem?_getD, List.getD_eq_getElem?_getD, List.getElem?_append_right (by simp)]; simp
theorem set_app3 (X C Y : List Int) (y : Int) (d k : Nat) (v : Int) (hX : X.length = d) (hC : C.length = k) : (X ++ C ++ y :: Y).set (d + k) v = X ++ (C ++ [v]) ++ Y := by
  subst hX hC
  rw [List.set_append_right _ _ (by simp)]
  simp
theorem add_step (P l x a c s t : Int) (h : s + P * c = t) : s + P * ((c + (l + x * a)) % 4294967296) + 4294967296 * P * ((c + (l + x * a)) / 4294967296) = t + P * l + x * (P * a) := by
  have e : (c + (l + x * a)) % 4294967296 + 4294967296 * ((c + (l + x * a)) / 4294967296) = c + (l + x * a) := Int.emod_add_mul_ediv _ _
  have e2 : P * ((c + (l + x * a)) % 4294967296) + 4294967296 * P * ((c + (l + x * a)) / 4294967296) = P * (c + (l + x * a)) := by
    rw [← e, Int.mul_add, e, Int.mul_comm 4294967296 P, Int.mul_assoc]
  have e3 : P * (c + (l + x * a)) = P * c + P * l + x * (P * a) := by
    rw [Int.mul_add, Int.mul_add, Int.mul_left_comm P x a, Int.add_assoc]
  omega
theorem atRel_step {L0 : List Int} {d : Nat} {A : List Int} {x : Int} {k : Nat} {cy : Int} {L : List Int} (h0L : Ok L0) (hA : Ok A) (hx0 : 0 ≤ x) (hx1 : x < 4294967296) (h : AtRel L0 d A x k cy L) (hk : k < A.length) (hd : d + A.length ≤ L0.length) :
    L.getD (d + k) 0 = L0.getD (d + k) 0 ∧ AtRel L0 d A x (k + 1) ((cy + (L.getD (d + k) 0 + x * A.getD k 0)) / 4294967296) (L.set (d + k) ((cy + (L.getD (d + k) 0 + x * A.getD k 0)) % 4294967296)) := by
  obtain ⟨h0, h1, C, hC, rfl, hv⟩ := h
  have hX : (L0.take d).length = d := by rw [List.length_take]; omega
  have e : (L0.take d ++ C ++ L0.drop (d + k)).getD (d + k) 0 = L0.getD (d + k) 0 := by
    rw [getD_app3 _ _ _ d k hX hC, drop_step L0 (d + k) (by omega)]; rfl
  refine ⟨e, ?_⟩
  rw [e]
  have ha := hA.getD k
  have hl := h0L.getD (d + k)
  have hm := mul_small x (A.getD k 0) hx0 ha.1 hx1 ha.2
  generalize hmm : x * A.getD k 0 = q at *
  refine ⟨by omega, by omega, C ++ [(cy + (L0.getD (d + k) 0 + q)) % 4294967296], by simp [hC], ?_, ?_⟩
  · rw [drop_step L0 (d + k) (by omega), set_app3 _ _ _ _ d k _ hX hC]; rfl
  · have e2 : (L0.drop d).getD k 0 = L0.getD (d + k) 0 := by simp [List.getD, List.getElem?_drop]
    rw [val_snoc, hC, pw_succ, val_take_succ _ k (by rw [List.length_drop]; omega), val_take_succ' A k, e2, ← hmm, add_step _ _ _ _ _ _ _ hv, Int.mul_add]
    omega
/-- All blocks but one are as they were. -/
def But (g : Nat) (w w' : World) : Prop := w.heap.size ≤ w'.heap.size ∧ ∀ k, k ≠ g → w'.heap[k]? = w.heap[k]?
theorem But.refl (g : Nat) (w : World) : But g w w := ⟨Nat.le_refl _, fun _ _ => rfl⟩
theorem But.setCell {g : Nat} {w w' : World} (h : But g w w') (j : Nat) (u : Value) : But g w (w'.setCell ⟨g, j, none⟩ u) :=
  ⟨by simpa [World.setCell] using h.1, fun k hk => (Below.heap_setCell _ _ _ _ (by simpa using hk)).trans (h.2 k hk)⟩
theorem But.cells {g : Nat} {w w' : World} {ao : Option Addr} {l : List Int} {k : IntKind} (h : But g w w') (hc : CellsK k w ao l) (hs : l ≠ [] → ∀ a, ao = some a → a.block ≠ g) : CellsK k w' ao l := by
  intro hl
  obtain ⟨a, rfl, ha, hcc⟩ := hc hl
  have hblk : ∀ i, (a.add i).block = a.block := fun i => by unfold Addr.add; split <;> rfl
  exact ⟨a, rfl, Nat.lt_of_lt_of_le ha h.1, fun i hi => by rw [World.cell?_of_block (w := w) (h.2 _ (by rw [hblk]; exact hs hl a rfl))]; exact hcc i hi⟩
/-- natural.addTimes on a row of the caller's own: from the offset d on, as many limbs as a has. -/
theorem addTimes_any (ao : Option Addr) (A L0 : List Int) (w wr0 : World) (M d n ca cc : Nat) (x : Int) (hn : A.length = n) (hA : Ok A) (hca : CellsK .u32 wr0 ao A) (hx0 : 0 ≤ x) (hx1 : x < 4294967296)
    (hW : Wrote w wr0 M L0) (hdM : d + n ≤ M) (hM : M ≤ 100000) (hsep : A ≠ [] → ∀ a, ao = some a → a.block ≠ w.heap.size) :
    Calls Tryd.prog 71 #[.slice (some ⟨w.heap.size, d, none⟩) n cc, .slice ao n ca, .int .u32 x] wr0 fun e w' =>
      ∃ (cy : Int) (L : List Int), e = .returned (.int .u32 cy) ∧ AtRel L0 d A x n cy L ∧ Wrote w w' M L ∧ But w.heap.size wr0 w' := by
  have HS := Lib.hid hsep
  clear hsep
  go_enter Tryd.func71, Tryd.ntmps71
  go_wp2
  go_loopw [7, 12] (fun c i wr => ∃ (k : Nat) (cy : Int) (L : List Int), k ≤ n ∧ i = .int .i64 k ∧ c = .int .u64 cy ∧ AtRel L0 d A x k cy L ∧ Wrote w wr M L ∧ But w.heap.size wr0 wr) (fun _ i _ => n - (intOf i).toNat)
  case atStart => exact ⟨0, 0, L0, Nat.zero_le _, rfl, rfl, ⟨Int.le_refl _, by omega, [], rfl, by simp, by simp [val]⟩, hW, But.refl _ _⟩
  case round =>
    obtain ⟨k, cy, L, hk, rfl, rfl, hrel, hw, hbut⟩ := hrel
    have h0 := hrel.1
    have h1 := hrel.2.1
    by_cases hlt : k < n
    · have hne : A ≠ [] := by intro e; subst e; simp at hn; omega
      obtain ⟨a, rfl, _, hac⟩ := (hbut.cells hca HS.out) hne
      have hcA := hac k (by omega)
      have hcell := hw.cell (d + k) (by omega)
      have hfree := hw.free (d + k)
      have hL0 := hW.len
      have hst := atRel_step hW.ok hA hx0 hx1 hrel (by omega) (by omega)
      have hl := hw.ok.getD (d + k)
      have ha := hA.getD k
      have hm := mul_small x (A.getD k 0) hx0 ha.1 hx1 ha.2
      generalize A.getD k 0 = y at *
      generalize L.getD (d + k) 0 = l at *
      have hq0 : 0 ≤ cy + (l + x * y) := by omega
      have hq1 : cy + (l + x * y) ≤ 18446744073709551615 := by omega
      have hst2 := hst.2
      have hws := hw.store (d + k) (x := (cy + (l + x * y)) % 4294967296) (by omega) (by omega)
      have HST := Lib.hid hst2
      have HWS := Lib.hid hws
      have HB := Lib.hid (hbut.setCell (d + k) (.int .u32 ((cy + (l + x * y)) % 4294967296)))
      clear hst hst2 hws hrel hw hbut hac hca hL0 hW
      go_wp2
      go_roundw
      case rel => exact ⟨k + 1, _, _, by omega, by go_num, rfl, HST.out, HWS.out, HB.out⟩
      case measure => simp [intOf]; omega
    · have hkn : k = n := by omega
      subst hkn
      have HR := Lib.hid hrel
      clear hrel
      go_wp2
      go_ret
      exact ⟨cy, L, rfl, HR.out, hw, hbut⟩
/-- The product after i rounds. -/
def MulRel (w : World) (A B : List Int) (i : Nat) (wr : World) : Prop :=
  ∃ D : List Int, D.length = i + B.length ∧ val D = val (A.take i) * val B ∧ Wrote w wr (A.length + B.length) (D ++ List.replicate (A.length - i) 0)
theorem mul_lists {A B D L : List Int} {i : Nat} {cy : Int} (hi : i < A.length) (hD : D.length = i + B.length) (hv : val D = val (A.take i) * val B)
    (hrel : AtRel (D ++ List.replicate (A.length - i) 0) i B (A.getD i 0) B.length cy L) :
    ∃ D', D'.length = i + 1 + B.length ∧ val D' = val (A.take (i + 1)) * val B ∧ L.set (i + B.length) cy = D' ++ List.replicate (A.length - (i + 1)) 0 := by
  obtain ⟨_, _, C, hC, rfl, hvc⟩ := hrel
  have e1 : (D ++ List.replicate (A.length - i) 0).take i = D.take i := by rw [List.take_append_of_le_length (by omega)]
  have e2 : (D ++ List.replicate (A.length - i) 0).drop (i + B.length) = 0 :: List.replicate (A.length - (i + 1)) 0 := by
    rw [List.drop_append_of_le_length (by omega), List.drop_eq_nil_of_le (by omega), List.nil_append, show A.length - i = (A.length - (i + 1)) + 1 from by omega, List.replicate_succ]
  have e3 : ((D ++ List.replicate (A.length - i) 0).drop i).take B.length = D.drop i := by
    rw [List.drop_append_of_le_length (by omega), List.take_append_of_le_length (by rw [List.length_drop]; omega), List.take_of_length_le (by rw [List.length_drop]; omega)]
  rw [e3, List.take_of_length_le (Nat.le_refl B.length)] at hvc
  rw [e1, e2]
  refine ⟨D.take i ++ (C ++ [cy]), by simp [hC]; omega, ?_, by rw [set_app3 _ _ _ _ i B.length _ (by rw [List.length_take]; omega) hC]⟩
  rw [val_append, val_snoc, hC, hvc, List.length_take, Nat.min_eq_left (by omega), val_take_succ' A i, Int.add_mul, ← hv]
  have e4 : val D = val (D.take i) + pw i * val (D.drop i) := by
    conv => lhs; rw [← List.take_append_drop i D]
    rw [val_append, List.length_take, Nat.min_eq_left (by omega)]
  rw [e4, Int.mul_add, Int.mul_assoc, Int.add_assoc]
theorem mul_over {A B : List Int} (hA : Ok A) (hB : Ok B) (lA : A.getLast? ≠ some 0) (lB : B.getLast? ≠ some 0) (hA0 : A ≠ []) (hB0 : B ≠ []) (h : 640 < A.length + B.length - 1) : pw 640 ≤ val A * val B := by
  have h1 := val_ge hA lA hA0
  have h2 := val_ge hB lB hB0
  have h3 : pw (A.length - 1) * pw (B.length - 1) ≤ val A * val B := Int.mul_le_mul h1 h2 (by have := pw_pos (B.length - 1); omega) (val_nonneg hA)
  rw [← pw_add] at h3
  have h4 := pw_le (show 640 ≤ A.length - 1 + (B.length - 1) by have := List.length_pos_iff.2 hA0; have := List.length_pos_iff.2 hB0; omega)
  omega
set_option maxHeartbeats 1600000 in
theorem product_any (ao bo : Option Addr) (A B : List Int) (n m ca cb : Nat) (w : World) (hn : A.length = n) (hm : B.length = m) (hn6 : n ≤ 700) (hm6 : m ≤ 700)
    (hA : Ok A) (hB : Ok B) (lA : A.getLast? ≠ some 0) (lB : B.getLast? ≠ some 0) (hca : CellsK .u32 w ao A) (hcb : CellsK .u32 w bo B) (R : Ending → World → Prop)
    (hok : val A * val B < pw 640 → ∀ e w', RetNat w (val A * val B).toNat e w' → R e w') (hov : pw 640 ≤ val A * val B → ∀ e w', Raised w 2 e w' → R e w') :
    Calls Tryd.prog 49 #[.slice ao n ca, .slice bo m cb] w R := by
  have HOK := Lib.hid hok
  have HOV := Lib.hid hov
  clear hok hov
  by_cases h0 : n = 0
  · subst h0
    have e : A = [] := by simpa using hn
    have hz : val A * val B = 0 := by rw [e]; simp [val]
    have HZ := Lib.hid hz
    clear hz e
    go_enter Tryd.func49, Tryd.ntmps49
    go_wp2
    refine HOK.out (by rw [HZ.out]; exact pw_pos _) _ _ ⟨_, rfl, ?_, Below.refl _ _⟩
    rw [HZ.out, show (0 : Int).toNat = 0 from rfl, limbs_zero]; exact Rd.nil w
  have hn0 : ((n : Int) == 0) = false := beq_eq_false_iff_ne.2 (by omega)
  by_cases h1 : m = 0
  · subst h1
    have e : B = [] := by simpa using hm
    have hz : val A * val B = 0 := by rw [e]; simp [val]
    have HZ := Lib.hid hz
    clear hz e
    go_enter Tryd.func49, Tryd.ntmps49
    go_wp2
    refine HOK.out (by rw [HZ.out]; exact pw_pos _) _ _ ⟨_, rfl, ?_, Below.refl _ _⟩
    rw [HZ.out, show (0 : Int).toNat = 0 from rfl, limbs_zero]; exact Rd.nil w
  have hm0 : ((m : Int) == 0) = false := beq_eq_false_iff_ne.2 (by omega)
  have hAne : A ≠ [] := by intro e; subst e; simp at hn; omega
  have hBne : B ≠ [] := by intro e; subst e; simp at hm; omega
  by_cases h2 : 640 < n + m - 1
  · have hbig := mul_over hA hB lA lB hAne hBne (by omega)
    have HBIG := Lib.hid hbig
    have hd : decide ((640 : Int) < (n : Int) + m - 1) = true := by simp; omega
    clear hbig
    go_enter Tryd.func49, Tryd.ntmps49
    go_wp2
    exact ⟨rfl, HOV.out HBIG.out _ _ ⟨rfl, Below.refl _ _⟩⟩
  obtain ⟨i0, hi, hz0, hz1, hz2⟩ := info_parts Tryd.info42
  have h3 : n + m ≤ 641 := by omega
  have hd : decide ((640 : Int) < (n : Int) + m - 1) = false := by simp; omega
  clear lA lB h2 h0 h1
  go_enter Tryd.func49, Tryd.ntmps49
  go_wp2_with (at_make; refine wpList_make_full _ rfl _ _ 22 rfl w.heap.size 42 i0 (.int .u32 0) 1 Tryd.underlying22 hi hz0 hz1 .i64 .i64 _ _ (n + m) rfl rfl (by push_cast; rfl) (by push_cast; rfl) (by rw [hz2]; omega) (by unfold maxLen; omega) (Nat.le_refl _) ?_; intro w1 hown hgrow)
  have hW := Wrote.made hown hgrow
  clear hown hgrow hi hz0 hz1 hz2
  go_loopw [32] (fun v wr => ∃ i : Nat, i ≤ n ∧ v = .int .i64 i ∧ MulRel w A B i wr) (fun v _ => n - (intOf v).toNat)
  case atStart => exact ⟨0, Nat.zero_le _, rfl, List.replicate m 0, by simp [hm], by simp [val, val_replicate], by rw [hn, hm, Nat.sub_zero, List.replicate_append_replicate, Nat.add_comm m n]; exact hW⟩
  case round =>
    obtain ⟨i, hi, rfl, hrel⟩ := hrel
    have HR := Lib.hid hrel
    obtain ⟨D, hD, hv, hw⟩ := hrel
    rw [hm] at hD
    rw [hn, hm] at hw
    by_cases hlt : i < n
    · have hbw := hw.below
      obtain ⟨a, rfl, hab, hac⟩ := (hca.keep hbw) hAne
      have hcA := hac i (by omega)
      have hbc := hcb.keep hbw
      have hsep : B ≠ [] → ∀ b, bo = some b → b.block ≠ w.heap.size := by
        intro hB0 b hb
        obtain ⟨b', hb', hlt', _⟩ := hcb hB0
        rw [hb] at hb'; obtain rfl := Option.some.inj hb'; omega
      have hx := hA.getD i
      obtain ⟨x, hxx⟩ : ∃ x, x = A.getD i 0 := ⟨_, rfl⟩
      rw [← hxx] at hcA hx
      have hat := fun cc => addTimes_any bo B (D ++ List.replicate (n - i) 0) w wr (n + m) i m cb cc x hm hB hbc hx.1 hx.2 hw (by omega) (by omega) hsep
      have HV := Lib.hid hv
      have HX := Lib.hid hxx
      have HAT := Lib.hid hat
      have HD := Lib.hid hD
      clear hv hxx hac hbc hsep hat hw hbw hD HR
      go_wp2_with fail
      refine (HAT.out _).mono ?_
      rintro e w2 ⟨cy, L, rfl, hrel2, hw2, hbut⟩
      have hc0 := hrel2.1
      have hc1 := hrel2.2.1
      have hcell := hw2.cell (i + m) (by omega)
      have hfree := hw2.free (i + m)
      have hst := hw2.store (i + m) hc0 hc1
      have hnext : MulRel w A B (i + 1) (w2.setCell ⟨w.heap.size, i + m, none⟩ (.int .u32 cy)) := by
        have h4 : AtRel (D ++ List.replicate (A.length - i) 0) i B (A.getD i 0) B.length cy L := by rw [hn, hm, ← HX.out]; exact hrel2
        obtain ⟨D', hD', hv', hL'⟩ := mul_lists (by omega) (by rw [hm]; exact HD.out) HV.out h4
        refine ⟨D', hD', hv', ?_⟩
        rw [hm] at hL'
        rw [← hL', hn, hm]; exact hst
      have HN := Lib.hid hnext
      clear hrel2 hw2 hbut hst hnext
      go_wp2
      go_roundw
      case rel => exact ⟨i + 1, by omega, by go_num, HN.out⟩
      case measure => simp [intOf]; omega
    · have hin : i = n := by omega
      subst hin
      rw [Nat.sub_self, List.replicate_zero, List.append_nil] at hw
      rw [List.take_of_length_le (by omega)] at hv
      have HV := Lib.hid hv
      have hnn := val_nonneg hw.ok
      clear hv HR
      by_cases hlim : val A * val B < pw 640
      · have hfit := fit_ok _ D (i + m) (i + m) _ hD (Nat.le_refl _) (by unfold maxLen; omega) hw.ok hw.cells (by rw [HV.out]; exact hlim)
        have HL := Lib.hid hlim
        clear hlim
        go_wp2_with fail
        refine hfit.mono ?_
        rintro e w2 ⟨rfl, rfl⟩
        go_wp2
        refine HOK.out HL.out _ _ ⟨_, rfl, ?_, hw.below⟩
        exact Rd.trimmed hw.cells hw.ok (cap := i + m) (by omega) (by unfold maxLen; omega) (by rw [← HV.out]; omega)
      · have hfit := fit_over _ D (i + m) (i + m) _ hD (Nat.le_refl _) (by unfold maxLen; omega) hw.ok hw.cells (by rw [HV.out]; omega)
        have HL := Lib.hid (show pw 640 ≤ val A * val B by omega)
        clear hlim
        go_wp2_with fail
        refine hfit.mono ?_
        rintro e w2 ⟨rfl, rfl⟩
        exact ⟨rfl, HOV.out HL.out _ _ ⟨rfl, hw.below⟩⟩
end Go.Proofs.YtegjhkjmejckdaaDoor
