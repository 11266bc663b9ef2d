/- The reference's numbers. -/
import Derived.Test.YtomgihlkbmaleaaDoorT10
namespace Go.Proofs.YtomgihlkbmaleaaDoor
open Go.RowKit M
theorem Rd.later {w w' : World} {v : Value} {l : List Int} {B : Nat} (h : Rd w v l) (hb : Below B w w') (hB : w.heap.size ≤ B) : Rd w' v l := h.keep (hb.mono hB)
theorem OwnB.later {base : Nat} {w0 wr w' : World} {g : Nat} {L : List Int} (h : OwnB base w0 wr g L) (hb : Below wr.heap.size wr w') (hbb : base ≤ wr.heap.size) : OwnB base w0 w' g L := by
  obtain ⟨cur, hg, hs, hc⟩ := h.blk
  exact ⟨h.ok, h.ge, ⟨cur, by rw [hb.block g h.lt]; exact hg, hs, hc⟩, h.below.trans (hb.mono hbb)⟩
theorem fits_or (a : Nat) : Fits a ∨ Over a := by
  by_cases h : (a : Int) < pw 640
  · exact Or.inl ⟨h⟩
  · exact Or.inr ⟨by omega⟩
end Go.Proofs.YtomgihlkbmaleaaDoor
namespace Go.Proofs.YtomgihlkbmaleaaDoor
open Go.RowKit M
theorem u64_low (x : Nat) (h : x < 18446744073709551616) : bits .and .u64 (x : Int) 4294967295 = ((x % 4294967296 : Nat) : Int) := by
  have e : (4294967295 : Int) = ((4294967295 : Nat) : Int) := rfl
  rw [e, u64_and_nat x 4294967295 h (by omega)]
  rw [show (4294967295 : Nat) = 2 ^ 32 - 1 from rfl, Nat.and_two_pow_sub_one_eq_mod]
theorem u64_low_int (x : Int) (h0 : 0 ≤ x) (h : x < 18446744073709551616) : bits .and .u64 x 4294967295 = x % 4294967296 := by
  obtain ⟨n, rfl⟩ := Int.eq_ofNat_of_zero_le h0
  rw [u64_low n (by omega)]; rfl
theorem refTrim_any (ao : Option Addr) (l : List Int) (n cap : Nat) (w : World) (hn : l.length = n) (hcap : n ≤ cap) (hmax : cap ≤ maxLen) (hok : Ok l) (h : CellsK .u32 w ao l) :
    Calls Tryd.prog 101 #[.slice ao n cap] w fun e w' => e = .returned (.slice ao (trimL l).length cap) ∧ w = w' := by
  unfold maxLen at hmax
  subst hn
  go_enter Tryd.func101, Tryd.ntmps101
  go_wp2
  go_loop [3] (fun v => ∃ k : Nat, k ≤ l.length ∧ v = .int .i64 k ∧ Hid (trimL (l.take k) = trimL l)) (fun v => (intOf v).toNat)
  case atStart => exact ⟨l.length, Nat.le_refl _, rfl, by show _ = _; rw [List.take_length]⟩
  case round =>
    obtain ⟨k, hk, rfl, HT⟩ := hrel
    by_cases h0 : k = 0
    · subst h0
      have e : trimL l = [] := by rw [← HT.out]; simp [trimL_nil]
      have e2 : (trimL l).length = 0 := by rw [e]; rfl
      have HE := Lib.hid e2
      clear e e2 HT
      go_wp2
      go_ret
      exact ⟨by rw [HE.out]; rfl, rfl⟩
    · obtain ⟨a, rfl, ha, hc⟩ := h (by intro e; subst e; simp at hk; omega)
      have hcell := hc (k - 1) (by omega)
      obtain ⟨x, hx⟩ : ∃ x, x = l.getD (k - 1) 0 := ⟨_, rfl⟩
      rw [← hx] at hcell
      have HX := Lib.hid hx
      clear hc h hx
      by_cases hz : x = 0
      · subst hz
        go_wp2
        go_round
        case rel => exact ⟨k - 1, by omega, by go_num, by
          show _ = _
          have := trimL_step (l := l) (k := k - 1) (by omega) HX.out.symm
          rw [show k - 1 + 1 = k from by omega] at this
          exact this.symm.trans HT.out⟩
        case measure => simp [intOf]; omega
      · have hz' : (x == 0) = false := by simpa using hz
        have e : (trimL l).length = k := by
          have := trimL_stop hok (k := k - 1) (by omega) (by rw [← HX.out]; exact hz)
          rw [show k - 1 + 1 = k from by omega] at this
          rw [← HT.out, this, List.length_take]; omega
        have HE := Lib.hid e
        clear e hz HX HT
        go_wp2
        go_ret
        exact ⟨by rw [HE.out]; rfl, rfl⟩
theorem Rd.trimmedC {w : World} {ao : Option Addr} {l : List Int} {cap : Nat} {s : Nat} (h : CellsK .u32 w ao l) (hok : Ok l) (hcap : l.length ≤ cap) (hmax : cap ≤ maxLen) (hv : val l = s) : Rd w (.slice ao (trimL l).length cap) (limbs s) := by
  obtain ⟨k, hk, e⟩ := trimL_prefix hok _ rfl
  rw [← trimL_eq hv]
  refine ⟨by rw [e]; exact hok.take k, ao, _, rfl, by rw [e, List.length_take]; omega, hmax, fun hne => ?_⟩
  obtain ⟨a, rfl, ha, hc⟩ := h (by intro e'; subst e'; simp [trimL_nil] at hne)
  refine ⟨a, rfl, ha, fun i hi => ?_⟩
  rw [e, List.length_take] at hi
  rw [hc i (by omega), e]
  simp [List.getD, List.getElem?_take, show i < k from by omega]
theorem refBounded_ok (ao : Option Addr) (l : List Int) (n cap : Nat) (w : World) (hn : l.length = n) (hcap : n ≤ cap) (hmax : cap ≤ maxLen) (hok : Ok l) (h : CellsK .u32 w ao l) (hb : val l < pw 640) :
    Calls Tryd.prog 103 #[.slice ao n cap] w fun e w' => e = .returned (.tuple #[.slice ao (trimL l).length cap, .int .i64 0]) ∧ w = w' := by
  have hle : (trimL l).length ≤ 640 := limbs_length_le.2 (by have := val_nonneg hok; omega)
  obtain ⟨m, hm⟩ : ∃ m, m = (trimL l).length := ⟨_, rfl⟩
  rw [← hm] at hle ⊢
  have HM := Lib.hid hm
  clear hm
  go_enter Tryd.func103, Tryd.ntmps103
  go_wp2_with (go_at_call 101; refine (refTrim_any ao l n cap _ hn hcap hmax hok h).mono ?_; rintro e w' ⟨rfl, rfl⟩; rw [← HM.out])
  go_ret2
  exact ⟨rfl, rfl⟩
theorem refBounded_over (ao : Option Addr) (l : List Int) (n cap : Nat) (w : World) (hn : l.length = n) (hcap : n ≤ cap) (hmax : cap ≤ maxLen) (hok : Ok l) (h : CellsK .u32 w ao l) (hb : pw 640 ≤ val l) :
    Calls Tryd.prog 103 #[.slice ao n cap] w fun e w' => e = .returned (.tuple #[.slice none 0 0, .int .i64 2]) ∧ w = w' := by
  have hle : 640 < (trimL l).length := by
    by_cases hx : (trimL l).length ≤ 640
    · have := limbs_length_le.1 hx; omega
    · omega
  obtain ⟨m, hm⟩ : ∃ m, m = (trimL l).length := ⟨_, rfl⟩
  rw [← hm] at hle
  have HM := Lib.hid hm
  clear hm
  go_enter Tryd.func103, Tryd.ntmps103
  go_wp2_with (go_at_call 101; refine (refTrim_any ao l n cap _ hn hcap hmax hok h).mono ?_; rintro e w' ⟨rfl, rfl⟩; rw [← HM.out])
  go_ret2
  exact ⟨rfl, rfl⟩
theorem refValid_core (a : Addr) (n cap : Nat) (x : Int) (w : World) (h0 : 0 < n) (h1 : n ≤ 640) (hcell : w.cell? (a.add (n - 1)) = some (.int .u32 x)) :
    Calls Tryd.prog 100 #[.slice (some a) n cap] w fun e w' => e = .returned (.bool (!(x == 0))) ∧ w = w' := by
  have hz : ((n : Int) == 0) = false := beq_eq_false_iff_ne.2 (by omega)
  go_enter Tryd.func100, Tryd.ntmps100
  go_wp2
  go_ret
  exact ⟨rfl, rfl⟩
theorem refValid_any (ao : Option Addr) (l : List Int) (n cap : Nat) (w : World) (hn : l.length = n) (h : CellsK .u32 w ao l) :
    Calls Tryd.prog 100 #[.slice ao n cap] w fun e w' => e = .returned (.bool (isNat l)) ∧ w = w' := by
  by_cases h1 : 640 < n
  · have e : isNat l = false := by simp [isNat]; omega
    rw [e]; clear e h hn
    go_enter Tryd.func100, Tryd.ntmps100
    go_wp2
    go_ret
    exact ⟨rfl, rfl⟩
  · by_cases h0 : n = 0
    · subst h0
      have e : isNat l = true := by have : l = [] := by simpa using hn
                                    subst this; rfl
      rw [e]; clear e h hn
      go_enter Tryd.func100, Tryd.ntmps100
      go_wp2
      go_ret
      exact ⟨rfl, rfl⟩
    · obtain ⟨a, rfl, ha, hc⟩ := h (by intro e; subst e; simp at hn; omega)
      have hcell := hc (n - 1) (by omega)
      have hg : l.getLast? = some (l.getD (n - 1) 0) := by rw [List.getLast?_eq_getElem?, List.getD_eq_getElem?_getD, hn, List.getElem?_eq_getElem (by omega)]; rfl
      have e : isNat l = !(l.getD (n - 1) 0 == 0) := by simp [isNat, hg, hn, show n ≤ 640 from by omega]; rfl
      rw [e]
      exact refValid_core a n cap _ w (by omega) (by omega) hcell
theorem refBoth_any (ao bo : Option Addr) (A B : List Int) (n m ca cb : Nat) (w : World) (hn : A.length = n) (hm : B.length = m) (hca : CellsK .u32 w ao A) (hcb : CellsK .u32 w bo B) :
    Calls Tryd.prog 87 #[.slice ao n ca, .slice bo m cb] w fun e w' => e = .returned (.bool (isNat A && isNat B)) ∧ w = w' := by
  have h1 := Bx.mk (refValid_any ao A n ca w hn hca)
  have h2 := Bx.mk (refValid_any bo B m cb w hm hcb)
  obtain ⟨b1, e1⟩ : ∃ b, isNat A = b := ⟨_, rfl⟩
  obtain ⟨b2, e2⟩ : ∃ b, isNat B = b := ⟨_, rfl⟩
  rw [e1] at h1 ⊢
  rw [e2] at h2 ⊢
  clear e1 e2 hca hcb hn hm
  go_enter Tryd.func87, Tryd.ntmps87
  go_wp2_with fail
  refine h1.out.mono ?_
  rintro e w1 ⟨rfl, rfl⟩
  cases b1
  · go_wp2
    go_ret
    exact ⟨rfl, rfl⟩
  · go_wp2_with fail
    refine h2.out.mono ?_
    rintro e w1 ⟨rfl, rfl⟩
    go_wp2
    go_ret
    exact ⟨rfl, rfl⟩
theorem refMake_any (x : Nat) (w : World) (hx : x < 18446744073709551616) : Calls Tryd.prog 89 #[.int .u64 x] w (RetNat w x) := by
  have hb0 : (0 : Int) ≤ (x : Int) % 4294967296 ∧ (x : Int) % 4294967296 < 4294967296 := by omega
  have hb1 : (0 : Int) ≤ (x : Int) / 4294967296 ∧ (x : Int) / 4294967296 < 4294967296 := by omega
  have hv : val [(x : Int) % 4294967296, (x : Int) / 4294967296] = x := by simp only [val]; omega
  have hok : Ok [(x : Int) % 4294967296, (x : Int) / 4294967296] := Ok.cons hb0.1 hb0.2 (Ok.cons hb1.1 hb1.2 Ok.nil)
  have hown := World.ownsRow_lit (e := 96) (size := 1) (base := w.heap.size) w #[.int .u32 ((x : Int) % 4294967296), .int .u32 ((x : Int) / 4294967296)] 2 (Nat.le_refl _) (by unfold maxLen; omega) rfl
  have hcells : CellsK .u32 (w.alloc (.cells #[.int .u32 ((x : Int) % 4294967296), .int .u32 ((x : Int) / 4294967296)] 96)) (some ⟨w.heap.size, 0, none⟩) [(x : Int) % 4294967296, (x : Int) / 4294967296] := cells_of_owns hown
  have htrim := refTrim_any _ _ 2 2 _ rfl (Nat.le_refl _) (by unfold maxLen; omega) hok hcells
  have hrd := Rd.trimmedC (s := x) hcells hok (cap := 2) (by simp) (by unfold maxLen; omega) hv
  have hbel : Below w.heap.size w (w.alloc (.cells #[.int .u32 ((x : Int) % 4294967296), .int .u32 ((x : Int) / 4294967296)] 96)) := (Below.refl _ _).alloc (Nat.le_refl _) _
  have HT := Bx.mk htrim
  have HR := Bx.mk hrd
  have hlow := u64_low_int (x : Int) (by omega) (by omega)
  have hx' : (x : Int) < 18446744073709551616 := by omega
  clear htrim hrd hown hcells hok hv hx
  go_enter Tryd.func89, Tryd.ntmps89
  go_wp2_with fail
  refine HT.out.mono ?_
  rintro e w2 ⟨rfl, rfl⟩
  go_wp2
  go_ret
  exact ⟨_, rfl, HR.out, hbel⟩
end Go.Proofs.YtomgihlkbmaleaaDoor
namespace Go.Proofs.YtomgihlkbmaleaaDoor
open Go.RowKit M
theorem refOrder_eqlen (ao bo : Option Addr) (A B : List Int) (n ca cb : Nat) (w : World) (hn : A.length = n) (hm : B.length = n) (hn6 : n ≤ 100000)
    (hA : Ok A) (hB : Ok B) (hca : CellsK .u32 w ao A) (hcb : CellsK .u32 w bo B) :
    Calls Tryd.prog 88 #[.slice ao n ca, .slice bo n cb] w fun e w' => e = .returned (.int .i64 (cmpI (val A) (val B))) ∧ Quiet w w' := by
  go_enter Tryd.func88, Tryd.ntmps88
  go_wp2
  go_loopw [5] (fun v wr => ∃ k : Nat, k ≤ n ∧ v = .int .i64 ((k : Int) - 1) ∧ Hid (A.drop k = B.drop k) ∧ Quiet w wr) (fun v _ => (intOf v + 1).toNat)
  case atStart => exact ⟨n, Nat.le_refl _, by go_num, by show _ = _; rw [List.drop_eq_nil_of_le (by omega), List.drop_eq_nil_of_le (by omega)], Quiet.refl w⟩
  case round =>
    obtain ⟨k, hk, rfl, HD, hq⟩ := hrel
    by_cases h0 : k = 0
    · subst h0
      have e : cmpI (val A) (val B) = 0 := by
        have : A = B := by simpa using HD.out
        rw [this, cmpI_eq]
      have HE := Lib.hid e
      clear e
      go_wp2
      go_ret
      exact ⟨by rw [HE.out]; rfl, hq⟩
    · obtain ⟨a, rfl, _, hac⟩ := hca.keep (hq.below _) (by intro e; subst e; simp at hn; omega)
      obtain ⟨b, rfl, _, hbc⟩ := hcb.keep (hq.below _) (by intro e; subst e; simp at hm; omega)
      have hca1 := hac (k - 1) (by omega)
      have hcb1 := hbc (k - 1) (by omega)
      clear hac hbc
      obtain ⟨x, hx⟩ : ∃ x, x = A.getD (k - 1) 0 := ⟨_, rfl⟩
      obtain ⟨y, hy⟩ : ∃ y, y = B.getD (k - 1) 0 := ⟨_, rfl⟩
      rw [← hx] at hca1
      rw [← hy] at hcb1
      have HX := Lib.hid hx
      have HY := Lib.hid hy
      clear hx hy
      have hb1 : (0 : Int) ≤ (k : Int) - 1 := by omega
      have hb2 : (k : Int) - 1 < (n : Int) := by omega
      have hdd : A.drop (k - 1 + 1) = B.drop (k - 1 + 1) := by rw [show k - 1 + 1 = k from by omega]; exact HD.out
      rcases Int.lt_trichotomy x y with hlt | heq | hgt
      · have e : cmpI (val A) (val B) = -1 := cmpI_lt (val_lt_of_limb hA hB (k - 1) (by omega) (by omega) hdd (by rw [← HX.out, ← HY.out]; exact hlt))
        have HE := Lib.hid e
        have hd : decide (x < y) = true := by simpa using hlt
        clear e hdd HX HY HD
        go_wp2_with fail
        go_quiet (fail)
        go_wp2
        go_ret
        exact ⟨by rw [HE.out]; rfl, by first | exact hq.drewN _ | exact hq⟩
      · have hd : decide (x < y) = false := by simp; omega
        have hd2 : decide (y < x) = false := by simp; omega
        have HXY := Lib.hid heq
        clear heq hdd
        go_wp2_with fail
        go_quiet (fail)
        go_wp2_with fail
        go_quiet (fail)
        go_wp2
        go_roundw
        case rel => exact ⟨k - 1, by omega, by go_num, by
          show _ = _
          rw [drop_step A (k - 1) (by omega), drop_step B (k - 1) (by omega), ← HX.out, ← HY.out, HXY.out, show k - 1 + 1 = k from by omega, HD.out], by first | exact (hq.drewN _).drewN _ | exact hq.drewN _⟩
        case measure => simp [intOf]; omega
      · have e : cmpI (val A) (val B) = 1 := cmpI_gt (val_lt_of_limb hB hA (k - 1) (by omega) (by omega) hdd.symm (by rw [← HX.out, ← HY.out]; exact hgt))
        have HE := Lib.hid e
        have hd : decide (x < y) = false := by simp; omega
        have hd2 : decide (y < x) = true := by simpa using hgt
        clear e hdd HX HY HD
        go_wp2_with fail
        go_quiet (fail)
        go_wp2_with fail
        go_quiet (fail)
        go_wp2
        go_ret
        exact ⟨by rw [HE.out]; rfl, by first | exact (hq.drewN _).drewN _ | exact hq.drewN _ | exact hq⟩
/-- The reference's Order: the order of the values. -/
theorem refOrder_any (ao bo : Option Addr) (A B : List Int) (n m ca cb : Nat) (w : World) (hn : A.length = n) (hm : B.length = m) (hn6 : n ≤ 100000) (hm6 : m ≤ 100000)
    (hA : Ok A) (hB : Ok B) (lA : A.getLast? ≠ some 0) (lB : B.getLast? ≠ some 0) (hca : CellsK .u32 w ao A) (hcb : CellsK .u32 w bo B) :
    Calls Tryd.prog 88 #[.slice ao n ca, .slice bo m cb] w fun e w' => e = .returned (.int .i64 (cmpI (val A) (val B))) ∧ Quiet w w' := by
  rcases Nat.lt_trichotomy n m with hlt | heq | hgt
  · have e : cmpI (val A) (val B) = -1 := cmpI_lt (val_lt_of_len hA hB lB (by omega))
    have HE := Lib.hid e
    have hd : decide ((n : Int) < (m : Int)) = true := by simpa using hlt
    clear e lA lB hn hm hA hB
    go_enter Tryd.func88, Tryd.ntmps88
    go_wp2
    go_ret
    exact ⟨by rw [HE.out]; rfl, Quiet.refl w⟩
  · subst heq; exact refOrder_eqlen ao bo A B n ca cb w hn hm hn6 hA hB hca hcb
  · have e : cmpI (val A) (val B) = 1 := cmpI_gt (val_lt_of_len hB hA lA (by omega))
    have HE := Lib.hid e
    have hd : decide ((n : Int) < (m : Int)) = false := by simp; omega
    have hd2 : decide ((m : Int) < (n : Int)) = true := by simpa using hgt
    clear e lA lB hn hm hA hB
    go_enter Tryd.func88, Tryd.ntmps88
    go_wp2
    go_ret
    exact ⟨by rw [HE.out]; rfl, Quiet.refl w⟩
end Go.Proofs.YtomgihlkbmaleaaDoor
namespace Go.Proofs.YtomgihlkbmaleaaDoor
open Go.RowKit M
theorem Wrote.drewN {w wr : World} {M : Nat} {L : List Int} (h : Wrote w wr M L) (n : Nat) : Wrote w (wr.drewN n) M L := ⟨h.ok, h.own, below_drewN h.below n⟩
set_option maxHeartbeats 1600000 in
/-- The reference's Product: the product of the values, of any length. -/
theorem refProduct_any (ao bo : Option Addr) (A B : List Int) (n m ca cb : Nat) (w : World) (hn : A.length = n) (hm : B.length = m) (hn6 : n ≤ 50000) (hm6 : m ≤ 50000)
    (hA : Ok A) (hB : Ok B) (hca : CellsK .u32 w ao A) (hcb : CellsK .u32 w bo B) :
    Calls Tryd.prog 102 #[.slice ao n ca, .slice bo m cb] w (RetNat w (val A * val B).toNat) := by
  obtain ⟨i0, hi, hz0, hz1, hz2⟩ := info_parts Tryd.info96
  go_enter Tryd.func102, Tryd.ntmps102
  go_wp2_with (at_make; refine wpList_make_full _ rfl _ _ 71 rfl w.heap.size 96 i0 (.int .u32 0) 1 Tryd.underlying71 hi hz0 hz1 .i64 .i64 _ _ (n + m) rfl rfl (by push_cast; rfl) (by push_cast; rfl) (by rw [hz2]; omega) (by unfold maxLen; omega) (Nat.le_refl _) ?_; intro w1 hown hgrow)
  have hW := Wrote.made hown hgrow
  clear hown hgrow hi hz0 hz1 hz2
  go_loopw [6] (fun v wr => ∃ i : Nat, i ≤ n ∧ v = .int .i64 i ∧ MulRel w A B i wr) (fun v _ => n - (intOf v).toNat)
  case atStart => exact ⟨0, Nat.zero_le _, rfl, List.replicate m 0, by simp [hm], by simp [val, val_replicate], by rw [hn, hm, Nat.sub_zero, List.replicate_append_replicate, Nat.add_comm m n]; exact hW⟩
  case round =>
    obtain ⟨i, hi, rfl, hrel⟩ := hrel
    obtain ⟨D, hD, hv, hw⟩ := hrel
    rw [hm] at hD
    rw [hn, hm] at hw
    by_cases hlt : i < n
    · have hx := hA.getD i
      have HX := fun wr (hb : Below w.heap.size w wr) => (hca.keep hb) (by intro e; subst e; simp at hn; omega)
      obtain ⟨x, hxx⟩ : ∃ x, x = A.getD i 0 := ⟨_, rfl⟩
      rw [← hxx] at hx
      have HXX := Lib.hid hxx
      have HV := Lib.hid hv
      have HD := Lib.hid hD
      clear hxx hv hW hD
      go_wp2_with fail
      go_loopw [7, 8] (fun c j wr => ∃ (k : Nat) (cy : Int) (L : List Int), k ≤ m ∧ j = .int .i64 k ∧ c = .int .u64 cy ∧ AtRel (D ++ List.replicate (n - i) 0) i B x k cy L ∧ Wrote w wr (n + m) L) (fun _ j _ => m - (intOf j).toNat)
      case atStart => exact ⟨0, 0, _, Nat.zero_le _, rfl, rfl, ⟨Int.le_refl _, by omega, [], rfl, by simp, by simp [val]⟩, hw⟩
      case round =>
        obtain ⟨k, cy, L, hk, rfl, rfl, hrel, hw2⟩ := hrel
        have h0 := hrel.1
        have h1 := hrel.2.1
        have hL2 := hw2.len
        by_cases hkm : k < m
        · obtain ⟨a, rfl, _, hac⟩ := HX _ hw2.below
          obtain ⟨b, rfl, _, hbc⟩ := (hcb.keep hw2.below) (by intro e; subst e; simp at hm; omega)
          have hcA := hac i (by omega)
          rw [← HXX.out] at hcA
          have hcB := hbc k (by omega)
          have hcell := hw2.cell (i + k) (by omega)
          have hfree := hw2.free (i + k)
          have hst := atRel_step hw.ok hB hx.1 hx.2 hrel (by omega) (by rw [hw.len]; omega)
          have hl := hw2.ok.getD (i + k)
          have ha := hB.getD k
          have hm2 := mul_small x (B.getD k 0) hx.1 ha.1 hx.2 ha.2
          generalize B.getD k 0 = y at *
          generalize L.getD (i + k) 0 = l at *
          have hq0 : 0 ≤ x * y + l + cy := by omega
          have hq1 : x * y + l + cy < 18446744073709551616 := by omega
          have hst2 := hst.2
          have ecm : cy + (l + x * y) = x * y + l + cy := by omega
          rw [ecm] at hst2
          have hws := fun q => (hw2.drewN q).store (i + k) (x := (x * y + l + cy) % 4294967296) (by omega) (by omega)
          have hlow := u64_low_int (x * y + l + cy) hq0 (by omega)
          have HST := Lib.hid hst2
          have HWS := Lib.hid hws
          clear hst hst2 hws hrel hw2 hac hbc hL2 HX ecm
          go_wp2_with fail
          go_quiet (fail)
          go_wp2
          go_roundw
          case rel => exact ⟨k + 1, _, _, by omega, by go_num, rfl, HST.out, HWS.out _⟩
          case measure => simp [intOf]; omega
        · have hkn : k = m := by omega
          subst hkn
          have hcell := hw2.cell (i + k) (by omega)
          have hfree := hw2.free (i + k)
          have hst := hw2.store (i + k) h0 h1
          have hnext : MulRel w A B (i + 1) (wr.setCell ⟨w.heap.size, i + k, none⟩ (.int .u32 cy)) := by
            have h4 : AtRel (D ++ List.replicate (A.length - i) 0) i B (A.getD i 0) B.length cy L := by rw [hn, hm, ← HXX.out]; exact hrel
            obtain ⟨D', hD', hv', hL'⟩ := mul_lists (by omega) (by rw [hm]; exact HD.out) HV.out h4
            refine ⟨D', hD', hv', ?_⟩
            rw [hm] at hL'
            rw [← hL', hn, hm]; exact hst
          have HN := Lib.hid hnext
          clear hrel hw2 hst hnext HX
          go_wp2
          go_roundw
          case rel => exact ⟨i + 1, by omega, by go_num, HN.out⟩
          case measure => simp [intOf]; omega
    · have hin : i = n := by omega
      subst hin
      rw [Nat.sub_self, List.replicate_zero, List.append_nil] at hw
      rw [List.take_of_length_le (by omega)] at hv
      have HV := Lib.hid hv
      have hnn := val_nonneg hw.ok
      have htr := refTrim_any _ D (i + m) (i + m) wr hD (Nat.le_refl _) (by unfold maxLen; omega) hw.ok hw.cells
      clear hv hW
      go_wp2_with fail
      refine htr.mono ?_
      rintro e w2 ⟨rfl, rfl⟩
      go_wp2
      go_ret
      refine ⟨_, rfl, ?_, hw.below⟩
      exact Rd.trimmedC hw.cells hw.ok (cap := i + m) (by omega) (by unfold maxLen; omega) (by rw [← HV.out]; omega)
end Go.Proofs.YtomgihlkbmaleaaDoor
namespace Go.Proofs.YtomgihlkbmaleaaDoor
open Go.RowKit M
theorem toNat_mul (a b : Nat) : (val (limbs a) * val (limbs b)).toNat = a * b := by
  rw [val_limbs, val_limbs, ← Int.natCast_mul, Int.toNat_natCast]
theorem Fits.len {a : Nat} (h : Fits a) : (limbs a).length ≤ 640 := limbs_length_le.2 h.lt
theorem Over.len {a : Nat} (h : Over a) : 640 < (limbs a).length := by
  by_cases hx : (limbs a).length ≤ 640
  · have := limbs_length_le.1 hx; have := h.le; omega
  · omega
theorem refProduct_nat (ao bo : Option Addr) (a b na nb ca cb : Nat) (w : World) (hna : (limbs a).length = na) (hnb : (limbs b).length = nb) (ha : na ≤ 50000) (hb : nb ≤ 50000) (hca : CellsK .u32 w ao (limbs a)) (hcb : CellsK .u32 w bo (limbs b)) :
    Calls Tryd.prog 102 #[.slice ao na ca, .slice bo nb cb] w (RetNat w (a * b)) := by
  have h := refProduct_any ao bo (limbs a) (limbs b) na nb ca cb w hna hnb ha hb (ok_limbs a) (ok_limbs b) hca hcb
  rwa [toNat_mul] at h
theorem refMul_gen (ao bo : Option Addr) (a b na nb ca cb : Nat) (w : World) (hna : (limbs a).length = na) (hnb : (limbs b).length = nb) (ha : Fits a) (hb : Fits b) (hca : CellsK .u32 w ao (limbs a)) (hcb : CellsK .u32 w bo (limbs b)) (s : Nat) (c : Int)
    (hs : Fits (a * b) ∧ s = a * b ∧ c = 0 ∨ Over (a * b) ∧ s = 0 ∧ c = 2) :
    Calls Tryd.prog 92 #[.slice ao na ca, .slice bo nb cb] w (OutN w s c) := by
  have hboth := refBoth_any ao bo (limbs a) (limbs b) na nb ca cb w hna hnb hca hcb
  rw [isNat_limbs ha.lt, isNat_limbs hb.lt] at hboth
  have hp := refProduct_nat ao bo a b na nb ca cb w hna hnb (by have := ha.len; omega) (by have := hb.len; omega) hca hcb
  have H1 := Bx.mk hboth
  have H2 := Bx.mk hp
  clear hboth hp
  go_enter Tryd.func92, Tryd.ntmps92
  go_wp2_with fail
  refine H1.out.mono ?_
  rintro e w1 ⟨rfl, rfl⟩
  go_wp2_with fail
  refine H2.out.mono ?_
  rintro e w2 ⟨v, rfl, hrd, hb2⟩
  obtain ⟨po, cp, rfl, hpc, hpm, hpo⟩ := hrd.shape
  have HB := Bx.mk hb2
  rcases hs with ⟨hf, rfl, rfl⟩ | ⟨hf, rfl, rfl⟩
  · have hbd := refBounded_ok po (limbs (a * b)) _ cp w2 rfl hpc hpm (ok_limbs _) hpo (by rw [val_limbs]; exact hf.lt)
    have hT : trimL (limbs (a * b)) = limbs (a * b) := trimL_of_last (ok_limbs _) (limbs_last _)
    rw [hT] at hbd
    have HD := Bx.mk hbd
    have HR := Bx.mk hrd
    clear hrd hb2 hbd hT hf H1 H2
    go_wp2_with fail
    refine HD.out.mono ?_
    rintro e w3 ⟨rfl, rfl⟩
    go_wp2
    go_ret2
    exact ⟨_, rfl, HR.out, HB.out⟩
  · have hbd := refBounded_over po (limbs (a * b)) _ cp w2 rfl hpc hpm (ok_limbs _) hpo (by rw [val_limbs]; exact hf.le)
    have HD := Bx.mk hbd
    clear hrd hb2 hbd hf H1 H2
    go_wp2_with fail
    refine HD.out.mono ?_
    rintro e w3 ⟨rfl, rfl⟩
    go_wp2
    go_ret2
    exact ⟨_, rfl, by rw [limbs_zero]; exact Rd.nil _, HB.out⟩
theorem refCmp_gen (ao bo : Option Addr) (a b na nb ca cb : Nat) (w : World) (hna : (limbs a).length = na) (hnb : (limbs b).length = nb) (ha : Fits a) (hb : Fits b) (hca : CellsK .u32 w ao (limbs a)) (hcb : CellsK .u32 w bo (limbs b)) :
    Calls Tryd.prog 74 #[.slice ao na ca, .slice bo nb cb] w fun e w' => e = .returned (.tuple #[.int .i64 (cmpI a b), .int .i64 0]) ∧ Quiet w w' := by
  have hboth := refBoth_any ao bo (limbs a) (limbs b) na nb ca cb w hna hnb hca hcb
  rw [isNat_limbs ha.lt, isNat_limbs hb.lt] at hboth
  have ho := refOrder_any ao bo (limbs a) (limbs b) na nb ca cb w hna hnb (by have := ha.len; omega) (by have := hb.len; omega) (ok_limbs _) (ok_limbs _) (limbs_last _) (limbs_last _) hca hcb
  rw [val_limbs, val_limbs] at ho
  have H1 := Bx.mk hboth
  have H2 := Bx.mk ho
  generalize cmpI (a : Int) (b : Int) = c at *
  clear hboth ho
  go_enter Tryd.func74, Tryd.ntmps74
  go_wp2_with fail
  refine H1.out.mono ?_
  rintro e w1 ⟨rfl, rfl⟩
  go_wp2_with fail
  refine H2.out.mono ?_
  rintro e w2 ⟨rfl, hq⟩
  go_wp2
  go_ret2
  exact ⟨rfl, hq⟩
set_option maxHeartbeats 800000 in
theorem refPow_big (ao : Option Addr) (a n na ca : Nat) (w : World) (ha : Fits a) (ha2 : 2 ≤ a) (hna : (limbs a).length = na) (hn0 : 0 < n) (hn : n < 2 ^ 63) (hca : CellsK .u32 w ao (limbs a)) (R : Ending → World → Prop)
    (hok : Fits (a ^ n) → ∀ e w', OutN w (a ^ n) 0 e w' → R e w') (hov : Over (a ^ n) → ∀ e w', OutN w 0 2 e w' → R e w') :
    Calls Tryd.prog 90 #[.slice ao na ca, .int .i64 n] w R := by
  have HOK := Bx.mk hok
  have HOV := Bx.mk hov
  clear hok hov
  have hv := refValid_any ao (limbs a) na ca w hna hca
  rw [isNat_limbs ha.lt] at hv
  have h1 := refOrder_any ao (some ⟨w.heap.size, 0, none⟩) (limbs a) (limbs 1) na 1 ca 1 (w.alloc (.cells #[.int .u32 1] 96)) hna (by decide +kernel) (by have := ha.len; omega) (by omega) (ok_limbs _) (ok_limbs _) (limbs_last _) (limbs_last _) (hca.keep ((Below.refl _ _).alloc (Nat.le_refl _) _))
    (by obtain ⟨a1, c1, e1, h1, h2, h3⟩ := (rd_one w).shape
        simp only [Value.slice.injEq] at e1
        obtain ⟨rfl, -, -⟩ := e1
        exact h3)
  rw [val_limbs, val_limbs, show cmpI (a : Int) ((1 : Nat) : Int) = 1 from cmpI_gt (by omega)] at h1
  have H1 := Bx.mk hv
  have H2 := Bx.mk h1
  have hn' : (n : Int) ≤ 9223372036854775807 := by omega
  have hz : ((n : Int) == 0) = false := beq_eq_false_iff_ne.2 (by omega)
  have hz2 : decide ((n : Int) < 0) = false := by simp
  have HL := Bx.mk ha.len
  have HA2 := Bx.mk ha2
  have HN := Bx.mk hn
  have HBA := Bx.mk (show Below w.heap.size w (w.alloc (.cells #[.int .u32 1] 96)) from (Below.refl _ _).alloc (Nat.le_refl _) _)
  clear hv h1 ha ha2 hn
  go_enter Tryd.func90, Tryd.ntmps90
  go_wp2_with fail
  refine H1.out.mono ?_
  rintro e w1 ⟨rfl, rfl⟩
  go_wp2_with fail
  refine H2.out.mono ?_
  rintro e w2 ⟨rfl, hq⟩
  have HB2 := Bx.mk (HBA.out.trans ((hq.below _).mono HBA.out.size))
  clear hq H1 H2 HBA
  go_wp2_with fail
  go_loopw [6, 7] (fun v i wr => ∃ k : Nat, k ≤ n ∧ i = .int .i64 k ∧ Bx (Fits (a ^ k)) ∧ Rd wr v (limbs (a ^ k)) ∧ Below w.heap.size w wr) (fun _ i _ => n - (intOf i).toNat)
  case atStart => exact ⟨0, Nat.zero_le _, rfl, ⟨by rw [Nat.pow_zero]; exact fits_u64 (by omega)⟩, by rw [Nat.pow_zero]; exact rd_one _, HB2.out.alloc HB2.out.size _⟩
  case round =>
    obtain ⟨k, hk, rfl, HF, hr, hb⟩ := hrel
    obtain ⟨po, cp, rfl, hpc, hpm, hpo⟩ := hr.shape
    by_cases hlt : k < n
    · have hp := refProduct_nat po ao (a ^ k) a _ na cp ca wr rfl hna (by have := HF.out.len; omega) (by have := HL.out; omega) hpo (hca.keep hb)
      rw [← Nat.pow_succ] at hp
      have HP := Bx.mk hp
      have HB := Bx.mk hb
      have HK := Bx.mk hlt
      clear hp hr hpo hb
      go_wp2_with fail
      refine HP.out.mono ?_
      rintro e w3 ⟨v, rfl, hr, hb3⟩
      obtain ⟨qo, cq, rfl, hqc, hqm, hqo⟩ := hr.shape
      have HB3 := Bx.mk (HB.out.trans (hb3.mono HB.out.size))
      have HR := Bx.mk hr
      clear hr hb3 HP hqo
      rcases fits_or (a ^ (k + 1)) with hf | hf
      · have hl := hf.len
        have HF2 := Bx.mk hf
        clear hf
        have hd : decide ((640 : Int) < ((limbs (a ^ (k + 1))).length : Int)) = false := by simp; omega
        go_wp2
        go_roundw
        case rel => exact ⟨k + 1, by omega, by go_num, HF2, HR.out, HB3.out⟩
        case measure => simp [intOf]; omega
      · have hl := hf.len
        have HF2 : Bx (Over (a ^ n)) := ⟨hf.mono (Nat.pow_le_pow_right (by have := HA2.out; omega) HK.out)⟩
        clear hf
        have hd : decide ((640 : Int) < ((limbs (a ^ (k + 1))).length : Int)) = true := by simp; omega
        go_wp2
        exact HOV.out HF2.out _ _ ⟨_, rfl, by rw [limbs_zero]; exact Rd.nil _, HB3.out⟩
    · have hkn : k = n := by omega
      subst hkn
      have HR := Bx.mk hr
      have HB := Bx.mk hb
      clear hr hb hpo
      go_wp2
      exact HOK.out HF.out _ _ ⟨_, rfl, HR.out, HB.out⟩
theorem refCmp_ok {w : World} {L : List (Value × Nat)} {va vb : Value} {a b : Nat} (hL : Live w L) (ha : (va, a) ∈ L) (hb : (vb, b) ∈ L) : Calls Tryd.prog 74 #[va, vb] w fun e w' => e = .returned (.tuple #[.int .i64 (cmpI a b), .int .i64 0]) ∧ Live w' L ∧ Below w.heap.size w w' := by
  have na : Nm w va a := hL _ ha
  have nb : Nm w vb b := hL _ hb
  obtain ⟨ao, ca, e1, hca⟩ := na.shape
  obtain ⟨bo, cb, e2, hcb⟩ := nb.shape
  subst e1 e2
  exact (refCmp_gen ao bo a b _ _ ca cb w rfl rfl na.fits nb.fits hca hcb).mono fun _ _ h => ⟨h.1, hL.keep (h.2.below _), h.2.below _⟩
end Go.Proofs.YtomgihlkbmaleaaDoor
namespace Go.Proofs.YtomgihlkbmaleaaDoor
open Go.RowKit M
/-- A slice of limbs of the call's own that grows by append. -/
structure Apd (w wr : World) (v : Value) (C : List Int) : Prop where
  ok : Ok C
  own : wr.ownsRow w.heap.size 96 1 v C.length (C.map (Value.int .u32))
  below : Below w.heap.size w wr
theorem Apd.nil (w : World) : Apd w w (.slice none 0 0) [] := ⟨Ok.nil, World.ownsRow_nil w _ _ _, Below.refl _ _⟩
theorem Apd.drewN {w wr : World} {v : Value} {C : List Int} (h : Apd w wr v C) (n : Nat) : Apd w (wr.drewN n) v C := ⟨h.ok, h.own, below_drewN h.below n⟩
theorem Apd.shape {w wr : World} {v : Value} {C : List Int} (h : Apd w wr v C) : ∃ ao cap, v = .slice ao C.length cap ∧ C.length ≤ cap ∧ cap ≤ maxLen ∧ CellsK .u32 wr ao C := by
  have hown := h.own
  rcases h.own.2 with ⟨h', h2⟩ | ⟨g, cap, cur, h', hb, hg, hnc, hm, hs, ht⟩
  · have hl : C.length = 0 := by have := h2; simp_all
    have hC : C = [] := List.length_eq_zero_iff.1 hl
    subst hC
    exact ⟨none, 0, h', Nat.le_refl _, by unfold maxLen; omega, CellsK.nil⟩
  · subst h'
    exact ⟨some ⟨g, 0, none⟩, cap, rfl, hnc, hm, cells_of_owns hown⟩
end Go.Proofs.YtomgihlkbmaleaaDoor
