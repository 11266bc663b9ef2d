/- natural.decimal: the text of a natural number. -/
import Derived.Test.YtegjhkjmejckdaaDoorN17
namespace Go.Proofs.YtegjhkjmejckdaaDoor
open Go.RowKit M
theorem Tryd.info5 : (Tryd.prog.info? 5).map (fun i => (i.zero, i.size, i.bytes)) = some (some (.int .u8 0), 1, 1) := by kernel_rfl
def tlen : Value → Nat | .slice _ n _ => n | _ => 0
theorem tlen_owns {w : World} {base e size n : Nat} {v : Value} {xs : List Value} (h : w.ownsRow base e size v n xs) : tlen v = n := by
  rcases h.2 with ⟨rfl, rfl⟩ | ⟨g, cap, cur, rfl, _⟩ <;> rfl
theorem row_ne {w w0 : World} {base b g n : Nat} {v : Value} {xs : List Value} {L : List Int} (h : w.ownsRow base 5 1 v n xs) (hO : OwnB b w0 w g L) : v.ownBlock ≠ some g := by
  rcases h.2 with ⟨rfl, rfl⟩ | ⟨g', cap, cur, rfl, _, hh, _⟩
  · simp [Value.ownBlock]
  · intro e
    obtain rfl : g' = g := Option.some.inj e
    obtain ⟨cur', hg, _⟩ := hO.blk
    rw [hh] at hg; simp at hg
theorem OwnB.grown {b : Nat} {w0 w w1 : World} {g : Nat} {L : List Int} {o : Obj} {row : Option Nat} (hO : OwnB b w0 w g L) (hg : (w.alloc o).grownBy w1 row) (hne : row ≠ some g) (hb : b ≤ w.heap.size) (hrow : ∀ k, row = some k → b ≤ k) : OwnB b w0 w1 g L := by
  obtain ⟨cur, hh, hs, hc⟩ := hO.blk
  have hlt := hO.lt
  refine ⟨hO.ok, hO.ge, ⟨cur, ?_, hs, hc⟩, (hO.below.alloc hb o).grown hg (by simp; omega) hrow⟩
  rw [hg.block g (by simp; omega) (by intro e; exact hne e.symm), Below.heap_alloc w o g hlt]; exact hh
theorem OwnB.trimmed {base : Nat} {w0 wr : World} {g : Nat} {L : List Int} {s : Nat} (h : OwnB base w0 wr g L) (hv : val L = s) : OwnB base w0 wr g (limbs s) ∧ (limbs s).length ≤ L.length ∧ (trimL L).length = (limbs s).length := by
  obtain ⟨k, hk, e⟩ := trimL_prefix h.ok _ rfl
  rw [trimL_eq hv] at e
  exact ⟨by rw [e]; exact h.take k, by rw [e, List.length_take]; omega, by rw [trimL_eq hv]⟩
theorem pw_nat (k : Nat) : ((4294967296 ^ k : Nat) : Int) = pw k := by unfold pw; exact Int.natCast_pow _ _
theorem pow_bound_gen {a k K : Nat} (ha : (a : Int) < pw K) (h : 10 ^ k ≤ a) : k < 32 * K := by
  have e := pw_nat K
  have h1 : a < 4294967296 ^ K := by
    rw [← e] at ha
    exact Int.ofNat_lt.1 ha
  have e2 : (4294967296 : Nat) ^ K = 2 ^ (32 * K) := by rw [show (4294967296 : Nat) = 2 ^ 32 from rfl, ← Nat.pow_mul]
  have h2 : 2 ^ k ≤ 10 ^ k := Nat.pow_le_pow_left (by omega) k
  rw [e2] at h1
  exact (Nat.pow_lt_pow_iff_right (a := 2) (by omega)).1 (Nat.lt_of_le_of_lt (Nat.le_trans h2 h) h1)
theorem pow_bound {a k : Nat} (ha : (a : Int) < pw 640) (h : 10 ^ k ≤ a) : k < 20480 := by
  have := pow_bound_gen ha h
  omega
theorem owns_keep {w w' : World} {base n : Nat} {v : Value} {xs : List Value} {g : Nat} (h : w.ownsRow base 5 1 v n xs) (hb : But g w w') (hne : v.ownBlock ≠ some g) : w'.ownsRow base 5 1 v n xs := by
  refine ⟨h.1, ?_⟩
  rcases h.2 with hn | ⟨g', cap, cur, rfl, hb', hgg, rest⟩
  · exact .inl hn
  · refine .inr ⟨g', cap, cur, rfl, hb', ?_, rest⟩
    rw [hb.2 g' (by intro e; subst e; exact hne rfl)]; exact hgg
theorem decimal_zero (ao : Option Addr) (ca : Nat) (w : World) : Calls Tryd.prog 61 #[.slice ao 0 ca] w fun e w' => e = .returned (.string ⟨#[48]⟩) ∧ w = w' := by
  go_enter Tryd.func61, Tryd.ntmps61
  go_wp2
  go_ret
  exact ⟨rfl, rfl⟩
set_option maxHeartbeats 3200000 in
set_option maxRecDepth 20000 in
theorem decimal_pos (ao : Option Addr) (a : Nat) (n ca : Nat) (w : World) (ha0 : a ≠ 0) (hn : (limbs a).length = n) (ha : (a : Int) < pw 640) (hca : CellsK .u32 w ao (limbs a)) :
    Calls Tryd.prog 61 #[.slice ao n ca] w fun e w' => e = .returned (.string (strOfNums (dig a).reverse)) ∧ Below w.heap.size w w' := by
  have hn6 := limbs_length_le.2 ha
  rw [hn] at hn6
  have hne : limbs a ≠ [] := by intro e; exact ha0 (limbs_nil.1 e)
  have hn0 : ((n : Int) == 0) = false := beq_eq_false_iff_ne.2 (by have := List.length_pos_iff.2 hne; omega)
  obtain ⟨x, rfl, _⟩ := hca hne
  have hclone := clone_any x (limbs a) n ca w hn (by omega) (ok_limbs a) hca
  obtain ⟨i0, hi, hz0, hz1, hz2⟩ := info_parts Tryd.info5
  have HCL := Bx.mk hclone
  have HA := Bx.mk ha
  have HA0 := Bx.mk ha0
  clear hclone ha ha0 hne hca
  go_enter Tryd.func61, Tryd.ntmps61
  go_wp2_with fail
  refine HCL.out.mono ?_
  rintro e w1 ⟨g, cap, rfl, hc1, hc2, hown⟩
  go_wp2_with fail
  have hst0 : ∃ (t cap' : Nat), (Value.slice (some ⟨g, 0, none⟩) n cap) = .slice (some ⟨g, 0, none⟩) (limbs (a / 10 ^ (9 * t))).length cap' ∧ (limbs (a / 10 ^ (9 * t))).length ≤ cap' ∧ cap' ≤ maxLen ∧ OwnB w.heap.size w w1 g (limbs (a / 10 ^ (9 * t))) ∧
      w1.ownsRow w.heap.size 5 1 (.slice none 0 0) (9 * t) ((fdig (9 * t) a).map (Value.int .u8)) ∧ 9 * t ≤ 20490 :=
    ⟨0, cap, by simp [hn], by simp [hn]; exact hc1, hc2, by simpa using hown, by simpa [fdig] using World.ownsRow_nil w1 _ _ _, by omega⟩
  have HST0 := Bx.mk hst0
  clear hst0 hown hc1 hc2
  go_loopw [3, 4] (fun rv tv wr => ∃ (t cap' : Nat), rv = .slice (some ⟨g, 0, none⟩) (limbs (a / 10 ^ (9 * t))).length cap' ∧ (limbs (a / 10 ^ (9 * t))).length ≤ cap' ∧ cap' ≤ maxLen ∧ OwnB w.heap.size w wr g (limbs (a / 10 ^ (9 * t))) ∧
      wr.ownsRow w.heap.size 5 1 tv (9 * t) ((fdig (9 * t) a).map (Value.int .u8)) ∧ 9 * t ≤ 20490) (fun _ tv _ => 30000 - tlen tv)
  case atStart => exact HST0.out
  case round =>
    obtain ⟨t, cap', rfl, hc1, hc2, hown, hrow, ht⟩ := hrel
    by_cases hv0 : a / 10 ^ (9 * t) = 0
    · have halt : a < 10 ^ (9 * t) := by
        by_cases h : a < 10 ^ (9 * t)
        · exact h
        · have := Nat.div_pos (show 10 ^ (9 * t) ≤ a by omega) (Nat.pow_pos (by omega)); omega
      obtain ⟨m, hm⟩ := fdig_eq (9 * t) a halt
      have ht0 : t ≠ 0 := by intro e; subst e; simp at halt; exact HA0.out halt
      have hTn := fdig_length (9 * t) a
      obtain ⟨gt, ct, htv, hctn, hown2⟩ : ∃ gt ct, u4 = .slice (some ⟨gt, 0, none⟩) (9 * t) ct ∧ 9 * t ≤ ct ∧ OwnY w.heap.size w wr gt (fdig (9 * t) a) := by
        rcases hrow.2 with ⟨_, h0⟩ | ⟨gt, ct, cur, htv, _, _, hnc, _⟩
        · omega
        · refine ⟨gt, ct, htv, hnc, OwnY.of_owns (n := 9 * t) (cap := ct) ?_ hown.below⟩
          rw [htv] at hrow; exact hrow
      have hlz : (limbs (a / 10 ^ (9 * t))).length = 0 := by rw [hv0, limbs_zero]; rfl
      rw [hlz, htv]
      have htr := trimRight_any gt (9 * t) ct (fdig (9 * t) a) wr (dig a) m hm (dig_last a) hTn (by omega) (by omega) hctn (fun i hi => hown2.cell i (by omega))
      have hD := hown2.take (dig a).length
      rw [hm, List.take_append_of_le_length (Nat.le_refl _), List.take_of_length_le (Nat.le_refl _)] at hD
      have hDlen : (dig a).length ≤ 9 * t := by rw [hm] at hTn; simp at hTn; omega
      have hrev := fun cc => reverse_any w.heap.size w wr gt (dig a).length cc (dig a) rfl (by omega) hD
      have HTR := Bx.mk htr
      have HREV := Bx.mk hrev
      clear htr hrev hD hown2 hm hTn hrow hown htv hlz hv0 hc1 hc2
      go_wp2_with fail
      refine HTR.out.mono ?_
      rintro e w2 ⟨⟨cc, rfl⟩, rfl⟩
      go_wp2_with fail
      refine (HREV.out _).mono ?_
      rintro e w3 ⟨rfl, hown3⟩
      have hconv := run_convert_bytes_arg (P := Tryd.prog) w3 45 5 Tryd.underlying45 Tryd.underlying5 gt 0 (dig a).length cc (dig a).reverse (by simp) (fun i hi => by rw [Nat.zero_add]; exact hown3.cell i (by simpa using hi)) 9 Tryd.underlying9
      have hbel := hown3.below
      clear hown3
      go_wp2
      go_ret
      exact ⟨rfl, hbel⟩
    · have hp := pow_bound HA.out (k := 9 * t) (by
        by_cases h : 10 ^ (9 * t) ≤ a
        · exact h
        · exact absurd (Nat.div_eq_of_lt (by omega)) hv0)
      obtain ⟨v, hv⟩ : ∃ v, a / 10 ^ (9 * t) = v := ⟨_, rfl⟩
      rw [hv] at hc1 hown hv0 ⊢
      have hlen0 : 0 < (limbs v).length := List.length_pos_iff.2 (by intro e; exact hv0 (limbs_nil.1 e))
      have hlen6 : (limbs v).length ≤ 640 := limbs_length_le.2 (by
        have h1 : v ≤ a := by rw [← hv]; exact Nat.div_le_self _ _
        have := HA.out; omega)
      have hdiv := divideBy_any w.heap.size w wr g (limbs v).length cap' (limbs v) 1000000000 rfl (by omega) (by omega) (by omega) hown
      have hne := row_ne hrow hown
      have HLEN0 := Bx.mk (tlen_owns hrow)
      have HD := Bx.mk hdiv
      have HV := Bx.mk hv
      have HNE := Bx.mk hne
      clear hdiv hv hne
      go_wp2_with fail
      refine HD.out.mono ?_
      rintro e w2 ⟨r, L', rfl, r0, r1, hL', hvv, hown2, hbut⟩
      obtain ⟨G, rfl⟩ := Int.eq_ofNat_of_zero_le r0
      have hrow2 := owns_keep hrow hbut HNE.out
      rw [val_limbs] at hvv
      have hLn := val_nonneg hown2.ok
      obtain ⟨q, hq⟩ := Int.eq_ofNat_of_zero_le hLn
      have hG : G = v % 1000000000 ∧ q = v / 1000000000 := by rw [hq] at hvv; omega
      have hrow3 : w2.ownsRow w.heap.size 5 1 u4 (9 * t + 0) ((fdig (9 * t) a ++ fdig 0 G).map (Value.int .u8)) := by simpa [fdig] using hrow2
      have HG := Bx.mk hG
      have HQ := Bx.mk hq
      clear hbut hvv hLn hrow2 hrow hown hG hq
      obtain ⟨wo, rfl⟩ : ∃ wo : World, wo = w2 := ⟨_, rfl⟩
      have hBsz := hown2.below.size
      have hst0 : ∃ j : Nat, j ≤ 9 ∧ (Value.int .i64 0) = .int .i64 (j : Int) ∧ (Value.int .u32 (G : Int)) = .int .u32 ((G / 10 ^ j : Nat) : Int) ∧ wo.ownsRow w.heap.size 5 1 u4 (9 * t + j) ((fdig (9 * t) a ++ fdig j G).map (Value.int .u8)) ∧ OwnB w.heap.size w wo g L' :=
        ⟨0, by omega, rfl, by simp, hrow3, hown2⟩
      have HST0 := Bx.mk hst0
      have hGlt : (G : Int) ≤ 999999999 := by have := HG.out.1; omega
      have HL' := Bx.mk hL'
      clear hst0 hrow3 hown2 hL' r0 r1
      go_wp2_with fail
      go_loopw [4, 5, 16] (fun tv gv iv wr => ∃ j : Nat, j ≤ 9 ∧ iv = .int .i64 j ∧ gv = .int .u32 ((G / 10 ^ j : Nat) : Int) ∧ wr.ownsRow w.heap.size 5 1 tv (9 * t + j) ((fdig (9 * t) a ++ fdig j G).map (Value.int .u8)) ∧ OwnB w.heap.size w wr g L') (fun _ _ iv _ => 9 - (intOf iv).toNat)
      case atStart => exact HST0.out
      case round =>
        obtain ⟨j, hj, rfl, rfl, hrow, hownR⟩ := hrel
        by_cases hlt : j < 9
        · obtain ⟨y, hy⟩ : ∃ y, G / 10 ^ j = y := ⟨_, rfl⟩
          have hyG : y ≤ G := by rw [← hy]; exact Nat.div_le_self _ _
          have hyl : (y : Int) ≤ 999999999 := by omega
          have hd0 : (0 : Int) ≤ 48 + (y : Int) % 10 := by omega
          have hd1 : 48 + (y : Int) % 10 ≤ 57 := by omega
          have hnext : fdig (9 * t) a ++ fdig (j + 1) G = (fdig (9 * t) a ++ fdig j G) ++ [48 + (y : Int) % 10] := by
            rw [fdig_add j 1 G, hy, List.append_assoc]; rfl
          have hydiv : G / 10 ^ (j + 1) = y / 10 := by rw [Nat.pow_succ, ← Nat.div_div_eq_div_mul, hy]
          have hne := row_ne hrow hownR
          have hrb := hrow.lt
          have hwsz := hownR.below.size
          rw [hy]
          have HNX := Bx.mk hnext
          have HYD := Bx.mk hydiv
          have HNE := Bx.mk hne
          have HRB := Bx.mk hrb
          have HOR := Bx.mk hownR
          clear hnext hydiv hne hrb hownR hyG hy
          go_wp2_with (at_builtin; refine wpList_append_own _ rfl _ _ 45 rfl w.heap.size 5 i0 (.int .u8 0) 1 1 Tryd.underlying45 hi hz0 hz1 hz2 rfl (by decide) _ _ _ rfl (hrow.alloc _) ⟨wr.heap.size, 0, none⟩ 1 1 [.int .u8 (48 + (y : Int) % 10)] rfl rfl ?c1 ?c2 ?c3 ?c4 ?c5 ?_)
          case c1 =>
            intro j u hj
            match j, hj with
            | 0, hj => simp at hj; subst hj; simp [Addr.add]
          case c2 => intro u hu; simp at hu; subst hu; rfl
          case c3 => unfold maxLen; omega
          case c4 => omega
          case c5 => simp; omega
          intro v' w3 hown' hgrow' _
          have hrow' : w3.ownsRow w.heap.size 5 1 v' (9 * t + (j + 1)) ((fdig (9 * t) a ++ fdig (j + 1) G).map (Value.int .u8)) := by
            rw [HNX.out, List.map_append, List.map_append, List.append_assoc]; exact hown'
          have hOR' := HOR.out.grown hgrow' HNE.out hwsz (fun k hk => (HRB.out k hk).1)
          have HR' := Bx.mk hrow'
          have HO' := Bx.mk hOR'
          clear hown' hgrow' hrow' hOR' hrow
          go_wp2
          go_roundw
          case rel => exact ⟨j + 1, by omega, by go_num, by rw [HYD.out]; push_cast; rfl, HR'.out, HO'.out⟩
          case measure => simp [intOf]; omega
        · have hj9 : j = 9 := by omega
          subst hj9
          have htrim' := hownR.trimmed HQ.out
          have htc := trim_any (some ⟨g, 0, none⟩) L' (limbs v).length cap' wr HL'.out hc1 hc2 hownR.ok hownR.cells
          rw [htrim'.2.2] at htc
          have hq2 : q = a / 10 ^ (9 * (t + 1)) := by
            rw [HG.out.2, ← HV.out, Nat.div_div_eq_div_mul, show 9 * (t + 1) = 9 * t + 9 from by omega, Nat.pow_add]
          have hT : fdig (9 * t) a ++ fdig 9 G = fdig (9 * (t + 1)) a := by
            rw [show 9 * (t + 1) = 9 * t + 9 from by omega, fdig_add, HV.out, HG.out.1]
            have e := fdig_mod 9 v
            rw [show (10 : Nat) ^ 9 = 1000000000 from rfl] at e
            rw [e]
          have hlq : (limbs q).length ≤ cap' := by have := htrim'.2.1; have := HL'.out; omega
          have hlq2 : (limbs q).length ≤ maxLen := Nat.le_trans hlq hc2
          have hlen := tlen_owns hrow
          have HTC := Bx.mk htc
          have HQ2 := Bx.mk hq2
          have HTT := Bx.mk hT
          have HTR := Bx.mk htrim'.1
          have HROW := Bx.mk hrow
          have HLEN := Bx.mk hlen
          clear htrim' htc hq2 hT hrow hlen hownR
          go_wp2_with fail
          refine HTC.out.mono ?_
          rintro e w4 ⟨rfl, rfl⟩
          go_wp2
          go_roundw
          case rel => exact ⟨t + 1, (limbs q).length, by rw [← HQ2.out], by rw [← HQ2.out]; exact Nat.le_refl _, hlq2, by rw [← HQ2.out]; exact HTR.out, by rw [← HTT.out, show 9 * (t + 1) = 9 * t + 9 from by omega]; exact HROW.out, by omega⟩
          case measure => rw [HLEN.out, HLEN0.out]; omega
end Go.Proofs.YtegjhkjmejckdaaDoor
