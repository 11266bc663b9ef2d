/- read. -/
import Derived.Test.YthfpkjeobdajiabGreatDoorR15
import Derived.Test.YthfpkjeobdajiabGreatDoorL0
namespace Go.Proofs.YthfpkjeobdajiabGreatDoor
open Go.RowKit M
/-- A number, and whether there is one. -/
def ReadR (q : Res) (w : World) (e : Ending) (w' : World) : Prop := e = .returned (.tuple #[RV q.n q.d, .bool (q.e == 0)]) ∧ Below w.heap.size w w'
theorem toList_ne {t s : ByteArray} (h : ¬ t = s) : (t.toList == s.toList) = false := beq_eq_false_iff_ne.2 fun e => h (by
  rw [ByteArray.toList_eq, ByteArray.toList_eq] at e
  apply ByteArray.ext
  apply Array.ext'
  exact e)
set_option maxHeartbeats 4000000 in
theorem read_core (s ab be below : ByteArray) (b : Bool) (q : Res) (w : World) (ht : Tv w)
    (HC : Bx (∀ w : World, Calls Tryz.prog 67 #[.string s, .string ⟨#[47]⟩] w fun e w' => e = .returned (.tuple #[.string ab, .string be, .bool b]) ∧ Below w.heap.size w w'))
    (HA : Bx (∀ w : World, Ev w → Calls Tryz.prog 68 #[.string ab] w (AtR ab.data.toList w))) (HB : Bx (∀ w : World, Ev w → Calls Tryz.prog 68 #[.string below] w (AtR below.data.toList w)))
    (hbel : below = if b then be else ⟨#[49]⟩)
    (hq1 : (∀ v, ¬ Lib.atoiAll ab.data.toList = .ok v) → q = ⟨0, 0, 8⟩) (hq2 : (∀ v, ¬ Lib.atoiAll below.data.toList = .ok v) → q = ⟨0, 0, 8⟩)
    (hq3 : ∀ n d, Lib.atoiAll ab.data.toList = .ok n → Lib.atoiAll below.data.toList = .ok d → ¬ (validQ n d = true ∧ textL n d = s.data.toList) → q = ⟨0, 0, 8⟩)
    (hq4 : ∀ n d, Lib.atoiAll ab.data.toList = .ok n → Lib.atoiAll below.data.toList = .ok d → validQ n d = true ∧ textL n d = s.data.toList → q = ⟨n, d, 0⟩) :
    Calls Tryz.prog 50 #[.string s] w (ReadR q w) := by
  cases b
  all_goals
    simp only [Bool.false_eq_true, if_false, if_true] at hbel
    subst hbel
    go_enter Tryz.func50, Tryz.ntmps50
    go_wp2_with fail
    refine (HC.out _).mono ?_
    rintro e w1 ⟨rfl, hb⟩
    have P := Bx.mk ((Plc.fresh w).keep hb)
    have T := Bx.mk (ht.keep (((Below.refl _ _).alloc (Nat.le_refl _) _).trans (hb.mono (by simp <;> omega))))
    have HBL := Bx.mk ((show Below w.heap.size w (w.alloc (.cells #[.int .i64 0, .int .i64 0] 23)) from by repeat (first | exact Below.refl _ _ | apply below_drewN | refine Below.setCell ?_ (by simp <;> omega) _ | refine Below.alloc ?_ (by simp <;> omega) _)).trans (hb.mono (by simp <;> omega)))
    clear hb
    obtain ⟨z0, z1, z2, z3, z4⟩ := P.out
    go_wp2_with fail
    refine (HA.out _ T.out.ev).mono ?_
    rintro e w2 ⟨⟨n, ev, rfl, hcase⟩, hb⟩
    have P := Bx.mk (P.out.keep hb)
    have T := Bx.mk (T.out.keep hb)
    have HBL := Bx.mk (HBL.out.trans (hb.mono HBL.out.size))
    clear z0 z1 z2 z3 z4 hb
    obtain ⟨z0, z1, z2, z3, z4⟩ := P.out
    rcases hcase with ⟨hn, rfl⟩ | ⟨hn, N1, rfl⟩
    · go_wp2_with fail
      refine (HB.out _ T.out.ev).mono ?_
      rintro e w3 ⟨⟨d, ev2, rfl, hcase⟩, hb⟩
      have P := Bx.mk (P.out.keep hb)
      have T := Bx.mk (T.out.keep hb)
      have HBL := Bx.mk (HBL.out.trans (hb.mono HBL.out.size))
      clear z0 z1 z2 z3 z4 hb
      obtain ⟨z0, z1, z2, z3, z4⟩ := P.out
      rcases hcase with ⟨hd, rfl⟩ | ⟨hd, N2, rfl⟩
      · have bn := Lib.atoiAll_bounds hn
        have bd := Lib.atoiAll_bounds hd
        have i1 : I64 n := ⟨bn.1, bn.2⟩
        have i2 : I64 d := ⟨bd.1, bd.2⟩
        cases hv : validQ n d
        · have HV := Bx.mk (fun w => valid_v n d false w i1 i2 hv)
          have HQ := Bx.mk (show q = ⟨0, 0, 8⟩ from hq3 n d hn hd (fun h => by rw [hv] at h; cases h.1))
          clear i1 i2 bn bd hv hn hd
          go_wp2_with fail
          refine (HV.out _).mono ?_
          rintro e w4 ⟨rfl, hb⟩
          have P := Bx.mk ((P.out.keep ((Below.refl _ _).alloc (Nat.le_refl _) _)).keep hb)
          have HBL := Bx.mk ((HBL.out.alloc HBL.out.size (.cells #[.int .i64 n, .int .i64 d] 23)).trans (hb.mono (by have := HBL.out.size; simp <;> omega)))
          clear z0 z1 z2 z3 z4 hb
          obtain ⟨z0, z1, z2, z3, z4⟩ := P.out
          go_wp2_with fail
          (try simp only [Exit.inBlock, Exit.then])
          refine bodyPost_ret_by (v := .tuple #[RV 0 0, .bool false]) (by simp [results, Tryz.results50, go_sem, z1, z2, z0]) rfl ?_
          rw [HQ.out]
          exact ⟨rfl, by repeat (first | exact HBL.out | refine Below.setCell ?_ (by simp <;> omega) _ | refine Below.alloc ?_ (by simp <;> omega) _)⟩
        · have HV := Bx.mk (fun w => valid_v n d true w i1 i2 hv)
          have HT := Bx.mk (fun w h => text_any n d w (validQ_bd _ _ hv) h)
          by_cases hts : strL (textL n d) = s
          · have HQ := Bx.mk (show q = ⟨n, d, 0⟩ from hq4 n d hn hd ⟨hv, by rw [← hts]⟩)
            rw [hts] at HT
            clear i1 i2 bn bd hv hn hd hts
            go_wp2_with fail
            refine (HV.out _).mono ?_
            rintro e w4 ⟨rfl, hb⟩
            have hA := (Below.refl w3.heap.size w3).alloc (Nat.le_refl _) (.cells #[.int .i64 n, .int .i64 d] 23)
            have P := Bx.mk ((P.out.keep hA).keep hb)
            have K := Bx.mk ((Cap.fresh w3 n d).keep hb)
            have T := Bx.mk ((T.out.keep hA).keep hb)
            have HBL := Bx.mk ((HBL.out.trans (hA.mono HBL.out.size)).trans (hb.mono (by have := HBL.out.size; simp <;> omega)))
            clear z0 z1 z2 z3 z4 hb hA
            obtain ⟨z0, z1, z2, z3, z4⟩ := P.out
            obtain ⟨y0, y1, y2⟩ := K.out
            go_wp2_with fail
            refine (HT.out _ T.out.tb).mono ?_
            rintro e w5 ⟨rfl, hb⟩
            have P := Bx.mk (P.out.keep hb)
            have K := Bx.mk (K.out.keep hb)
            have HBL := Bx.mk (HBL.out.trans (hb.mono HBL.out.size))
            clear z0 z1 z2 z3 z4 y0 y1 y2 hb
            obtain ⟨z0, z1, z2, z3, z4⟩ := P.out
            obtain ⟨y0, y1, y2⟩ := K.out
            go_wp2_with fail
            (try simp only [Exit.inBlock, Exit.then])
            refine bodyPost_ret_by (v := .tuple #[RV n d, .bool true]) (by simp [results, Tryz.results50, go_sem, z1, z2, z0]) rfl ?_
            rw [HQ.out]
            exact ⟨rfl, by repeat (first | exact HBL.out | refine Below.setCell ?_ (by simp <;> omega) _ | refine Below.alloc ?_ (by simp <;> omega) _)⟩
          · have HQ := Bx.mk (show q = ⟨0, 0, 8⟩ from hq3 n d hn hd (fun h => hts (by rw [h.2])))
            obtain ⟨t, htt⟩ : ∃ t, strL (textL n d) = t := ⟨_, rfl⟩
            rw [htt] at HT hts
            have hts2 : (t.toList == s.toList) = false := toList_ne hts
            clear i1 i2 bn bd hv hn hd htt
            go_wp2_with fail
            refine (HV.out _).mono ?_
            rintro e w4 ⟨rfl, hb⟩
            have hA := (Below.refl w3.heap.size w3).alloc (Nat.le_refl _) (.cells #[.int .i64 n, .int .i64 d] 23)
            have P := Bx.mk ((P.out.keep hA).keep hb)
            have K := Bx.mk ((Cap.fresh w3 n d).keep hb)
            have T := Bx.mk ((T.out.keep hA).keep hb)
            have HBL := Bx.mk ((HBL.out.trans (hA.mono HBL.out.size)).trans (hb.mono (by have := HBL.out.size; simp <;> omega)))
            clear z0 z1 z2 z3 z4 hb hA
            obtain ⟨z0, z1, z2, z3, z4⟩ := P.out
            obtain ⟨y0, y1, y2⟩ := K.out
            go_wp2_with fail
            refine (HT.out _ T.out.tb).mono ?_
            rintro e w5 ⟨rfl, hb⟩
            have P := Bx.mk (P.out.keep hb)
            have K := Bx.mk (K.out.keep hb)
            have HBL := Bx.mk (HBL.out.trans (hb.mono HBL.out.size))
            clear z0 z1 z2 z3 z4 y0 y1 y2 hb
            obtain ⟨z0, z1, z2, z3, z4⟩ := P.out
            obtain ⟨y0, y1, y2⟩ := K.out
            go_wp2_with fail
            (try simp only [Exit.inBlock, Exit.then])
            refine bodyPost_ret_by (v := .tuple #[RV 0 0, .bool false]) (by simp [results, Tryz.results50, go_sem, z1, z2, z0]) rfl ?_
            rw [HQ.out]
            exact ⟨rfl, by repeat (first | exact HBL.out | refine Below.setCell ?_ (by simp <;> omega) _ | refine Below.alloc ?_ (by simp <;> omega) _)⟩
      · have HQ := Bx.mk (show q = ⟨0, 0, 8⟩ from hq2 hd)
        go_wp2_with fail
        (try simp only [Exit.inBlock, Exit.then])
        refine bodyPost_ret_by (v := .tuple #[RV 0 0, .bool false]) (by simp [results, Tryz.results50, go_sem, z1, z2, z0]) rfl ?_
        rw [HQ.out]
        exact ⟨rfl, by repeat (first | exact HBL.out | refine Below.setCell ?_ (by simp <;> omega) _ | refine Below.alloc ?_ (by simp <;> omega) _)⟩
    · go_wp2_with fail
      refine (HB.out _ T.out.ev).mono ?_
      rintro e w3 ⟨⟨d, ev2, rfl, hcase⟩, hb⟩
      have P := Bx.mk (P.out.keep hb)
      have T := Bx.mk (T.out.keep hb)
      have HBL := Bx.mk (HBL.out.trans (hb.mono HBL.out.size))
      clear z0 z1 z2 z3 z4 hb
      obtain ⟨z0, z1, z2, z3, z4⟩ := P.out
      have HQ := Bx.mk (show q = ⟨0, 0, 8⟩ from hq1 hn)
      rcases hcase with ⟨hd, rfl⟩ | ⟨hd, N2, rfl⟩
      · go_wp2_with fail
        (try simp only [Exit.inBlock, Exit.then])
        refine bodyPost_ret_by (v := .tuple #[RV 0 0, .bool false]) (by simp [results, Tryz.results50, go_sem, z1, z2, z0]) rfl ?_
        rw [HQ.out]
        exact ⟨rfl, by repeat (first | exact HBL.out | refine Below.setCell ?_ (by simp <;> omega) _ | refine Below.alloc ?_ (by simp <;> omega) _)⟩
      · go_wp2_with fail
        (try simp only [Exit.inBlock, Exit.then])
        refine bodyPost_ret_by (v := .tuple #[RV 0 0, .bool false]) (by simp [results, Tryz.results50, go_sem, z1, z2, z0]) rfl ?_
        rw [HQ.out]
        exact ⟨rfl, by repeat (first | exact HBL.out | refine Below.setCell ?_ (by simp <;> omega) _ | refine Below.alloc ?_ (by simp <;> omega) _)⟩
end Go.Proofs.YthfpkjeobdajiabGreatDoor
