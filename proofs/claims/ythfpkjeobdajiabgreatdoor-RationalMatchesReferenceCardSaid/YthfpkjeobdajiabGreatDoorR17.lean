/- Parse. -/
import Derived.Test.YthfpkjeobdajiabGreatDoorR16
namespace Go.Proofs.YthfpkjeobdajiabGreatDoor
open Go.RowKit M
theorem readQ_1 {l : List UInt8} (hn : ∀ v, ¬ Lib.atoiAll (Lib.cut l [47]).1 = .ok v) : readQ l = ⟨0, 0, 8⟩ := by
  unfold readQ
  split
  · rename_i n d h1 h2; exact absurd h1 (hn n)
  · rfl
theorem readQ_2 {l : List UInt8} (hn : ∀ v, ¬ Lib.atoiAll (if (Lib.cut l [47]).2.2 then (Lib.cut l [47]).2.1 else [49]) = .ok v) : readQ l = ⟨0, 0, 8⟩ := by
  unfold readQ
  split
  · rename_i n d h1 h2; exact absurd h2 (hn d)
  · rfl
theorem readQ_3 {l : List UInt8} {n d : Int} (h1 : Lib.atoiAll (Lib.cut l [47]).1 = .ok n) (h2 : Lib.atoiAll (if (Lib.cut l [47]).2.2 then (Lib.cut l [47]).2.1 else [49]) = .ok d) :
    readQ l = if validQ n d = true ∧ textL n d = l then ⟨n, d, 0⟩ else ⟨0, 0, 8⟩ := by
  unfold readQ
  rw [h1, h2]
theorem read_any (s : ByteArray) (w : World) (hs : s.size ≤ 281474976710656) (ht : Tv w) : Calls Tryz.prog 50 #[.string s] w (ReadR (readQ s.data.toList) w) := by
  have hz := cut_size s
  have hb : (if (Lib.cut s.data.toList [47]).2.2 then strL (Lib.cut s.data.toList [47]).2.1 else (⟨#[49]⟩ : ByteArray)).data.toList = (if (Lib.cut s.data.toList [47]).2.2 then (Lib.cut s.data.toList [47]).2.1 else [49]) := by
    split <;> rfl
  have hbs : (if (Lib.cut s.data.toList [47]).2.2 then strL (Lib.cut s.data.toList [47]).2.1 else (⟨#[49]⟩ : ByteArray)).size ≤ 281474976710656 := by
    split
    · omega
    · show 1 ≤ _; omega
  refine read_core s (strL (Lib.cut s.data.toList [47]).1) (strL (Lib.cut s.data.toList [47]).2.1) _ (Lib.cut s.data.toList [47]).2.2 _ w ht ⟨fun w => cut_any s w hs⟩ ⟨fun w h => atoi_any _ w (by omega) h⟩ ⟨fun w h => atoi_any _ w hbs h⟩ rfl
    (fun h => readQ_1 h) (fun h => readQ_2 (by rw [hb] at h; exact h)) (fun n d h1 h2 h3 => by rw [hb] at h2; rw [readQ_3 h1 h2, if_neg h3]) (fun n d h1 h2 h3 => by rw [hb] at h2; rw [readQ_3 h1 h2, if_pos h3])
theorem readQ_e (l : List UInt8) : (readQ l).e = 0 ∨ readQ l = ⟨0, 0, 8⟩ := by
  by_cases h : (readQ l).e = 0
  · exact .inl h
  · exact .inr (readQ_err h)
theorem closParse_any (b1 : Nat) (s : ByteArray) (w : World) (h1 : w.cell? ⟨b1, 0, none⟩ = some (.string s)) (l1 : b1 < w.heap.size) (hs : s.size ≤ 281474976710656) (ht : Tv w) :
    Calls Tryz.prog 49 #[.pointer (some ⟨b1, 0, none⟩)] w (Gives (RV 0 0) w (RV (readQ s.data.toList).n (readQ s.data.toList).d) (readQ s.data.toList).e) := by
  have HR := Bx.mk (fun w h => read_any s w hs h)
  have hq := readQ_e s.data.toList
  obtain ⟨q, hqq⟩ : ∃ q, readQ s.data.toList = q := ⟨_, rfl⟩
  rw [hqq] at HR hq ⊢
  have T := Bx.mk (ht.keep ((Below.refl _ _).alloc (Nat.le_refl _) (.cells #[.int .i64 0, .int .i64 0] 23)))
  clear hqq
  rcases hq with hq | hq
  · have he : (q.e == 0) = true := by simp [hq]
    rw [hq]
    have HE := Bx.mk he
    go_enter Tryz.func49, Tryz.ntmps49
    go_wp2_with fail
    refine (HR.out _ T.out).mono ?_
    rintro e w2 ⟨rfl, hb⟩
    have hB := Bx.mk ((show Below w.heap.size w (w.alloc (.cells #[.int .i64 0, .int .i64 0] 23)) from by repeat (first | exact Below.refl _ _ | apply below_drewN | refine Below.setCell ?_ (by simp <;> omega) _ | refine Below.alloc ?_ (by simp <;> omega) _)).trans (hb.mono (by simp <;> omega)))
    obtain ⟨p0, p1, p2, p3, p4⟩ := (Plc.fresh w).keep hb
    clear hb
    rw [HE.out]
    go_wp2
    (try simp only [Exit.inBlock, Exit.then])
    refine bodyPost_ret_by (v := RV q.n q.d) (by simp [results, Tryz.results49, go_sem, p0, p1, p2]) rfl ?_
    exact ⟨.inl ⟨rfl, rfl⟩, by repeat (first | exact hB.out | refine Below.setCell ?_ (by first | omega | (simp <;> omega)) _ | refine Below.alloc ?_ (by first | omega | (simp <;> omega)) _)⟩
  · subst hq
    go_enter Tryz.func49, Tryz.ntmps49
    go_wp2_with fail
    refine (HR.out _ T.out).mono ?_
    rintro e w2 ⟨rfl, hb⟩
    have hB := Bx.mk ((show Below w.heap.size w (w.alloc (.cells #[.int .i64 0, .int .i64 0] 23)) from by repeat (first | exact Below.refl _ _ | apply below_drewN | refine Below.setCell ?_ (by simp <;> omega) _ | refine Below.alloc ?_ (by simp <;> omega) _)).trans (hb.mono (by simp <;> omega)))
    obtain ⟨p0, p1, p2, p3, p4⟩ := (Plc.fresh w).keep hb
    clear hb
    go_wp2
    exact ⟨rfl, .inr ⟨by decide, rfl, rfl⟩, by repeat (first | exact hB.out | refine Below.setCell ?_ (by first | omega | (simp <;> omega)) _ | refine Below.alloc ?_ (by first | omega | (simp <;> omega)) _)⟩
theorem parse_any (s : ByteArray) (w : World) (hs : s.size ≤ 281474976710656) (ht : Tv w) : Calls Tryz.prog 21 #[.string s] w (OutR (readQ s.data.toList) w) := by
  have hmf : ∀ (fn : Fn) (first cap : Array Value) (w : World), (Instr.makeFunc fn first cap).run Tryz.prog w = .ok (.func fn first cap) w := fun _ _ _ _ => rfl
  have hW : Below w.heap.size w ((w.alloc (.cells #[.string s] 9)).alloc (.cells #[.int .i64 0, .int .i64 0] 23)) := by repeat (first | exact Below.refl _ _ | apply below_drewN | refine Below.setCell ?_ (by simp <;> omega) _ | refine Below.alloc ?_ (by simp <;> omega) _)
  have HP : Plc ((w.alloc (.cells #[.string s] 9)).alloc (.cells #[.int .i64 0, .int .i64 0] 23)) (w.heap.size + 1) := ⟨by simp <;> omega, by simp [go_sem], by simp [go_sem], by simp [go_sem], by simp [go_sem]⟩
  have HC := Bx.mk (attemptParse_any ⟨w.heap.size, 0, none⟩ _ _ _ ((w.alloc (.cells #[.string s] 9)).alloc (.cells #[.int .i64 0, .int .i64 0] 23)) fun w' hb => closParse_any _ s w' (kc hb (by simp [go_sem]) (by simp <;> omega)) (Nat.lt_of_lt_of_le (by simp <;> omega) hb.size) hs (ht.keep (hW.trans (hb.mono hW.size))))
  have HPP := Bx.mk (And.intro hW HP)
  clear hW HP
  go_enter Tryz.func21, Tryz.ntmps21
  go_wp2_with fail
  refine HC.out.mono ?_
  rintro e w2 ⟨rfl, hb⟩
  obtain ⟨hW, HP⟩ := HPP.out
  have hB := Bx.mk (hW.trans (hb.mono (by simp <;> omega)))
  obtain ⟨p0, p1, p2, p3, p4⟩ := HP.keep hb
  clear hb hW HP HC HPP
  go_wp2
  (try simp only [Exit.inBlock, Exit.then])
  refine bodyPost_ret_by (v := .tuple #[RV (readQ s.data.toList).n (readQ s.data.toList).d, .int .i64 (readQ s.data.toList).e]) (by simp [results, Tryz.results21, go_sem, p1, p2]) rfl ?_
  exact ⟨rfl, (hB.out.setCell (by show _ ≤ w.heap.size + 1; omega) _).setCell (by show _ ≤ w.heap.size + 1; omega) _⟩
end Go.Proofs.YthfpkjeobdajiabGreatDoor
