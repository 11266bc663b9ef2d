/- PitchTexts, walked. -/
import Derived.Test.YtlfngdbpnhaphaaGreatDoorHD
namespace Go.Proofs.YtlfngdbpnhaphaaGreatDoor
open Go.RowKit M
theorem join_len (p : Nat → Int) (hb : inB p 576) : (Lib.join (termsL p (ixs p 6)) [42]).length ≤ 1000 := by
  have key : ∀ (L : List (List UInt8)), (∀ x ∈ L, x.length ≤ 40) → (Lib.join L [42]).length ≤ 41 * L.length := by
    intro L
    induction L with
    | nil => intro _; simp [Lib.join, List.intercalate]
    | cons x L ih =>
      intro h
      have hx := h x List.mem_cons_self
      cases L with
      | nil => rw [join_one]; simp; omega
      | cons y L =>
        rw [join_cons2]
        have := ih fun z hz => h z (List.mem_cons_of_mem _ hz)
        simp only [List.length_append, List.length_cons] at this ⊢
        omega
  have h6 := ixs_len p 6
  have h := key (termsL p (ixs p 6)) fun x hx => by
    simp only [termsL, List.mem_map] at hx
    obtain ⟨y, _, rfl⟩ := hx
    have := hb y.i y.lt
    exact termL_len _ _ (pr_le _) this.1 this.2
  have hl : (termsL p (ixs p 6)).length = (ixs p 6).length := by simp [termsL]
  rw [hl] at h
  omega
theorem texts_ok_long (p : Nat → Int) (l : List UInt8) (w : World) (hg : Gv w) (hl : l.length ≤ 281474976710656) (hlong : 200 < l.length) (q : Nat → Int) (qe : Hx (∀ w, (Op.equalIn 10000 23 (PV q) (PV p)).run Tryz.prog w = .ok true w)) (K1 : Hx (∀ w, Gv w → Calls Tryz.prog 32 #[PV p] w fun e w' => e = .returned (.tuple #[.string (strL (textL p)), .int .i64 0]) ∧ Below w.heap.size w w')) (K2 : Hx (∀ w, Gv w → Calls Tryz.prog 34 #[.string (strL (textL p))] w (OutV w q 0))) :
    Calls Tryz.prog 9 #[PV p, .string (strL l)] w fun e w' => e = .returned (.bool true) ∧ Below w.heap.size w w' := by
  have S : Bx (LS w w [] []) := ⟨LS.start w hg⟩
  replace S := Bx.mk (S.out.push #[.int .i64 (p 0), .int .i64 (p 1), .int .i64 (p 2), .int .i64 (p 3), .int .i64 (p 4), .int .i64 (p 5)] 23)
  go_enter Tryz.func9, Tryz.ntmps9
  go_wp2_with fail
  refine (head_any _ S.out.gv).mono ?_
  rintro e w1 ⟨rfl, hb⟩
  replace S := Bx.mk (S.out.call hb)
  clear hb
  obtain ⟨c0_0, c0_1, c0_2, c0_3, c0_4, c0_5, z0⟩ := S.out.six w.heap.size 23 (.int .i64 (p 0)) (.int .i64 (p 1)) (.int .i64 (p 2)) (.int .i64 (p 3)) (.int .i64 (p 4)) (.int .i64 (p 5)) List.mem_cons_self
  go_wp2_with fail
  refine (K1.out _ S.out.gv).mono ?_
  rintro e w2 ⟨rfl, hb⟩
  replace S := Bx.mk (S.out.call hb)
  clear hb
  clear c0_0 c0_1 c0_2 c0_3 c0_4 c0_5 z0
  go_wp2_with fail
  refine (K2.out _ S.out.gv).mono ?_
  rintro e w3 ⟨rfl, hb⟩
  replace S := Bx.mk (S.out.call hb)
  clear hb
  replace S := Bx.mk (S.out.push #[.int .i64 (q 0), .int .i64 (q 1), .int .i64 (q 2), .int .i64 (q 3), .int .i64 (q 4), .int .i64 (q 5)] 23)
  obtain ⟨c0_0, c0_1, c0_2, c0_3, c0_4, c0_5, z0⟩ := S.out.six w3.heap.size 23 (.int .i64 (q 0)) (.int .i64 (q 1)) (.int .i64 (q 2)) (.int .i64 (q 3)) (.int .i64 (q 4)) (.int .i64 (q 5)) List.mem_cons_self
  obtain ⟨c1_0, c1_1, c1_2, c1_3, c1_4, c1_5, z1⟩ := S.out.six w.heap.size 23 (.int .i64 (p 0)) (.int .i64 (p 1)) (.int .i64 (p 2)) (.int .i64 (p 3)) (.int .i64 (p 4)) (.int .i64 (p 5)) (List.mem_cons_of_mem _ List.mem_cons_self)
  have qq := qe.out
  have hs : 200 < (l.length : Int) := by omega
  clear hlong hl
  clear c0_0 c0_1 c0_2 c0_3 c0_4 c0_5 z0 c1_0 c1_1 c1_2 c1_3 c1_4 c1_5 z1
  obtain ⟨c0_0, c0_1, c0_2, c0_3, c0_4, c0_5, z0⟩ := S.out.six w3.heap.size 23 (.int .i64 (q 0)) (.int .i64 (q 1)) (.int .i64 (q 2)) (.int .i64 (q 3)) (.int .i64 (q 4)) (.int .i64 (q 5)) List.mem_cons_self
  obtain ⟨c1_0, c1_1, c1_2, c1_3, c1_4, c1_5, z1⟩ := S.out.six w.heap.size 23 (.int .i64 (p 0)) (.int .i64 (p 1)) (.int .i64 (p 2)) (.int .i64 (p 3)) (.int .i64 (p 4)) (.int .i64 (p 5)) (List.mem_cons_of_mem _ List.mem_cons_self)
  go_wp2_with fail
  go_ret
  exact ⟨rfl, S.out.bl⟩
theorem texts_ok_none (p : Nat → Int) (l : List UInt8) (w : World) (hg : Gv w) (hl : l.length ≤ 281474976710656) (hlong : l.length ≤ 200) (q : Nat → Int) (qe : Hx (∀ w, (Op.equalIn 10000 23 (PV q) (PV p)).run Tryz.prog w = .ok true w)) (K1 : Hx (∀ w, Gv w → Calls Tryz.prog 32 #[PV p] w fun e w' => e = .returned (.tuple #[.string (strL (textL p)), .int .i64 0]) ∧ Below w.heap.size w w')) (K2 : Hx (∀ w, Gv w → Calls Tryz.prog 34 #[.string (strL (textL p))] w (OutV w q 0))) (K3 : Hx (∀ w, Gv w → Calls Tryz.prog 34 #[.string (strL l)] w (OutV w (fun _ => 0) 8))) :
    Calls Tryz.prog 9 #[PV p, .string (strL l)] w fun e w' => e = .returned (.bool true) ∧ Below w.heap.size w w' := by
  have S : Bx (LS w w [] []) := ⟨LS.start w hg⟩
  replace S := Bx.mk (S.out.push #[.int .i64 (p 0), .int .i64 (p 1), .int .i64 (p 2), .int .i64 (p 3), .int .i64 (p 4), .int .i64 (p 5)] 23)
  go_enter Tryz.func9, Tryz.ntmps9
  go_wp2_with fail
  refine (head_any _ S.out.gv).mono ?_
  rintro e w1 ⟨rfl, hb⟩
  replace S := Bx.mk (S.out.call hb)
  clear hb
  obtain ⟨c0_0, c0_1, c0_2, c0_3, c0_4, c0_5, z0⟩ := S.out.six w.heap.size 23 (.int .i64 (p 0)) (.int .i64 (p 1)) (.int .i64 (p 2)) (.int .i64 (p 3)) (.int .i64 (p 4)) (.int .i64 (p 5)) List.mem_cons_self
  go_wp2_with fail
  refine (K1.out _ S.out.gv).mono ?_
  rintro e w2 ⟨rfl, hb⟩
  replace S := Bx.mk (S.out.call hb)
  clear hb
  clear c0_0 c0_1 c0_2 c0_3 c0_4 c0_5 z0
  go_wp2_with fail
  refine (K2.out _ S.out.gv).mono ?_
  rintro e w3 ⟨rfl, hb⟩
  replace S := Bx.mk (S.out.call hb)
  clear hb
  replace S := Bx.mk (S.out.push #[.int .i64 (q 0), .int .i64 (q 1), .int .i64 (q 2), .int .i64 (q 3), .int .i64 (q 4), .int .i64 (q 5)] 23)
  obtain ⟨c0_0, c0_1, c0_2, c0_3, c0_4, c0_5, z0⟩ := S.out.six w3.heap.size 23 (.int .i64 (q 0)) (.int .i64 (q 1)) (.int .i64 (q 2)) (.int .i64 (q 3)) (.int .i64 (q 4)) (.int .i64 (q 5)) List.mem_cons_self
  obtain ⟨c1_0, c1_1, c1_2, c1_3, c1_4, c1_5, z1⟩ := S.out.six w.heap.size 23 (.int .i64 (p 0)) (.int .i64 (p 1)) (.int .i64 (p 2)) (.int .i64 (p 3)) (.int .i64 (p 4)) (.int .i64 (p 5)) (List.mem_cons_of_mem _ List.mem_cons_self)
  have qq := qe.out
  have hs : (l.length : Int) ≤ 200 := by omega
  clear hlong hl
  clear c0_0 c0_1 c0_2 c0_3 c0_4 c0_5 z0 c1_0 c1_1 c1_2 c1_3 c1_4 c1_5 z1
  obtain ⟨c0_0, c0_1, c0_2, c0_3, c0_4, c0_5, z0⟩ := S.out.six w3.heap.size 23 (.int .i64 (q 0)) (.int .i64 (q 1)) (.int .i64 (q 2)) (.int .i64 (q 3)) (.int .i64 (q 4)) (.int .i64 (q 5)) List.mem_cons_self
  obtain ⟨c1_0, c1_1, c1_2, c1_3, c1_4, c1_5, z1⟩ := S.out.six w.heap.size 23 (.int .i64 (p 0)) (.int .i64 (p 1)) (.int .i64 (p 2)) (.int .i64 (p 3)) (.int .i64 (p 4)) (.int .i64 (p 5)) (List.mem_cons_of_mem _ List.mem_cons_self)
  go_wp2_with fail
  refine (K3.out _ S.out.gv).mono ?_
  rintro e w4 ⟨rfl, hb⟩
  replace S := Bx.mk (S.out.call hb)
  clear hb
  clear c0_0 c0_1 c0_2 c0_3 c0_4 c0_5 z0 c1_0 c1_1 c1_2 c1_3 c1_4 c1_5 z1
  replace S := Bx.mk (S.out.push #[.int .i64 0, .int .i64 0, .int .i64 0, .int .i64 0, .int .i64 0, .int .i64 0] 23)
  go_wp2_with fail
  go_ret
  exact ⟨rfl, S.out.bl⟩
theorem texts_ok_text (p : Nat → Int) (l : List UInt8) (w : World) (hg : Gv w) (hl : l.length ≤ 281474976710656) (hlong : l.length ≤ 200) (q : Nat → Int) (qe : Hx (∀ w, (Op.equalIn 10000 23 (PV q) (PV p)).run Tryz.prog w = .ok true w)) (K1 : Hx (∀ w, Gv w → Calls Tryz.prog 32 #[PV p] w fun e w' => e = .returned (.tuple #[.string (strL (textL p)), .int .i64 0]) ∧ Below w.heap.size w w')) (K2 : Hx (∀ w, Gv w → Calls Tryz.prog 34 #[.string (strL (textL p))] w (OutV w q 0))) (r : Nat → Int) (K3 : Hx (∀ w, Gv w → Calls Tryz.prog 34 #[.string (strL l)] w (OutV w r 0))) (K4 : Hx (∀ w, Gv w → Calls Tryz.prog 32 #[PV r] w fun e w' => e = .returned (.tuple #[.string (strL l), .int .i64 0]) ∧ Below w.heap.size w w')) :
    Calls Tryz.prog 9 #[PV p, .string (strL l)] w fun e w' => e = .returned (.bool true) ∧ Below w.heap.size w w' := by
  have S : Bx (LS w w [] []) := ⟨LS.start w hg⟩
  replace S := Bx.mk (S.out.push #[.int .i64 (p 0), .int .i64 (p 1), .int .i64 (p 2), .int .i64 (p 3), .int .i64 (p 4), .int .i64 (p 5)] 23)
  go_enter Tryz.func9, Tryz.ntmps9
  go_wp2_with fail
  refine (head_any _ S.out.gv).mono ?_
  rintro e w1 ⟨rfl, hb⟩
  replace S := Bx.mk (S.out.call hb)
  clear hb
  obtain ⟨c0_0, c0_1, c0_2, c0_3, c0_4, c0_5, z0⟩ := S.out.six w.heap.size 23 (.int .i64 (p 0)) (.int .i64 (p 1)) (.int .i64 (p 2)) (.int .i64 (p 3)) (.int .i64 (p 4)) (.int .i64 (p 5)) List.mem_cons_self
  go_wp2_with fail
  refine (K1.out _ S.out.gv).mono ?_
  rintro e w2 ⟨rfl, hb⟩
  replace S := Bx.mk (S.out.call hb)
  clear hb
  clear c0_0 c0_1 c0_2 c0_3 c0_4 c0_5 z0
  go_wp2_with fail
  refine (K2.out _ S.out.gv).mono ?_
  rintro e w3 ⟨rfl, hb⟩
  replace S := Bx.mk (S.out.call hb)
  clear hb
  replace S := Bx.mk (S.out.push #[.int .i64 (q 0), .int .i64 (q 1), .int .i64 (q 2), .int .i64 (q 3), .int .i64 (q 4), .int .i64 (q 5)] 23)
  obtain ⟨c0_0, c0_1, c0_2, c0_3, c0_4, c0_5, z0⟩ := S.out.six w3.heap.size 23 (.int .i64 (q 0)) (.int .i64 (q 1)) (.int .i64 (q 2)) (.int .i64 (q 3)) (.int .i64 (q 4)) (.int .i64 (q 5)) List.mem_cons_self
  obtain ⟨c1_0, c1_1, c1_2, c1_3, c1_4, c1_5, z1⟩ := S.out.six w.heap.size 23 (.int .i64 (p 0)) (.int .i64 (p 1)) (.int .i64 (p 2)) (.int .i64 (p 3)) (.int .i64 (p 4)) (.int .i64 (p 5)) (List.mem_cons_of_mem _ List.mem_cons_self)
  have qq := qe.out
  have hs : (l.length : Int) ≤ 200 := by omega
  clear hlong hl
  clear c0_0 c0_1 c0_2 c0_3 c0_4 c0_5 z0 c1_0 c1_1 c1_2 c1_3 c1_4 c1_5 z1
  obtain ⟨c0_0, c0_1, c0_2, c0_3, c0_4, c0_5, z0⟩ := S.out.six w3.heap.size 23 (.int .i64 (q 0)) (.int .i64 (q 1)) (.int .i64 (q 2)) (.int .i64 (q 3)) (.int .i64 (q 4)) (.int .i64 (q 5)) List.mem_cons_self
  obtain ⟨c1_0, c1_1, c1_2, c1_3, c1_4, c1_5, z1⟩ := S.out.six w.heap.size 23 (.int .i64 (p 0)) (.int .i64 (p 1)) (.int .i64 (p 2)) (.int .i64 (p 3)) (.int .i64 (p 4)) (.int .i64 (p 5)) (List.mem_cons_of_mem _ List.mem_cons_self)
  go_wp2_with fail
  refine (K3.out _ S.out.gv).mono ?_
  rintro e w4 ⟨rfl, hb⟩
  replace S := Bx.mk (S.out.call hb)
  clear hb
  clear c0_0 c0_1 c0_2 c0_3 c0_4 c0_5 z0 c1_0 c1_1 c1_2 c1_3 c1_4 c1_5 z1
  replace S := Bx.mk (S.out.push #[.int .i64 (r 0), .int .i64 (r 1), .int .i64 (r 2), .int .i64 (r 3), .int .i64 (r 4), .int .i64 (r 5)] 23)
  obtain ⟨c0_0, c0_1, c0_2, c0_3, c0_4, c0_5, z0⟩ := S.out.six w4.heap.size 23 (.int .i64 (r 0)) (.int .i64 (r 1)) (.int .i64 (r 2)) (.int .i64 (r 3)) (.int .i64 (r 4)) (.int .i64 (r 5)) List.mem_cons_self
  go_wp2_with fail
  refine (K4.out _ S.out.gv).mono ?_
  rintro e w5 ⟨rfl, hb⟩
  replace S := Bx.mk (S.out.call hb)
  clear hb
  clear c0_0 c0_1 c0_2 c0_3 c0_4 c0_5 z0
  go_wp2_with fail
  go_ret
  exact ⟨rfl, S.out.bl⟩
theorem texts_no_long (p : Nat → Int) (l : List UInt8) (w : World) (hg : Gv w) (hl : l.length ≤ 281474976710656) (hlong : 200 < l.length) (K1 : Hx (∀ w, Calls Tryz.prog 32 #[PV p] w fun e w' => e = .returned (.tuple #[.string ⟨#[]⟩, .int .i64 1]) ∧ Below w.heap.size w w')) (K2 : Hx (∀ w, Calls Tryz.prog 12 #[PV p] w fun e w' => e = .returned (.bool false) ∧ Below w.heap.size w w')) :
    Calls Tryz.prog 9 #[PV p, .string (strL l)] w fun e w' => e = .returned (.bool true) ∧ Below w.heap.size w w' := by
  have S : Bx (LS w w [] []) := ⟨LS.start w hg⟩
  replace S := Bx.mk (S.out.push #[.int .i64 (p 0), .int .i64 (p 1), .int .i64 (p 2), .int .i64 (p 3), .int .i64 (p 4), .int .i64 (p 5)] 23)
  go_enter Tryz.func9, Tryz.ntmps9
  go_wp2_with fail
  refine (head_any _ S.out.gv).mono ?_
  rintro e w1 ⟨rfl, hb⟩
  replace S := Bx.mk (S.out.call hb)
  clear hb
  obtain ⟨c0_0, c0_1, c0_2, c0_3, c0_4, c0_5, z0⟩ := S.out.six w.heap.size 23 (.int .i64 (p 0)) (.int .i64 (p 1)) (.int .i64 (p 2)) (.int .i64 (p 3)) (.int .i64 (p 4)) (.int .i64 (p 5)) List.mem_cons_self
  go_wp2_with fail
  refine (K1.out _).mono ?_
  rintro e w2 ⟨rfl, hb⟩
  replace S := Bx.mk (S.out.call hb)
  clear hb
  clear c0_0 c0_1 c0_2 c0_3 c0_4 c0_5 z0
  obtain ⟨c0_0, c0_1, c0_2, c0_3, c0_4, c0_5, z0⟩ := S.out.six w.heap.size 23 (.int .i64 (p 0)) (.int .i64 (p 1)) (.int .i64 (p 2)) (.int .i64 (p 3)) (.int .i64 (p 4)) (.int .i64 (p 5)) List.mem_cons_self
  go_wp2_with fail
  refine (K2.out _).mono ?_
  rintro e w3 ⟨rfl, hb⟩
  replace S := Bx.mk (S.out.call hb)
  clear hb
  clear c0_0 c0_1 c0_2 c0_3 c0_4 c0_5 z0
  have hs : 200 < (l.length : Int) := by omega
  clear hlong hl
  go_wp2_with fail
  go_ret
  exact ⟨rfl, S.out.bl⟩
theorem texts_no_none (p : Nat → Int) (l : List UInt8) (w : World) (hg : Gv w) (hl : l.length ≤ 281474976710656) (hlong : l.length ≤ 200) (K1 : Hx (∀ w, Calls Tryz.prog 32 #[PV p] w fun e w' => e = .returned (.tuple #[.string ⟨#[]⟩, .int .i64 1]) ∧ Below w.heap.size w w')) (K2 : Hx (∀ w, Calls Tryz.prog 12 #[PV p] w fun e w' => e = .returned (.bool false) ∧ Below w.heap.size w w')) (K3 : Hx (∀ w, Gv w → Calls Tryz.prog 34 #[.string (strL l)] w (OutV w (fun _ => 0) 8))) :
    Calls Tryz.prog 9 #[PV p, .string (strL l)] w fun e w' => e = .returned (.bool true) ∧ Below w.heap.size w w' := by
  have S : Bx (LS w w [] []) := ⟨LS.start w hg⟩
  replace S := Bx.mk (S.out.push #[.int .i64 (p 0), .int .i64 (p 1), .int .i64 (p 2), .int .i64 (p 3), .int .i64 (p 4), .int .i64 (p 5)] 23)
  go_enter Tryz.func9, Tryz.ntmps9
  go_wp2_with fail
  refine (head_any _ S.out.gv).mono ?_
  rintro e w1 ⟨rfl, hb⟩
  replace S := Bx.mk (S.out.call hb)
  clear hb
  obtain ⟨c0_0, c0_1, c0_2, c0_3, c0_4, c0_5, z0⟩ := S.out.six w.heap.size 23 (.int .i64 (p 0)) (.int .i64 (p 1)) (.int .i64 (p 2)) (.int .i64 (p 3)) (.int .i64 (p 4)) (.int .i64 (p 5)) List.mem_cons_self
  go_wp2_with fail
  refine (K1.out _).mono ?_
  rintro e w2 ⟨rfl, hb⟩
  replace S := Bx.mk (S.out.call hb)
  clear hb
  clear c0_0 c0_1 c0_2 c0_3 c0_4 c0_5 z0
  obtain ⟨c0_0, c0_1, c0_2, c0_3, c0_4, c0_5, z0⟩ := S.out.six w.heap.size 23 (.int .i64 (p 0)) (.int .i64 (p 1)) (.int .i64 (p 2)) (.int .i64 (p 3)) (.int .i64 (p 4)) (.int .i64 (p 5)) List.mem_cons_self
  go_wp2_with fail
  refine (K2.out _).mono ?_
  rintro e w3 ⟨rfl, hb⟩
  replace S := Bx.mk (S.out.call hb)
  clear hb
  clear c0_0 c0_1 c0_2 c0_3 c0_4 c0_5 z0
  have hs : (l.length : Int) ≤ 200 := by omega
  clear hlong hl
  go_wp2_with fail
  refine (K3.out _ S.out.gv).mono ?_
  rintro e w4 ⟨rfl, hb⟩
  replace S := Bx.mk (S.out.call hb)
  clear hb
  replace S := Bx.mk (S.out.push #[.int .i64 0, .int .i64 0, .int .i64 0, .int .i64 0, .int .i64 0, .int .i64 0] 23)
  go_wp2_with fail
  go_ret
  exact ⟨rfl, S.out.bl⟩
theorem texts_no_text (p : Nat → Int) (l : List UInt8) (w : World) (hg : Gv w) (hl : l.length ≤ 281474976710656) (hlong : l.length ≤ 200) (K1 : Hx (∀ w, Calls Tryz.prog 32 #[PV p] w fun e w' => e = .returned (.tuple #[.string ⟨#[]⟩, .int .i64 1]) ∧ Below w.heap.size w w')) (K2 : Hx (∀ w, Calls Tryz.prog 12 #[PV p] w fun e w' => e = .returned (.bool false) ∧ Below w.heap.size w w')) (r : Nat → Int) (K3 : Hx (∀ w, Gv w → Calls Tryz.prog 34 #[.string (strL l)] w (OutV w r 0))) (K4 : Hx (∀ w, Gv w → Calls Tryz.prog 32 #[PV r] w fun e w' => e = .returned (.tuple #[.string (strL l), .int .i64 0]) ∧ Below w.heap.size w w')) :
    Calls Tryz.prog 9 #[PV p, .string (strL l)] w fun e w' => e = .returned (.bool true) ∧ Below w.heap.size w w' := by
  have S : Bx (LS w w [] []) := ⟨LS.start w hg⟩
  replace S := Bx.mk (S.out.push #[.int .i64 (p 0), .int .i64 (p 1), .int .i64 (p 2), .int .i64 (p 3), .int .i64 (p 4), .int .i64 (p 5)] 23)
  go_enter Tryz.func9, Tryz.ntmps9
  go_wp2_with fail
  refine (head_any _ S.out.gv).mono ?_
  rintro e w1 ⟨rfl, hb⟩
  replace S := Bx.mk (S.out.call hb)
  clear hb
  obtain ⟨c0_0, c0_1, c0_2, c0_3, c0_4, c0_5, z0⟩ := S.out.six w.heap.size 23 (.int .i64 (p 0)) (.int .i64 (p 1)) (.int .i64 (p 2)) (.int .i64 (p 3)) (.int .i64 (p 4)) (.int .i64 (p 5)) List.mem_cons_self
  go_wp2_with fail
  refine (K1.out _).mono ?_
  rintro e w2 ⟨rfl, hb⟩
  replace S := Bx.mk (S.out.call hb)
  clear hb
  clear c0_0 c0_1 c0_2 c0_3 c0_4 c0_5 z0
  obtain ⟨c0_0, c0_1, c0_2, c0_3, c0_4, c0_5, z0⟩ := S.out.six w.heap.size 23 (.int .i64 (p 0)) (.int .i64 (p 1)) (.int .i64 (p 2)) (.int .i64 (p 3)) (.int .i64 (p 4)) (.int .i64 (p 5)) List.mem_cons_self
  go_wp2_with fail
  refine (K2.out _).mono ?_
  rintro e w3 ⟨rfl, hb⟩
  replace S := Bx.mk (S.out.call hb)
  clear hb
  clear c0_0 c0_1 c0_2 c0_3 c0_4 c0_5 z0
  have hs : (l.length : Int) ≤ 200 := by omega
  clear hlong hl
  go_wp2_with fail
  refine (K3.out _ S.out.gv).mono ?_
  rintro e w4 ⟨rfl, hb⟩
  replace S := Bx.mk (S.out.call hb)
  clear hb
  replace S := Bx.mk (S.out.push #[.int .i64 (r 0), .int .i64 (r 1), .int .i64 (r 2), .int .i64 (r 3), .int .i64 (r 4), .int .i64 (r 5)] 23)
  obtain ⟨c0_0, c0_1, c0_2, c0_3, c0_4, c0_5, z0⟩ := S.out.six w4.heap.size 23 (.int .i64 (r 0)) (.int .i64 (r 1)) (.int .i64 (r 2)) (.int .i64 (r 3)) (.int .i64 (r 4)) (.int .i64 (r 5)) List.mem_cons_self
  go_wp2_with fail
  refine (K4.out _ S.out.gv).mono ?_
  rintro e w5 ⟨rfl, hb⟩
  replace S := Bx.mk (S.out.call hb)
  clear hb
  clear c0_0 c0_1 c0_2 c0_3 c0_4 c0_5 z0
  go_wp2_with fail
  go_ret
  exact ⟨rfl, S.out.bl⟩
theorem texts_list (p : Nat → Int) (l : List UInt8) (w : World) (hg : Gv w) (hl : l.length ≤ 281474976710656) :
    Calls Tryz.prog 9 #[PV p, .string (strL l)] w fun e w' => e = .returned (.bool true) ∧ Below w.heap.size w w' := by
  have parts : 200 < l.length ∨ (l.length ≤ 200 ∧ (readV l).2 = false) ∨ (l.length ≤ 200 ∧ ∃ r, readV l = (r, true)) := by
    by_cases h : 200 < l.length
    · exact .inl h
    · cases hr : readV l with
      | mk r b =>
        cases b with
        | false => exact .inr (.inl ⟨by omega, rfl⟩)
        | true => exact .inr (.inr ⟨by omega, r, rfl⟩)
  cases hp : bdB p 576 with
  | true =>
    obtain ⟨q, hq, he⟩ := read_text hp
    have hb := bdB_yes.1 hp
    have htl : (textL p).length ≤ 281474976710656 := by
      unfold textL
      split
      · simp
      · have h1 : ((termsL p (ixs p 6)).map List.length).length ≤ 6 := by simp [termsL]; exact ixs_len p 6
        have h2 := join_len p hb
        omega
    have Q := Hx.mk (eq6_is 23 (by kernel_rfl) q p true ⟨fun _ => he, fun _ => rfl⟩)
    have K1 := Hx.mk fun w hG => ptextF_ok p w hG hp
    have K2 := Hx.mk fun w hG => pparse_ok (textL p) w hG htl q hq
    rcases parts with h | ⟨h, hr⟩ | ⟨h, r, hr⟩
    · exact texts_ok_long p l w hg hl h q Q K1 K2
    · exact texts_ok_none p l w hg hl h q Q K1 K2 ⟨fun w hG => pparse_no l w hG hl hr⟩
    · obtain ⟨t1, t2⟩ := text_read hr
      refine texts_ok_text p l w hg hl h q Q K1 K2 r ⟨fun w hG => pparse_ok l w hG hl r hr⟩ ⟨fun w hG => ?_⟩
      have := ptextF_ok r w hG t1
      rw [t2] at this; exact this
  | false =>
    have K1 := Hx.mk fun w => ptextF_no p w hp
    have K2 := Hx.mk fun w => refValid_any p w false hp
    rcases parts with h | ⟨h, hr⟩ | ⟨h, r, hr⟩
    · exact texts_no_long p l w hg hl h K1 K2
    · exact texts_no_none p l w hg hl h K1 K2 ⟨fun w hG => pparse_no l w hG hl hr⟩
    · obtain ⟨t1, t2⟩ := text_read hr
      refine texts_no_text p l w hg hl h K1 K2 r ⟨fun w hG => pparse_ok l w hG hl r hr⟩ ⟨fun w hG => ?_⟩
      have := ptextF_ok r w hG t1
      rw [t2] at this; exact this
theorem texts_all (p : Nat → Int) (s : ByteArray) (hs : s.size ≤ 281474976710656) (w : World) (hg : Gv w) :
    Calls Tryz.prog 9 #[PV p, .string s] w fun e w' => e = .returned (.bool true) ∧ Below w.heap.size w w' := by
  have e : s = strL s.data.toList := by simp [strL]
  rw [e]
  exact texts_list p _ w hg (by have : s.data.toList.length = s.size := Array.length_toList; omega)
end Go.Proofs.YtlfngdbpnhaphaaGreatDoor
