/- How slices of ints and of rows lie in memory, and what stays. -/
import Derived.Test.YtnbamjoadankmaaProg
import Derived.WalkKit
import Derived.Handy
import Derived.Lib.Hide
import Derived.Deep.QuietTactic
import Derived.BigQuiet
import Derived.StillTailTactics
import Derived.Deep.RegionHeld3
import Derived.Deep.RegionWith
import Derived.WalkLawsBesides
import Derived.WalkSpells
import Derived.OwnWalk
import Derived.Outline
import Derived.Deep.DeepFit
import Derived.Deep.RegionLaw
import Derived.Laws.OwnMore
import Derived.Laws.AppendOwnNone
namespace Go.Proofs.Ytnbamjoadankmaa
open Go.RowKit
/-- A fact that the walk does not unfold. -/
structure Bx (p : Prop) : Prop where
  mk :: (out : p)
/-- The cells of a list of ints from an address on. -/
def CI (w : World) (ao : Option Addr) (l : List Int) : Prop :=
  l ≠ [] → ∃ b o, ao = some ⟨b, o, none⟩ ∧ b < w.heap.size ∧ ∀ i, i < l.length → w.cell? ⟨b, o + i, none⟩ = some (.int .i64 (l.getD i 0))
theorem CI.keep {w w' : World} {ao : Option Addr} {l : List Int} (h : CI w ao l) (hb : Below w.heap.size w w') : CI w' ao l := by
  intro hl
  obtain ⟨b, o, rfl, ha, hc⟩ := h hl
  exact ⟨b, o, rfl, Nat.lt_of_lt_of_le ha hb.size, fun i hi => by rw [hb.cell (p := ⟨b, o + i, none⟩) ha]; exact hc i hi⟩
theorem CI.nil {w : World} {ao : Option Addr} : CI w ao [] := fun h => absurd rfl h
/-- The cells of a list of indices. -/
def CN (w : World) (ao : Option Addr) (l : List Nat) : Prop :=
  l ≠ [] → ∃ b o, ao = some ⟨b, o, none⟩ ∧ b < w.heap.size ∧ ∀ i, i < l.length → w.cell? ⟨b, o + i, none⟩ = some (.int .i64 ((l.getD i 0 : Nat) : Int))
theorem CN.keep {w w' : World} {ao : Option Addr} {l : List Nat} (h : CN w ao l) (hb : Below w.heap.size w w') : CN w' ao l := by
  intro hl
  obtain ⟨b, o, rfl, ha, hc⟩ := h hl
  exact ⟨b, o, rfl, Nat.lt_of_lt_of_le ha hb.size, fun i hi => by rw [hb.cell (p := ⟨b, o + i, none⟩) ha]; exact hc i hi⟩
theorem CN.nil {w : World} {ao : Option Addr} : CN w ao [] := fun h => absurd rfl h
/-- The cells of a list of rows of six. -/
def CV (w : World) (ao : Option Addr) (n : Nat) (M : Nat → Nat → Int) : Prop :=
  0 < n → ∃ b o, ao = some ⟨b, o, none⟩ ∧ b < w.heap.size ∧ ∀ i j, i < n → j < 6 → w.cell? ⟨b, o + i * 6 + j, none⟩ = some (.int .i64 (M i j))
theorem CV.keep {w w' : World} {ao : Option Addr} {n : Nat} {M : Nat → Nat → Int} (h : CV w ao n M) (hb : Below w.heap.size w w') : CV w' ao n M := by
  intro hl
  obtain ⟨b, o, rfl, ha, hc⟩ := h hl
  exact ⟨b, o, rfl, Nat.lt_of_lt_of_le ha hb.size, fun i j hi hj => by rw [hb.cell (p := ⟨b, o + i * 6 + j, none⟩) ha]; exact hc i j hi hj⟩
theorem bcell {W w1 : World} (hb : Below W.heap.size W w1) : (∀ b o, b < W.heap.size → w1.cell? ⟨b, o, none⟩ = W.cell? ⟨b, o, none⟩) ∧ (∀ b o, b < W.heap.size → w1.frozen? ⟨b, o, none⟩ = W.frozen? ⟨b, o, none⟩) :=
  ⟨fun b o h => hb.cell (p := ⟨b, o, none⟩) h, fun b o h => hb.frozen (p := ⟨b, o, none⟩) h⟩
theorem below_drewN {B : Nat} {a w : World} (h : Below B a w) (n : Nat) : Below B a (w.drewN n) := ⟨h.os, h.tape, h.output, h.size, h.block⟩
theorem below_drew {B : Nat} {a w : World} (h : Below B a w) : Below B a w.drew := ⟨h.os, h.tape, h.output, h.size, h.block⟩
theorem info_int : (Try.prog.info? 3).map (fun i => (i.zero, i.size, i.bytes)) = some (some (.int .i64 0), 1, 8) := by kernel_rfl
theorem info_vec : (Try.prog.info? 36).map (fun i => (i.size, i.bytes)) = some (6, 48) := by kernel_rfl
end Go.Proofs.Ytnbamjoadankmaa
/- the reference's mod, euclid, swapped, others. -/
namespace Go.Proofs.Ytnbamjoadankmaa
open Go.RowKit
theorem emod_of_tmod {x d : Int} (hd : 1 ≤ d) : x % d = if x.tmod d < 0 then x.tmod d + d else x.tmod d := by
  rw [Int.tmod_eq_emod]
  have h1 := Int.emod_nonneg x (show d ≠ 0 by omega)
  have h2 := Int.emod_lt_of_pos x (show 0 < d by omega)
  by_cases h : 0 ≤ x ∨ d ∣ x
  · rw [if_pos h]; split <;> omega
  · rw [if_neg h]
    have h3 : x % d ≠ 0 := fun e => h (Or.inr (Int.dvd_of_emod_eq_zero e))
    split <;> omega
theorem mod_any (x d : Int) (w : World) (hd : 1 ≤ d) (h3 : d ≤ 9223372036854775807) :
    Calls Try.prog 72 #[.int .i64 x, .int .i64 d] w fun e w' => e = .returned (.int .i64 (x % d)) ∧ w = w' := by
  have hx := emod_of_tmod (x := x) hd
  have h1 := Int.emod_nonneg x (show d ≠ 0 by omega)
  have h2 := Int.emod_lt_of_pos x (show 0 < d by omega)
  obtain ⟨m, hm⟩ : ∃ m, x % d = m := ⟨_, rfl⟩
  obtain ⟨r, hr⟩ : ∃ r, x.tmod d = r := ⟨_, rfl⟩
  rw [hm, hr] at hx
  rw [hm] at h1 h2 ⊢
  have hr0 : -d ≤ r := by split at hx <;> omega
  by_cases hn : r < 0
  · rw [if_pos hn] at hx
    have HM := Bx.mk hm; clear hm
    go_enter Try.func72, Try.ntmps72
    go_wp2_with fail
    go_ret
    exact ⟨by rw [hx]; rfl, rfl⟩
  · rw [if_neg hn] at hx
    have HM := Bx.mk hm; clear hm
    go_enter Try.func72, Try.ntmps72
    go_wp2_with fail
    go_ret
    exact ⟨rfl, rfl⟩
/-- What euclid finds. -/
structure Eu (a b G X Y : Int) : Prop where
  pos : 0 < G
  da : G ∣ a
  db : G ∣ b
  eq : X * a + Y * b = G
  x0 : b = 0 → X = 1 ∧ Y = 0
  x1 : b ≠ 0 → -b ≤ X ∧ X ≤ b
  y1 : -a ≤ Y ∧ Y ≤ a
theorem Eu.step {a b G X Y : Int} (ha : 0 < a) (hb : 0 < b) (h : Eu b (a % b) G X Y) : Eu a b G Y (X - a / b * Y) := by
  have h1 := Int.emod_nonneg a (show b ≠ 0 by omega)
  have h2 := Int.emod_lt_of_pos a hb
  have h3 := Int.emod_add_mul_ediv a b
  have h4 : 0 ≤ a / b := Int.ediv_nonneg (by omega) (by omega)
  obtain ⟨p, da, db, eq, x0, x1, y1⟩ := h
  refine ⟨p, ?_, da, by grind, fun e => by omega, fun _ => y1, ?_⟩
  · have := Int.dvd_add db (Int.dvd_mul_of_dvd_left da (c := a / b)); rwa [h3] at this
  · by_cases e : a % b = 0
    · obtain ⟨rfl, rfl⟩ := x0 e
      simp; omega
    · have := x1 e
      have m1 : a / b * Y ≤ a / b * b := Int.mul_le_mul_of_nonneg_left y1.2 h4
      have m2 : a / b * -b ≤ a / b * Y := Int.mul_le_mul_of_nonneg_left y1.1 h4
      have m3 : a / b * -b = -(a / b * b) := by rw [Int.mul_neg]
      have m4 : a / b * b = b * (a / b) := Int.mul_comm _ _
      omega
theorem euclid_any (N : Nat) (a b : Int) (w : World) (ha : 0 < a) (hb : 0 ≤ b) (hN : b.toNat ≤ N) (hA : a ≤ 4000000000000000000) (hB : b ≤ 4000000000000000000) :
    Calls Try.prog 116 #[.int .i64 a, .int .i64 b] w fun e w' => ∃ G X Y, Bx (Eu a b G X Y) ∧ e = .returned (.agg #[.int .i64 G, .int .i64 X, .int .i64 Y]) ∧ Below w.heap.size w w' := by
  induction N generalizing a b w with
  | zero =>
    obtain rfl : b = 0 := by omega
    go_enter Try.func116, Try.ntmps116
    go_wp2_with fail
    refine bodyPost_ret_by (v := .agg #[.int .i64 a, .int .i64 1, .int .i64 0]) (by simp [results, Try.results116, go_sem]) rfl ?_
    exact ⟨a, 1, 0, ⟨⟨ha, Int.dvd_refl _, Int.dvd_zero _, by omega, fun _ => ⟨rfl, rfl⟩, fun h => absurd rfl h, by omega, by omega⟩⟩, rfl, (by repeat (first | with_reducible exact Below.refl _ _ | (with_reducible refine Below.setCell ?_ ?side _; case side => (first | omega | (simp <;> omega))) | (with_reducible refine Below.alloc ?_ ?side _; case side => (first | omega | (simp <;> omega))) | with_reducible apply below_drewN | with_reducible apply below_drew))⟩
  | succ N ih =>
    by_cases h0 : b = 0
    · exact ih a b w ha hb (by omega) hA hB
    · have h1 := Int.emod_nonneg a h0
      have h2 := Int.emod_lt_of_pos a (show 0 < b by omega)
      have ht : a.tmod b = a % b := Int.tmod_eq_emod_of_nonneg (by omega)
      have hd : a.tdiv b = a / b := Int.tdiv_eq_ediv_of_nonneg (by omega)
      obtain ⟨m, hm⟩ : ∃ m, a % b = m := ⟨_, rfl⟩
      obtain ⟨q, hq⟩ : ∃ q, a / b = q := ⟨_, rfl⟩
      have hq0 : 0 ≤ q := by rw [← hq]; exact Int.ediv_nonneg (by omega) (by omega)
      have IH := Bx.mk (fun w => ih b m w (by omega) (by omega) (by omega) hB (by omega))
      have HM := Bx.mk hm
      have HQ := Bx.mk hq
      rw [hm] at ht h1 h2; rw [hq] at hd
      have hz : (b == 0) = false := by simpa using h0
      have key : ∀ G X Y, Eu b m G X Y → Eu a b G Y (X - q * Y) := fun G X Y h => by
        rw [← HM.out] at h; rw [← HQ.out]; exact h.step ha (by omega)
      have hqb : q * b ≤ a := by
        rw [← HQ.out]; have := Int.emod_add_mul_ediv a b; have h5 := Int.mul_comm b (a / b); have := HM.out; omega
      clear ih hm hq h0
      go_enter Try.func116, Try.ntmps116
      go_wp2_with fail
      refine (IH.out _).mono ?_
      rintro e w1 ⟨G, X, Y, HE, rfl, hb1⟩
      have K := Bx.mk (key G X Y HE.out)
      have y1 := HE.out.y1
      have b1 : q * Y ≤ q * b := Int.mul_le_mul_of_nonneg_left y1.2 hq0
      have b2 : q * -b ≤ q * Y := Int.mul_le_mul_of_nonneg_left y1.1 hq0
      have b3 : q * -b = -(q * b) := by rw [Int.mul_neg]
      have y2 := K.out.y1
      have b4 : -9223372036854775808 ≤ q * Y := by omega
      have b5 : q * Y ≤ 9223372036854775807 := by omega
      obtain ⟨hc1, hf1⟩ := bcell hb1
      have hz1 := hb1.size
      (try simp at hz1)
      have hy1 : w.heap.size < w1.heap.size := by omega
      have hq1 : q ≤ 4000000000000000000 := by
        have := Int.mul_le_mul_of_nonneg_left (show 1 ≤ b by omega) hq0; omega
      have x1 : -4000000000000000000 ≤ X ∧ X ≤ 4000000000000000000 := by
        by_cases e : m = 0
        · have := (HE.out.x0 e).1; omega
        · have := HE.out.x1 e; omega
      obtain ⟨x1, x2⟩ := x1
      have HB : Bx (Below w.heap.size w w1) := ⟨Below.trans (by repeat (first | with_reducible exact Below.refl _ _ | (with_reducible refine Below.setCell ?_ ?side _; case side => (first | omega | (simp <;> omega))) | (with_reducible refine Below.alloc ?_ ?side _; case side => (first | omega | (simp <;> omega))) | with_reducible apply below_drewN | with_reducible apply below_drew)) (hb1.mono (by first | omega | (simp <;> omega)))⟩
      obtain ⟨s, hs⟩ : ∃ s, q * Y = s := ⟨_, rfl⟩
      rw [hs] at b4 b5 y2 K
      obtain ⟨y21, y22⟩ := y2
      clear hb1 b1 b2 b3 HE key y1
      go_wp2_with fail
      go_region
      all_goals go_wp2_with fail
      all_goals (refine bodyPost_ret_by (v := .agg #[.int .i64 G, .int .i64 Y, .int .i64 (X - s)]) (by simp [results, Try.results116, go_sem, hc1, hf1, hy1]) rfl ?_)
      all_goals exact ⟨G, Y, X - s, ⟨K.out⟩, rfl, (by repeat (first | with_reducible exact HB.out | with_reducible exact Below.refl _ _ | (with_reducible refine Below.setCell ?_ ?side _; case side => (first | omega | (simp <;> omega))) | (with_reducible refine Below.alloc ?_ ?side _; case side => (first | omega | (simp <;> omega))) | with_reducible apply below_drewN | with_reducible apply below_drew))⟩
end Go.Proofs.Ytnbamjoadankmaa
/- An append onto a slice that the call has made, as one step of a region that draws its order. -/
namespace Go.Proofs.Ytnbamjoadankmaa
open Go.RowKit
theorem step_append_own {P : Program} {ops : Array Oper} {o : Oper} {a : Act} {w : World} {K : Act → World → Prop} {Q : Exit → Act → World → Prop} {E : Prop}
    (hg : o.guard = none) (s x : Operand) (t : TypeId) (hop : o.op = Op.call { callee := Callee.builtin Builtin.append, args := #[s, x], argTypes := #[t, t] })
    (base : Nat) (e : TypeId) (i : TypeInfo) (z : Value) (size bytes : Nat) (ht : P.underlying t = some (.slice e)) (hi : P.info? e = some i) (hz : i.zero = some z)
    (hsize : i.size = size) (hby : i.bytes = bytes) (hzs : z.cells.size = size) (hsz : 0 < size)
    (v : Value) (n : Nat) (xs : List Value) (hs : a.eval s = v) (hown : w.ownsRow base e size v n xs)
    (ao : Option Addr) (m c : Nat) (news : List Value) (hx : a.eval x = .slice ao m c) (hl : news.length = m * size) (hnone : ao = none → m = 0 ∧ c = 0) (hnews : ∀ ad, ao = some ad → ∀ j u, news[j]? = some u → w.cell? (ad.add j) = some u) (h1 : ∀ u ∈ news, u.oneCell' = true)
    (h63 : n + m ≤ maxLen) (hbytes : (n + m) * bytes ≤ 140737488355328) (hbase : base ≤ w.heap.size)
    (h : ∀ v' w', w'.ownsRow base e size v' (n + m) (xs ++ news) → w.grownBy w' v.ownBlock → K (a.put o.dst v') w') :
    if Region.wanted o (yielded ops a.tmps) = true then Oper.wp P o a w K Q else E := by
  have hw : Region.wanted o (yielded ops a.tmps) = true := by simp [Region.wanted, hg]
  rw [if_pos hw]
  cases ao with
  | some ad =>
    obtain ⟨v', w', hrun, h2, h3, _⟩ := run_append_own (P := P) w base t o.type e i z size bytes ht hi hz hsize hby hzs hsz v n xs hown ad m c news hl (hnews ad rfl) h1 h63 hbytes hbase
    unfold Oper.wp
    simp [execOp, hop, resolve, invoke, builtin, hs, hx, hrun, Result.andThen]
    exact h v' w' h2 h3
  | none =>
    obtain ⟨rfl, rfl⟩ := hnone rfl
    have hnews : news = [] := List.eq_nil_of_length_eq_zero (by simpa using hl)
    subst hnews
    have hrun := run_append_owned_none (P := P) w base t o.type e i size ht hi v n xs hown
    unfold Oper.wp
    simp [execOp, hop, resolve, invoke, builtin, hs, hx, hrun, Result.andThen]
    exact h v w (by simpa using hown) (World.grownBy.refl _ _)
theorem wpList_append_any {P : Program} {w : World} {ops : Array Oper} {rest : List Oper} {o : Oper} {a : Act} {Q : Exit → Act → World → Prop} (hgd : o.guard = none) (s x : Operand) (t : TypeId)
    (ho : o.op = .call { callee := .builtin .append, args := #[s, x], argTypes := #[t, t] })
    (base : Nat) (e : TypeId) (i : TypeInfo) (z : Value) (size bytes : Nat) (ht : P.underlying t = some (.slice e)) (hi : P.info? e = some i) (hz : i.zero = some z)
    (hsize : i.size = size) (hby : i.bytes = bytes) (hzs : z.cells.size = size) (hsz : 0 < size)
    (v : Value) (n : Nat) (xs : List Value) (hs : a.eval s = v) (hown : w.ownsRow base e size v n xs)
    (ao : Option Addr) (m c : Nat) (news : List Value) (hx : a.eval x = .slice ao m c) (hl : news.length = m * size) (hnone : ao = none → m = 0 ∧ c = 0) (hnews : ∀ ad, ao = some ad → ∀ j u, news[j]? = some u → w.cell? (ad.add j) = some u) (h1 : ∀ u ∈ news, u.oneCell' = true)
    (h63 : n + m ≤ maxLen) (hbytes : (n + m) * bytes ≤ 140737488355328) (hbase : base ≤ w.heap.size)
    (h : ∀ v' w', w'.ownsRow base e size v' (n + m) (xs ++ news) → w.grownBy w' v.ownBlock → wpList P ops Q rest (a.put o.dst v') w') : wpList P ops Q (o :: rest) a w := by
  cases ao with
  | some ad => exact wpList_append_own w hgd s x t ho base e i z size bytes ht hi hz hsize hby hzs hsz v n xs hs hown ad m c news hx hl (hnews ad rfl) h1 h63 hbytes hbase fun v' w' h2 h3 _ => h v' w' h2 h3
  | none =>
    obtain ⟨rfl, rfl⟩ := hnone rfl
    have hnews : news = [] := List.eq_nil_of_length_eq_zero (by simpa using hl)
    subst hnews
    exact wpList_append_own_none hgd s x t ho base e i size ht hi v n xs hs hown hx (h v w (by simpa using hown) (World.grownBy.refl _ _))
end Go.Proofs.Ytnbamjoadankmaa
