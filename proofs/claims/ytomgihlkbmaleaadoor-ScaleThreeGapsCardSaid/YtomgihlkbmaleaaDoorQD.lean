/- The program's scale: octaves, walked. -/
import Derived.Test.YtomgihlkbmaleaaDoorQC
namespace Go.Proofs.YtomgihlkbmaleaaDoor
open Go.RowKit M
theorem count_mono (p : Nat → Bool) : ∀ n, (∀ a b, a ≤ b → b < n → p a = true → p b = true) → ∃ c, (List.range n).countP (fun i => !p i) = c ∧ c ≤ n ∧ (∀ i, i < c → p i = false) ∧ (c < n → p c = true)
  | 0, _ => ⟨0, rfl, Nat.le_refl _, fun i h => by omega, fun h => by omega⟩
  | n + 1, hm => by
    obtain ⟨c, h1, h2, h3, h4⟩ := count_mono p n fun a b hab hb => hm a b hab (by omega)
    by_cases hc : c < n
    · have hn : p n = true := hm c n (by omega) (by omega) (h4 hc)
      exact ⟨c, by rw [List.range_succ, List.countP_append, h1]; simp [hn], by omega, h3, fun _ => h4 hc⟩
    · obtain rfl : c = n := by omega
      cases hn : p c with
      | true => exact ⟨c, by rw [List.range_succ, List.countP_append, h1]; simp [hn], by omega, h3, fun _ => hn⟩
      | false => exact ⟨c + 1, by rw [List.range_succ, List.countP_append, h1]; simp [hn], by omega, fun i hi => by
          by_cases e : i = c
          · rw [e]; exact hn
          · exact h3 i (by omega), fun h => by omega⟩
/-- What the closure of octaves says of i, where l is the least number of octaves. -/
def hiP (p : Nat → Int) (l : Int) (i : Nat) : Bool := decide (cm (fun k => p k + oc (-l - (i : Int)) k) (oc 1) < 0)
def octI (p : Nat → Int) : Int := (p 0 - 576).tdiv 12 + ((List.range ((p 0 + 576).tdiv 12 - (p 0 - 576).tdiv 12 + 1).toNat).countP fun i => !hiP p ((p 0 - 576).tdiv 12) i : Nat)
theorem oc_val : bdB (oc 1) 576 = true := by decide
/-- The pitches that are tried. -/
theorem tried {p : Nat → Int} {l m : Int} (hp : bdB p 576 = true) (hl : (p 0 - 576).tdiv 12 = l) (hm : (p 0 + 576).tdiv 12 = m) {i : Int} (h0 : 0 ≤ i) (h1 : i < m - l + 1) : bdB (fun k => p k + oc (-l - i) k) 576 = true := by
  have b := bdB_yes.1 hp
  refine bdB_yes.2 fun k hk => ?_
  have bk := b k hk
  have b0 := b 0 (by omega)
  by_cases e : k = 0
  · subst e
    have d1 := Int.tdiv_eq_ediv_of_nonneg (a := p 0 + 576) (b := 12) (by omega)
    have d2 : (p 0 - 576).tdiv 12 = -((576 - p 0).tdiv 12) := by rw [← Int.neg_tdiv]; congr 1; omega
    have d3 := Int.tdiv_eq_ediv_of_nonneg (a := 576 - p 0) (b := 12) (by omega)
    simp [oc]
    omega
  · simp only [oc, if_neg e]; omega
theorem hiP_eq {p : Nat → Int} {l m : Int} (hp : bdB p 576 = true) (hl : (p 0 - 576).tdiv 12 = l) (hm : (p 0 + 576).tdiv 12 = m) {i : Nat} (h1 : i < (m - l + 1).toNat) : hiP p l i = decide (sg (subV (fun k => p k + oc (-l - (i : Int)) k) (oc 1)) < 0) := by
  unfold hiP
  rw [cm_ok (tried hp hl hm (by omega) (by omega)) oc_val]
theorem hiP_mono {p : Nat → Int} {l m : Int} (hp : bdB p 576 = true) (hl : (p 0 - 576).tdiv 12 = l) (hm : (p 0 + 576).tdiv 12 = m) (a b : Nat) (hab : a ≤ b) (hb : b < (m - l + 1).toNat) (h : hiP p l a = true) : hiP p l b = true := by
  rw [hiP_eq hp hl hm hb]
  rw [hiP_eq hp hl hm (by omega)] at h
  rw [decide_eq_true_eq] at h ⊢
  have k : sg (oc ((a : Int) - b)) ≤ 0 := by
    by_cases e : a = b
    · subst e; rw [show sg (oc ((a : Int) - a)) = 0 from sg_zero.2 fun i _ => by unfold oc; split <;> omega]; exact Int.le_refl _
    · have := sg_oc (n := (b : Int) - a) (by omega)
      have k := sg_anti (u := oc ((a : Int) - b)) (v := oc ((b : Int) - a)) fun i _ => by unfold oc; split <;> omega
      omega
  exact sg_lt_sum h k fun i _ => by simp only [subV, oc]; split <;> omega
theorem lm_bd {p : Nat → Int} {l m : Int} (hp : bdB p 576 = true) (hl : (p 0 - 576).tdiv 12 = l) (hm : (p 0 + 576).tdiv 12 = m) : -96 ≤ l ∧ l ≤ 0 ∧ 0 ≤ m ∧ m ≤ 96 := by
  have b0 := bdB_yes.1 hp 0 (by omega)
  have d1 := Int.tdiv_eq_ediv_of_nonneg (a := p 0 + 576) (b := 12) (by omega)
  have d2 : (p 0 - 576).tdiv 12 = -((576 - p 0).tdiv 12) := by rw [← Int.neg_tdiv]; congr 1; omega
  have d3 := Int.tdiv_eq_ediv_of_nonneg (a := 576 - p 0) (b := 12) (by omega)
  omega
set_option maxRecDepth 100000 in
set_option maxHeartbeats 4000000 in
theorem octaves_any (p : Nat → Int) (o : Int) (hp : bdB p 576 = true) (ho : octI p = o) (w : World) (hs : Sm w) : Calls Tryd.prog 22 #[PV p] w fun e w' => e = .returned (.int .i64 o) ∧ Below w.heap.size w w' := by
  obtain ⟨l, hl⟩ : ∃ l, (p 0 - 576).tdiv 12 = l := ⟨_, rfl⟩
  obtain ⟨m, hm⟩ : ∃ m, (p 0 + 576).tdiv 12 = m := ⟨_, rfl⟩
  obtain ⟨l0, l1, m0, m1⟩ := lm_bd hp hl hm
  obtain ⟨b0, b1⟩ := bdB_yes.1 hp 0 (by omega)
  obtain ⟨n, hn⟩ : ∃ n : Nat, (m - l + 1).toNat = n := ⟨_, rfl⟩
  have hn' : m - l + 1 = (n : Int) := by omega
  have HM := fun a b hab hb h => hiP_mono hp hl hm a b hab (by rw [hn]; exact hb) h
  unfold octI at ho
  rw [hl, hm, hn] at ho
  obtain ⟨c, hc⟩ : ∃ c : Nat, (List.range n).countP (fun i => !hiP p l i) = c := ⟨_, rfl⟩
  rw [hc] at ho
  have hcn : c ≤ n := by rw [← hc]; exact Nat.le_trans List.countP_le_length (by simp)
  have eg : ∀ args w, (callFunc 43 args).run Tryd.prog w = .ok (.enter 43 args) w := enters_of Tryd.func43 (by kernel_rfl) rfl
  -- sort.Search, in whatever world that has the pitch and the least number in boxes
  have HS : ∀ (W : World) (pb lb : Nat), Sm W → (∀ k, k < 6 → W.cell? ⟨pb, k, none⟩ = some (.int .i64 (p k))) → W.cell? ⟨lb, 0, none⟩ = some (.int .i64 l) →
      Calls Tryd.prog 42 #[.int .i64 n, .func (.func 43) #[] #[.pointer (some ⟨pb, 0, none⟩), .pointer (some ⟨lb, 0, none⟩)]] W fun e w' => e = .returned (.int .i64 (c : Int)) ∧ Below W.heap.size W w' := by
    intro W pb lb hW hpc hlc
    have k := Any.sort_Search Tryd.search 43 #[.pointer (some ⟨pb, 0, none⟩), .pointer (some ⟨lb, 0, none⟩)] n (fun i => hiP p l i) W eg (by omega)
      (fun q os i hi => calls_grown (oclos_any p (fun k => p k + oc (-l - (i : Int)) k) l i pb lb (hiP p l i) (fun _ _ => rfl) rfl (by omega) (by omega) (by omega) (by omega) (by omega) (by omega) _ (hW.keep (below_grown W q os))
        (fun k hk => ((below_grown W q os).cell (p := ⟨pb, k, none⟩) (block_lt_of_cell (hpc k hk))).trans (hpc k hk)) (((below_grown W q os).cell (p := ⟨lb, 0, none⟩) (block_lt_of_cell hlc)).trans hlc))) HM
    rw [hc] at k
    exact k.mono fun e w' ⟨he, q, os, hw⟩ => ⟨he, hw ▸ below_grown W q os⟩
  clear hc HM hp
  go_enter Tryd.func22, Tryd.ntmps22
  have g : ∀ o, (w.alloc o).cell? ⟨1, 0, none⟩ = some (.int .i64 12) := fun o => (oldc w o hs.olt 0).trans hs.o0
  have g1 : ∀ o, (w.alloc o).drew.cell? ⟨1, 0, none⟩ = some (.int .i64 12) := fun o => (oldc w o hs.olt 0).trans hs.o0
  have g2 : ∀ o o', ((w.alloc o).alloc o').drew.cell? ⟨1, 0, none⟩ = some (.int .i64 12) := fun o o' => (oldc2 w o o' hs.olt 0).trans hs.o0
  have g3 : ∀ o o' v, (((w.alloc o).alloc o').drew.setCell ⟨w.heap.size + 1, 0, none⟩ v).cell? ⟨1, 0, none⟩ = some (.int .i64 12) := fun o o' v =>
    ((((Below.refl w.heap.size w).alloc (Nat.le_refl _) o).alloc (by simp) o').drew.setCell (p := ⟨w.heap.size + 1, 0, none⟩) (by simp) v |>.cell (p := ⟨1, 0, none⟩) hs.olt).trans hs.o0
  have hs' := Hx.mk hs
  clear hs
  go_wp2_with fail
  go_region
  generalize hW1 : World.drew (World.alloc (World.alloc w _) _) = W1
  have b1 : Below w.heap.size w W1 := hW1 ▸ (((Below.refl w.heap.size w).alloc (Nat.le_refl _) _).alloc (by simp) _).drew
  have p1 : ∀ k, k < 6 → W1.cell? ⟨w.heap.size, k, none⟩ = some (.int .i64 (p k)) := by
    subst hW1
    exact six (by simp) (by simp) (by simp) (by simp) (by simp) (by simp)
  have l1' : W1.cell? ⟨w.heap.size + 1, 0, none⟩ = some (.int .i64 l) := by
    subst hW1
    simp
  have s1 := hs'.out.keep b1
  clear hW1 g g1 g2 g3
  have H : ∀ d os, Calls Tryd.prog 42 #[.int .i64 n, .func (.func 43) #[] #[.pointer (some ⟨w.heap.size, 0, none⟩), .pointer (some ⟨w.heap.size + 1, 0, none⟩)]] (Sort.grow (redrawn W1 d) os) fun e w' => e = .returned (.int .i64 (c : Int)) ∧ ∃ p : Regrown, w' = Sort.grow (redrawn W1 p.d) p.os :=
    fun d os => Calls.regrown_of (HS _ _ _ (s1.keep (below_regrown W1 d os)) (fun k hk => cell_regrown (p1 k hk) d os) (cell_regrown l1' d os))
  have kl := cell_regrown l1'
  have hw1 : IntKind.i64.wrap (m - l) = m - l := IntWalk.i64_in _ ⟨by omega, by omega⟩
  have hw2 : IntKind.i64.wrap (m - l + 1) = (n : Int) := by rw [hn']; exact IntWalk.i64_in _ ⟨by omega, by omega⟩
  have hw3 : IntKind.i64.wrap (l + (c : Int)) = o := by rw [ho]; exact IntWalk.i64_in _ ⟨by omega, by omega⟩
  clear HS l1' s1 hs' hn' hn hl hm ho eg
  go_wp2_with fail
  have mixed : Tryd.prog.follows .mixedOrders = true := by kernel_rfl
  refine wp_region_quiet_below mixed (by kernel_rfl) ?_
  repeat (quiet_step (first | exact H _ _))
  refine wpQuiet_nil ?_
  intro wq hbq'
  have hbq := below_of_regrown hbq'
  clear hbq'
  go_wp2_with fail
  go_ret
  exact ⟨rfl, b1.trans (hbq.mono b1.size)⟩
end Go.Proofs.YtomgihlkbmaleaaDoor
