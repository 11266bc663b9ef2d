/- MatrixSame: the mathematics of changed rows, and the law's walk. -/
import Derived.Test.YtjnnalfocffggaaHC
import Derived.Test.YtjnnalfocffggaaLC
namespace Go.Proofs.Ytjnnalfocffggaa
open Go.RowKit D
theorem swM_at (M : Nat → Nat → Int) (i k r : Nat) : swM M i k r = M (if r = k then i else if r = i then k else r) := by
  funext s
  unfold swM updR
  by_cases a : r = k
  · rw [if_pos a, if_pos a]
  · rw [if_neg a, if_neg a]
    by_cases b : r = i
    · rw [if_pos b, if_pos b]
    · rw [if_neg b, if_neg b]
theorem sp_neg {M : Nat → Nat → Int} {n : Nat} {v : Nat → Int} (h : Sp M n 6 v) : Sp M n 6 (fun j => - v j) := (h.mul (-1)).congr fun j _ => by omega
theorem chM_to {M : Nat → Nat → Int} {n i k : Nat} (hi : i < n) (hk : k < n) (x : Int) : ∀ t, t < n → Sp M n 6 (chM M i k x t) := fun t ht => by
  have s : ∀ r, r < n → Sp M n 6 (swM M i k r) := fun r hr => by
    rw [swM_at]
    refine Sp.unit ?_
    split
    · exact hi
    · split
      · exact hk
      · exact hr
  have g : ∀ r, r < n → Sp M n 6 (ngM (swM M i k) k r) := fun r hr => by
    unfold ngM
    by_cases a : r = k
    · simp only [a, if_true]; exact sp_neg (s k hk)
    · simp only [a, if_false]; exact s r hr
  unfold chM
  split
  · exact g t ht
  · unfold adM
    by_cases a : t = i
    · simp only [a, if_true]; exact (g i hi).add ((g k hk).mul x)
    · simp only [a, if_false]; exact g t ht
theorem chM_from {M : Nat → Nat → Int} {n i k : Nat} (hi : i < n) (hk : k < n) (x : Int) : ∀ t, t < n → Sp (chM M i k x) n 6 (M t) := fun t ht => by
  by_cases hik : i = k
  · subst hik
    have e : ∀ r, chM M i i x r = fun s => if r = i then - M r s else M r s := fun r => by
      unfold chM ngM
      rw [if_pos rfl]
      funext s
      rw [swM_at]
      by_cases a : r = i
      · simp [a]
      · simp [a]
    by_cases a : t = i
    · subst a
      refine (sp_neg (Sp.unit (M := chM M t t x) hi)).congr fun j _ => ?_
      rw [e]; simp
    · refine (Sp.unit (M := chM M i i x) ht).congr fun j _ => ?_
      rw [e]; simp [a]
  · have e : ∀ r s, chM M i k x r s = if r = i then ngM (swM M i k) k i s + x * ngM (swM M i k) k k s else ngM (swM M i k) k r s := fun r s => by
      unfold chM adM
      rw [if_neg hik]
      by_cases a : r = i
      · rw [if_pos a, if_pos a, a]
      · rw [if_neg a, if_neg a]
    have ek : ∀ s, chM M i k x k s = - M i s := fun s => by
      rw [e, if_neg (fun h => hik h.symm)]
      unfold ngM; rw [if_pos rfl, swM_at, if_pos rfl]
    have ei : ∀ s, chM M i k x i s = M k s - x * M i s := fun s => by
      rw [e, if_pos rfl]
      have a : ngM (swM M i k) k k s = - M i s := by unfold ngM; rw [if_pos rfl, swM_at, if_pos rfl]
      have b : ngM (swM M i k) k i s = M k s := by unfold ngM; rw [if_neg hik, swM_at, if_neg hik, if_pos rfl]
      rw [a, b, Int.mul_neg]; omega
    have er : ∀ r s, r ≠ i → r ≠ k → chM M i k x r s = M r s := fun r s h1 h2 => by
      rw [e, if_neg h1]
      unfold ngM; rw [if_neg h2, swM_at, if_neg h2, if_neg h1]
    by_cases a : t = i
    · subst a
      exact (sp_neg (Sp.unit (M := chM M t k x) hk)).congr fun j _ => by rw [ek]; omega
    · by_cases b : t = k
      · subst b
        refine ((Sp.unit (M := chM M i t x) hi).add ((Sp.unit (M := chM M i t x) hk).mul (-x))).congr fun j _ => ?_
        show M t j = chM M i t x i j + -x * chM M i t x t j
        rw [ei, ek]; grind
      · exact (Sp.unit (M := chM M i k x) ht).congr fun j _ => by rw [er t j a b]
theorem pn_map (l : List Nat) (σ : Nat → Nat) (f : Nat → Nat) : pn (l.map σ) f = pn l (fun t => f (σ t)) := by
  induction l with
  | nil => rfl
  | cons a l ih => show f (σ a) * pn (l.map σ) f = _; rw [ih]; rfl
theorem pn_congr {l : List Nat} {f g : Nat → Nat} (h : ∀ i ∈ l, f i = g i) : pn l f = pn l g := by
  induction l with
  | nil => rfl
  | cons a l ih => show f a * pn l f = g a * pn l g; rw [h a (by simp), ih fun i hi => h i (by simp [hi])]
theorem rs_congr {m : Nat} {u v : Nat → Int} (h : ∀ t, t < m → (u t).natAbs = (v t).natAbs) : rs m u = rs m v :=
  Nat.le_antisymm (rs_le fun t ht => by rw [h t ht]; exact Nat.le_refl _) (rs_le fun t ht => by rw [h t ht]; exact Nat.le_refl _)
theorem chM_zero {M : Nat → Nat → Int} {i k : Nat} (t s : Nat) : (chM M i k 0 t s).natAbs = (M (if t = k then i else if t = i then k else t) s).natAbs := by
  have h : chM M i k 0 t s = ngM (swM M i k) k t s := by
    unfold chM
    split
    · rfl
    · unfold adM
      by_cases a : t = i
      · rw [if_pos a]; omega
      · rw [if_neg a]
  rw [h]
  unfold ngM
  by_cases a : t = k
  · rw [if_pos a, Int.natAbs_neg, swM_at]
  · rw [if_neg a, swM_at]
theorem chM_valid {M : Nat → Nat → Int} {n i k : Nat} (hi : i < n) (hk : k < n) (hv : VM M n) : VM (chM M i k 0) n := by
  have lt : ∀ t, t < n → (if t = k then i else if t = i then k else t) < n := fun t ht => by
    split
    · exact hi
    · split
      · exact hk
      · exact ht
  refine ⟨hv.1, fun t s ht hs => ?_, ?_⟩
  · have a := chM_zero (M := M) (i := i) (k := k) t s
    have b := hv.2.1 _ s (lt t ht) hs
    omega
  · rw [vol_range]
    have e : pn (List.range n) (fun t => if rs 6 (chM M i k 0 t) = 0 then 1 else rs 6 (chM M i k 0 t)) = pn ((List.range n).map fun t => if t = k then i else if t = i then k else t) (fun t => if rs 6 (M t) = 0 then 1 else rs 6 (M t)) := by
      rw [pn_map]
      refine pn_congr fun t _ => ?_
      have : rs 6 (chM M i k 0 t) = rs 6 (M (if t = k then i else if t = i then k else t)) := rs_congr fun s _ => chM_zero t s
      rw [this]
    have p : ((List.range n).map fun t => if t = k then i else if t = i then k else t).Perm (List.range n) := by
      refine perm_range ?_ (by simp) (fun x hx => by obtain ⟨t, ht, rfl⟩ := List.mem_map.1 hx; exact lt t (List.mem_range.1 ht))
      refine List.pairwise_map.2 (List.nodup_range.imp fun {a b} hab h => hab ?_)
      split at h <;> split at h <;> (try split at h) <;> (try split at h) <;> omega
    rw [e, pn_perm p, ← vol_range]
    exact hv.2.2
theorem ci_cn {w : World} {ao : Option Addr} {l : List Nat} (h : CN w ao l) : CI w ao (l.map fun (x : Nat) => (x : Int)) := fun hl => by
  obtain ⟨b, o, e, hb, hc⟩ := h (by intro x; exact hl (by rw [x]; rfl))
  refine ⟨b, o, e, hb, fun i hi => ?_⟩
  rw [hc i (by simpa using hi)]
  simp at hi
  simp [List.getD_eq_getElem?_getD, List.getElem?_eq_getElem hi]
theorem divs_same {M N : Nat → Nat → Int} {n r s : Nat} {g h : Nat → Nat} (e : ∀ k d, Dv M n 6 k d ↔ Dv N n 6 k d) (hg : ∀ k d, Dv M n 6 k d ↔ d ∣ (g k : Int)) (hh : ∀ k d, Dv N n 6 k d ↔ d ∣ (h k : Int)) (k : Nat) : g k = h k :=
  dv_one (P := fun d => Dv M n 6 k d) (hg k) (fun d => (e k d).trans (hh k d))
theorem wf_u8 {a : Int} (h : (Lit.int .u8 a).wf = true) : 0 ≤ a ∧ a ≤ 255 := by
  simp [Lit.wf, IntKind.min, IntKind.max, IntKind.signed, IntKind.bits] at h
  omega
theorem wf_i16' {a : Int} (h : (Lit.int .i16 a).wf = true) : -32768 ≤ a ∧ a ≤ 32767 := by
  simp [Lit.wf, IntKind.min, IntKind.max, IntKind.signed, IntKind.bits] at h
  omega
/-- What the calls over the given rows answer. -/
structure Ans (M : Nat → Nat → Int) (n q u : Nat) (O K : Nat → Nat → Int) (p pk : Nat → Nat) (g : Nat → Nat) : Prop where
  hf : Hf O q 6 p
  to : ∀ t, t < n → Sp O q 6 (M t)
  of : ∀ i, i < q → Sp M n 6 (O i)
  dv : ∀ k d, Dv M n 6 k d ↔ d ∣ (g k : Int)
  kf : Hf K u 6 pk
  k1 : ∀ i k, i < u → k < n → dot 6 (M k) (K i) = 0
  k2 : ∀ y, (∀ k, k < n → dot 6 (M k) y = 0) → Sp K u 6 y
set_option maxRecDepth 100000 in
set_option maxHeartbeats 16000000 in
theorem same_law (ao : Option Addr) (n c1 : Nat) (M : Nat → Nat → Int) (za zf x : Int) (w : World) (hc1 : n ≤ c1) (hc2 : c1 ≤ maxLen) (hR : CV w ao n M) (wa : (Lit.int .u8 za).wf = true) (wf : (Lit.int .u8 zf).wf = true) (wx : (Lit.int .i16 x).wf = true) :
    Calls Try.prog 5 #[.slice ao n c1, .int .u8 za, .int .u8 zf, .int .i16 x] w fun e w' => e = .returned (.bool true) ∧ Below w.heap.size w w' := by
  have ba := wf_u8 wa
  have bf := wf_u8 wf
  have bx := wf_i16' wx
  obtain ⟨a, rfl⟩ : ∃ a : Nat, za = (a : Int) := ⟨za.toNat, by omega⟩
  obtain ⟨f, rfl⟩ : ∃ f : Nat, zf = (f : Int) := ⟨zf.toNat, by omega⟩
  have HR := Bx.mk hR
  clear hR wa wf wx
  by_cases h0 : n = 0
  · subst h0
    go_enter Try.func5, Try.ntmps5
    go_wp2_with (go_at_call 17; refine (head_any _).mono ?_; rintro e w1 ⟨rfl, B1⟩)
    go_ret
    exact ⟨rfl, B1⟩
  · have hn : 0 < n := by omega
    have hn0 : ((n : Int) == 0) = false := by simp; omega
    clear h0
    by_cases hv : VM M n
    · have HV := Bx.mk hv
      have hn8 : n ≤ 8 := hv.1
      have HMB := Bx.mk (fun i j hi hj => (show (M i j).natAbs ≤ 1000000000 by have := hv.2.1 i j hi hj; omega))
      clear hv
      have ia : a % n < n := Nat.mod_lt _ hn
      have kf : f % n < n := Nat.mod_lt _ hn
      obtain ⟨i, hi⟩ : ∃ i, a % n = i := ⟨_, rfl⟩
      obtain ⟨k, hk⟩ : ∃ k, f % n = k := ⟨_, rfl⟩
      have PCH := fun w' (hb : Below w.heap.size w w') => changed_any ao n c1 M a f x w' hn hn8 hc1 hc2 (HR.out.keep hb) HMB.out (by omega) (by omega) bx.1 bx.2
      rw [hi, hk] at PCH
      rw [hi] at ia
      rw [hk] at kf
      obtain ⟨C, hC⟩ : ∃ C, chM M i k x = C := ⟨_, rfl⟩
      rw [hC] at PCH
      have HCT := Bx.mk (show ∀ t, t < n → Sp M n 6 (C t) by rw [← hC]; exact chM_to ia kf x)
      have HCF := Bx.mk (show ∀ t, t < n → Sp C n 6 (M t) by rw [← hC]; exact chM_from ia kf x)
      have HCZ := Bx.mk (show x = 0 → VM C n by rw [← hC]; intro e; rw [e]; exact chM_valid ia kf HV.out)
      have HPC := Bx.mk PCH
      clear PCH hC hi hk ia kf ba bf bx
      go_enter Try.func5, Try.ntmps5
      have M1 : Bx True := ⟨trivial⟩
      go_wp2_with (first
        | (go_at_call 17; refine (head_any _).mono ?_; rintro e w1 ⟨rfl, B1⟩)
        | (clear M1; go_at_call 18; refine (pvalid_any ao n c1 M _ hc1 hc2 (HR.out.keep B1) true (by simp [HV.out])).mono ?_; rintro e w2 ⟨rfl, B2⟩
           have B12 := B1.trans (B2.mono B1.size))
        | (go_at_call 34; refine (HPC.out _ B12).mono ?_; rintro e w3 ⟨g, cap, rfl, hcap, HGC, B3⟩)
        | (go_at_call 20; refine ((hermite_pub ao n c1 M _ hc1 hc2 (HR.out.keep (B12.trans (B3.out.mono B12.size)))).mono (R' := fun e w' => ∃ (ho : Option Addr) (hc q : Nat) (O : Nat → Nat → Int) (p : Nat → Nat), e = .returned (.tuple #[.slice ho q hc, .int .i64 0]) ∧ q ≤ 6 ∧ q ≤ hc ∧ hc ≤ maxLen ∧ Bx (CV w' ho q O) ∧ Bx (Hf O q 6 p) ∧ Bx ((∀ t, t < n → Sp O q 6 (M t)) ∧ ∀ i, i < q → Sp M n 6 (O i)) ∧ Bx (Below w3.heap.size w3 w')) fun e w' ⟨h, hb⟩ => by
           rcases h with ⟨h, _⟩ | ⟨_, ho, hc, q, O, p, he, hcv, h1, h2, h6, hO, k1, k2⟩
           · exact absurd HV.out h
           · exact ⟨ho, hc, q, O, p, he, h6, h1, h2, ⟨hcv⟩, ⟨hO⟩, ⟨k1, k2⟩, ⟨hb⟩⟩).mono ?_; rintro e w4 ⟨h0, hc, q, O, p, rfl, hq6, hqc, hcm, HH, HO, HS, B4⟩))
      have hncap : n ≤ cap := by obtain ⟨_, _, _, h, _⟩ := HGC.out; exact h
      have HB4 : Bx (Below w.heap.size w w4) := ⟨(B12.trans (B3.out.mono B12.size)).trans (B4.out.mono (Nat.le_trans B12.size B3.out.size))⟩
      have HC4 : Bx (CV w4 (some ⟨g, 0, none⟩) n C) := ⟨HGC.out.cv.keep B4.out⟩
      clear B1 B2 B12 B3 B4 HGC
      by_cases hvc : VM C n
      · have HVC := Bx.mk hvc
        clear hvc
        refine ((hermite_pub (some ⟨g, 0, none⟩) n cap C _ hncap hcap HC4.out).mono (R' := fun e w' => ∃ (ho : Option Addr) (hc : Nat) (O2 : Nat → Nat → Int), e = .returned (.tuple #[.slice ho q hc, .int .i64 0]) ∧ q ≤ hc ∧ hc ≤ maxLen ∧ Bx (CV w' ho q O2) ∧ Bx (∀ i j, i < q → j < 6 → O i j = O2 i j) ∧ Bx (Below w4.heap.size w4 w')) fun e w' ⟨h, hb⟩ => by
          rcases h with ⟨h, _⟩ | ⟨_, ho, hc, q', O', p', he, hcv, h1, h2, h6, hO, k1, k2⟩
          · exact absurd HVC.out h
          · obtain ⟨rfl, _, heq⟩ := HO.out.one hO (fun i hi => ((k2 i hi).trans HCT.out).trans HS.out.1) (fun i hi => ((HS.out.2 i hi).trans HCF.out).trans k1)
            exact ⟨ho, hc, O', he, h1, h2, ⟨hcv⟩, ⟨heq⟩, ⟨hb⟩⟩).mono ?_
        rintro e w5 ⟨h1, hd, O2, rfl, hqd, hcm2, HH2, HEQ, B5⟩
        have HB5 : Bx (Below w.heap.size w w5) := ⟨HB4.out.trans (B5.out.mono HB4.out.size)⟩
        have HHa := Bx.mk (HH.out.keep B5.out)
        have HC5 := Bx.mk (HC4.out.keep B5.out)
        clear B5 HH HC4 HB4
        have HRK := Bx.mk (HO.out.rank HS.out.1 HS.out.2)
        have HDV := Bx.mk (fun k d => (⟨fun h => h.rows HCT.out, fun h => h.rows HCF.out⟩ : Dv M n 6 k d ↔ Dv C n 6 k d))
        have M2 : Bx True := ⟨trivial⟩
        have M3 : Bx True := ⟨trivial⟩
        have M4 : Bx True := ⟨trivial⟩
        have M5 : Bx True := ⟨trivial⟩
        have M6 : Bx True := ⟨trivial⟩
        have M7 : Bx True := ⟨trivial⟩
        go_wp2_with (first
          | (clear M2; go_at_call 25; refine ((divisors_pub ao n c1 M _ hc1 hc2 (HR.out.keep HB5.out)).mono (R' := fun e w' => ∃ (g : Nat → Nat) (ho : Option Addr) (hc : Nat), e = .returned (.tuple #[.slice ho q hc, .int .i64 0]) ∧ q ≤ hc ∧ hc ≤ maxLen ∧ Bx (CN w' ho ((List.range q).map fun i => g (i + 1))) ∧ Bx (∀ k d, Dv M n 6 k d ↔ d ∣ (g k : Int)) ∧ Bx (Below w5.heap.size w5 w')) fun e w' ⟨h, hb⟩ => by
               rcases h with ⟨h, _⟩ | ⟨_, g, ho, hc, r, he, hcn, h1, h2, h6, k1, k2, k3⟩
               · exact absurd HV.out h
               · obtain rfl := divs_rank HRK.out k1 k2 k3
                 exact ⟨g, ho, hc, he, h1, h2, ⟨hcn⟩, ⟨k1⟩, ⟨hb⟩⟩).mono ?_; rintro e w6 ⟨G, d0, dc, rfl, hqdc, hdcm, HD, HG, B6⟩
             have HB6 : Bx (Below w.heap.size w w6) := ⟨HB5.out.trans (B6.out.mono HB5.out.size)⟩
             have HC6 := Bx.mk (HC5.out.keep B6.out))
          | (clear M3; go_at_call 25; refine ((divisors_pub (some ⟨g, 0, none⟩) n cap C _ hncap hcap HC6.out).mono (R' := fun e w' => ∃ (ho : Option Addr) (hc : Nat), e = .returned (.tuple #[.slice ho q hc, .int .i64 0]) ∧ q ≤ hc ∧ hc ≤ maxLen ∧ Bx (CN w' ho ((List.range q).map fun i => G (i + 1))) ∧ Bx (Below w6.heap.size w6 w')) fun e w' ⟨h, hb⟩ => by
               rcases h with ⟨h, _⟩ | ⟨_, g', ho, hc, r, he, hcn, h1, h2, h6, k1, k2, k3⟩
               · exact absurd HVC.out h
               · have eg : G = g' := funext fun k => dv_one (P := fun d => Dv M n 6 k d) (HG.out k) (fun d => (HDV.out k d).trans (k1 k d))
                 subst eg
                 obtain rfl := divs_rank HRK.out HG.out k2 k3
                 exact ⟨ho, hc, he, h1, h2, ⟨hcn⟩, ⟨hb⟩⟩).mono ?_; rintro e w7 ⟨d1, dd, rfl, hqdd, hddm, HD2, B7⟩
             have HB7 : Bx (Below w.heap.size w w7) := ⟨HB6.out.trans (B7.out.mono HB6.out.size)⟩
             have HC7 := Bx.mk (HC6.out.keep B7.out)
             have HD7 := Bx.mk (HD.out.keep B7.out))
          | (clear M4; go_at_call 23; refine ((kernel_pub ao n c1 M _ hc1 hc2 (HR.out.keep HB7.out)).mono (R' := fun e w' => ∃ (ho : Option Addr) (hc u : Nat) (O : Nat → Nat → Int) (p : Nat → Nat), e = .returned (.tuple #[.slice ho u hc, .int .i64 0]) ∧ u ≤ hc ∧ hc ≤ maxLen ∧ Bx (CV w' ho u O) ∧ Bx (Hf O u 6 p) ∧ Bx ((∀ i k, i < u → k < n → dot 6 (M k) (O i) = 0) ∧ ∀ y, (∀ k, k < n → dot 6 (M k) y = 0) → Sp O u 6 y) ∧ Bx (Below w7.heap.size w7 w')) fun e w' ⟨h, hb⟩ => by
               rcases h with ⟨h, _⟩ | ⟨_, ho, hc, u, O, p, he, hcv, h1, h2, h6, hO, k1, k2⟩
               · exact absurd HV.out h
               · exact ⟨ho, hc, u, O, p, he, h1, h2, ⟨hcv⟩, ⟨hO⟩, ⟨k1, k2⟩, ⟨hb⟩⟩).mono ?_; rintro e w8 ⟨k0, kc, u, K, pk, rfl, hukc, hkcm, HK, HKO, HKS, B8⟩
             have HB8 : Bx (Below w.heap.size w w8) := ⟨HB7.out.trans (B8.out.mono HB7.out.size)⟩
             have HC8 := Bx.mk (HC7.out.keep B8.out))
          | (clear M5; go_at_call 23; refine ((kernel_pub (some ⟨g, 0, none⟩) n cap C _ hncap hcap HC8.out).mono (R' := fun e w' => ∃ (ho : Option Addr) (hc : Nat) (K2 : Nat → Nat → Int), e = .returned (.tuple #[.slice ho u hc, .int .i64 0]) ∧ u ≤ hc ∧ hc ≤ maxLen ∧ Bx (CV w' ho u K2) ∧ Bx (∀ i j, i < u → j < 6 → K i j = K2 i j) ∧ Bx (Below w8.heap.size w8 w')) fun e w' ⟨h, hb⟩ => by
               rcases h with ⟨h, _⟩ | ⟨_, ho, hc, u', O', p', he, hcv, h1, h2, h6, hO, k1, k2⟩
               · exact absurd HVC.out h
               · obtain ⟨rfl, _, heq⟩ := HKO.out.one hO (fun i hi => HKS.out.2 _ fun k hk => dot_sp (HCF.out k hk) fun t ht => k1 i t hi ht) (fun i hi => k2 _ fun k hk => dot_sp (HCT.out k hk) fun t ht => HKS.out.1 i t hi ht)
                 exact ⟨ho, hc, O', he, h1, h2, ⟨hcv⟩, ⟨heq⟩, ⟨hb⟩⟩).mono ?_; rintro e w9 ⟨k1, kd, K2, rfl, hukd, hkdm, HK2, HKE, B9⟩
             have HB9 : Bx (Below w.heap.size w w9) := ⟨HB8.out.trans (B9.out.mono HB8.out.size)⟩
             have HHb := Bx.mk ((((HHa.out.keep B6.out).keep B7.out).keep B8.out).keep B9.out)
             have HHc := Bx.mk ((((HH2.out.keep B6.out).keep B7.out).keep B8.out).keep B9.out)
             have HDb := Bx.mk ((HD7.out.keep B8.out).keep B9.out)
             have HDc := Bx.mk ((HD2.out.keep B8.out).keep B9.out)
             have HKb := Bx.mk (HK.out.keep B9.out))
          | (clear M6; go_at_call 22; refine (same_any h0 h1 hc hd q q O O2 _ hqc hcm hqd hcm2 HHb.out HHc.out true (by simp; exact HEQ.out)).mono ?_; rintro e w10 ⟨rfl, B10⟩)
          | (go_at_call 27; refine (ints_any d0 d1 dc dd q q _ _ _ (by simp) (by simp) hqdc hdcm hqdd hddm (ci_cn (HDb.out.keep B10)) (ci_cn (HDc.out.keep B10)) true (by simp)).mono ?_; rintro e w11 ⟨rfl, B11⟩)
          | (clear M7; go_at_call 22; refine (same_any k0 k1 kc kd u u K K2 _ hukc hkcm hukd hkdm ((HKb.out.keep B10).keep B11) ((HK2.out.keep B10).keep B11) true (by simp; exact HKE.out)).mono ?_; rintro e w12 ⟨rfl, B12⟩))
        go_ret
        have J10 := HB9.out.trans (B10.mono HB9.out.size)
        have J11 := J10.trans (B11.mono J10.size)
        exact ⟨rfl, J11.trans (B12.mono J11.size)⟩
      · have HVC := Bx.mk hvc
        clear hvc
        have hx0 : x ≠ 0 := fun e => HVC.out (HCZ.out e)
        have hx1 : (x == 0) = false := by simpa using hx0
        have hx2 : (x != 0) = true := by simpa using hx0
        refine ((hermite_pub (some ⟨g, 0, none⟩) n cap C _ hncap hcap HC4.out).mono (R' := fun e w' => e = .returned (.tuple #[.slice none 0 0, .int .i64 1]) ∧ Below w4.heap.size w4 w') fun e w' ⟨h, hb⟩ => by
          rcases h with ⟨_, h⟩ | ⟨h, _⟩
          · exact ⟨h, hb⟩
          · exact absurd h HVC.out).mono ?_
        rintro e w5 ⟨rfl, B5⟩
        go_wp2_with (go_at_call 18; refine (pvalid_any (some ⟨g, 0, none⟩) n cap C _ hncap hcap (HC4.out.keep B5) false (by simp [HVC.out])).mono ?_; rintro e w6 ⟨rfl, B6⟩)
        go_ret
        have J5 := HB4.out.trans (B5.mono HB4.out.size)
        exact ⟨rfl, J5.trans (B6.mono J5.size)⟩
    · have HV := Bx.mk hv
      clear hv
      go_enter Try.func5, Try.ntmps5
      go_wp2_with (first
        | (go_at_call 17; refine (head_any _).mono ?_; rintro e w1 ⟨rfl, B1⟩)
        | (go_at_call 18; refine (pvalid_any ao n c1 M _ hc1 hc2 (HR.out.keep B1) false (by simp [HV.out])).mono ?_; rintro e w2 ⟨rfl, B2⟩))
      go_ret
      exact ⟨rfl, B1.trans (B2.mono B1.size)⟩
end Go.Proofs.Ytjnnalfocffggaa
