/- The Hermite form from the triangular form of the leading columns. -/
import Derived.Test.YtnbamjoadankmaaKR
import Derived.Test.YtnbamjoadankmaaKL
import Derived.Test.YtnbamjoadankmaaKH
namespace Go.Proofs.Ytnbamjoadankmaa
open Go.RowKit D
theorem Frm.hf {m : Nat} {D : Int} {H : Nat → Nat → Int} (h : Frm m m D H) : Hf H m m id :=
  ⟨fun k hk => hk, fun i k hik _ => hik, fun k hk => (h.piv k hk).1, fun k j hk hj => h.left k j hk hj, fun i k hik hk => h.red i k hik hk⟩
/-- What the triangular form holds. -/
theorem Ge.fin {m n : Nat} {A R H : Nat → Nat → Int} {D : Int} (h : Ge m n A D m n R H m) (hz : Zer n m R) : (∀ t, t < n → Sp H m m (A t)) ∧ (∀ k, k < m → Sp H m m (unitV D k)) ∧ ∀ L, Sub m L → (∀ t, t < n → L (A t)) → (∀ k, k < m → L (unitV D k)) → ∀ i, i < m → L (H i) := by
  have h1 := (h (Sp H m m) (Sub.sp H m m)).2 ⟨fun t ht => (Sub.sp H m m).congr' (Sub.sp H m m).zero fun j hj => hz t ht j hj, fun k hk => Sp.unit hk, fun k hk hkm => by omega⟩
  exact ⟨h1.1, h1.2, fun L hL ha hu i hi => ((h L hL).1 ⟨ha, hu⟩).2.1 i hi⟩
/-- The leading columns of a matrix. -/
def short (M : Nat → Nat → Int) (cs : List Nat) : Nat → Nat → Int := fun r s => if s < cs.length then M r (cs.getD s 0) else 0
theorem triangle_any (ao : Option Addr) (n c1 m : Nat) (d D : Int) (A : Nat → Nat → Int) (w : World) (hn : n ≤ 8) (hc1 : n ≤ c1) (hm : m ≤ 6) (hd : d ≠ 0) (hdD : D = d.natAbs) (hD1 : d.natAbs ≤ 1000000000) (hR : CV w ao n A) (hA : ∀ i j, i < n → j < 6 → -9000000000000000000 ≤ A i j ∧ A i j ≤ 9000000000000000000) :
    Calls Try.prog 114 #[.slice ao n c1, .int .i64 m, .int .i64 d] w fun e w' => ∃ (v : Value) (H : Nat → Nat → Int), e = .returned v ∧ w'.ownsRow w.heap.size 36 6 v m (rowsL H m) ∧ Frm m m D H ∧ (∃ R, Zer n m R ∧ Ge m n A D m n R H m) ∧ Below w.heap.size w w' := by
  rcases Int.lt_or_gt_of_ne hd with h | h
  · exact triangle_neg ao n c1 m d D A w hn hc1 hm (by omega) (by omega) (by omega) hR hA
  · exact triangle_pos ao n c1 m d D A w hn hc1 hm (by omega) (by omega) (by omega) hR hA
/-- The rows of the Hermite form. -/
def outR (M H : Nat → Nat → Int) (is cs : List Nat) : Nat → Nat → Int := fun i c => (cmb (H i) (fun t c => mn (is.map M) (cs.set t c)) cs.length c).tdiv (mn (is.map M) cs)
theorem unit_mul {om D : Int} (hD : D = om.natAbs) (k : Nat) : ∃ v : Nat → Int, ∀ j, unitV D k j = om * v j := by
  by_cases h : 0 ≤ om
  · exact ⟨fun j => if j = k then 1 else 0, fun j => by unfold unitV; by_cases e : j = k <;> simp [e] <;> omega⟩
  · exact ⟨fun j => if j = k then -1 else 0, fun j => by unfold unitV; by_cases e : j = k <;> simp [e] <;> omega⟩
theorem hermite_math {M H R : Nat → Nat → Int} {n : Nat} {is cs : List Nat} {D : Int} (hG : Gr M n 6 (· ≤ ·) is cs) (hs : cs.Pairwise (· < ·)) (hD : D = (mn (is.map M) cs).natAbs) (hF : Frm cs.length cs.length D H) (hge : Ge cs.length n (short M cs) D cs.length n R H cs.length) (hz : Zer n cs.length R) :
    Hf (outR M H is cs) cs.length 6 (fun k => cs.getD k 0) ∧ (∀ t, t < n → Sp (outR M H is cs) cs.length 6 (M t)) ∧ (∀ i, i < cs.length → Sp M n 6 (outR M H is cs i)) := by
  obtain ⟨f1, f2, f3⟩ := hge.fin hz
  have h1 : ∀ t, t < n → Sp H cs.length cs.length (at' M cs t) := fun t ht => (Sub.sp H _ _).congr' (f1 t ht) fun j hj => by unfold short at'; rw [if_pos hj]
  have h2 : ∀ i, i < cs.length → Sp (at' M cs) n cs.length (H i) := f3 _ (Sub.sp _ _ _) (fun t ht => (Sub.sp (at' M cs) n _).congr' (Sp.unit ht) fun j hj => by unfold short at'; rw [if_pos hj]) (fun k hk => by
    obtain ⟨v, hv⟩ := unit_mul hD k
    exact (Sub.sp (at' M cs) n _).congr' (hG.multiples v) fun j _ => hv j)
  refine hG.hermite (fun i k hik hk => ?_) hF.hf h1 h2 (O := outR M H is cs) fun i j hi hj => ?_
  · have := List.pairwise_iff_getElem.1 hs i k (by omega) hk hik
    simpa [List.getElem?_eq_getElem (show i < cs.length by omega), List.getElem?_eq_getElem hk] using this
  · obtain ⟨v, hv, hx⟩ := lift (m := 6) (h2 i hi)
    have e := hG.value hv hx hj
    unfold outR cmb
    rw [e, Int.mul_tdiv_cancel _ hG.ne]
theorem rowsL_congr {A B : Nat → Nat → Int} {q : Nat} (h : ∀ r, r < q → A r = B r) : rowsL A q = rowsL B q := by
  unfold rowsL
  refine List.map_congr_left fun t ht => ?_
  rw [h (t / 6) (by have := List.mem_range.1 ht; omega)]
/-- The first rows are written. -/
def mixR (O H : Nat → Nat → Int) (t : Nat) : Nat → Nat → Int := fun r => if r < t then O r else H r
theorem own_cv {w : World} {base q rc : Nat} {ro : Option Addr} {G : Nat → Nat → Int} (h : w.ownsRow base 36 6 (.slice ro q rc) q (rowsL G q)) : CV w ro q G := fun hq => by
  obtain ⟨g, cap, e, _, _⟩ := own_form h hq
  simp only [Value.slice.injEq] at e
  obtain ⟨rfl, _, rfl⟩ := e
  exact (RB.of_own h fun i j hi hj => rowsL_get hi hj).cv hq
theorem short_bound {M : Nat → Nat → Int} {n : Nat} (hv : VM M n) {cs : List Nat} (hc : ∀ j ∈ cs, j < 6) : ∀ i j, i < n → j < 6 → -9000000000000000000 ≤ short M cs i j ∧ short M cs i j ≤ 9000000000000000000 := fun i j hi hj => by
  unfold short
  split
  · rename_i h
    have := hv.2.1 i (cs.getD j 0) hi (hc _ (getD_mem h)); omega
  · omega
theorem first2_any (ao : Option Addr) (n c1 : Nat) (M : Nat → Nat → Int) (w : World) (hv : VM M n) (hc1 : n ≤ c1) (hR : CV w ao n M) :
    Calls Try.prog 81 #[.slice ao n c1] w fun e w' => ∃ (is cs : List Nat) (fo ro : Option Addr) (fc rc q : Nat) (om : Int), e = .returned (.agg #[.slice fo q fc, .int .i64 om, .slice ro q rc]) ∧ Bx (cs.length = q) ∧ Bx (mn (is.map M) cs = om) ∧ Bx (Gr M n 6 (· ≤ ·) is cs ∧ cs.Pairwise (· < ·)) ∧ q ≤ 6 ∧ om ≠ 0 ∧ om.natAbs ≤ 1000000000 ∧
      Bx (∀ t c, t < q → c < 6 → (mn (is.map M) (cs.set t c)).natAbs ≤ 1000000000) ∧ Bx (w'.ownsRow w.heap.size 3 1 (.slice fo q fc) q (cs.map fun (j : Nat) => Value.int .i64 (j : Int))) ∧ Bx (w'.ownsRow w.heap.size 36 6 (.slice ro q rc) q (rowsL (fun t c => mn (is.map M) (cs.set t c)) q)) ∧ Bx (Below w.heap.size w w') :=
  (first_any ao n c1 M w hv hc1 hR).mono fun e w' ⟨is, cs, fo, ro, fc, rc, he, hgd, hsb, hf, hr, hb⟩ => by
    have hgr : Gr M n 6 (· ≤ ·) is cs := hgd.gr fun j => by simp; omega
    exact ⟨is, cs, fo, ro, fc, rc, cs.length, _, he, ⟨rfl⟩, ⟨rfl⟩, ⟨hgr, List.Pairwise.sublist hsb (by simp)⟩, by have := hsb.length_le; simpa using this, hgr.ne, vm_any hv hgr.len hgr.rows hgr.cols, ⟨fun t c _ hc => Nat.le_trans (mn_set_vol hgr.len hgr.rows hgr.cols hc) hv.2.2⟩, ⟨hf⟩, ⟨hr⟩, ⟨hb⟩⟩
theorem last2_any (ao : Option Addr) (n c1 : Nat) (M : Nat → Nat → Int) (w : World) (hv : VM M n) (hc1 : n ≤ c1) (hR : CV w ao n M) :
    Calls Try.prog 117 #[.slice ao n c1] w fun e w' => ∃ (is cs : List Nat) (fo ro : Option Addr) (fc rc q : Nat) (om : Int), e = .returned (.agg #[.slice fo q fc, .int .i64 om, .slice ro q rc]) ∧ Bx (cs.length = q) ∧ Bx (mn (is.map M) cs = om) ∧ Bx (Gr M n 6 (· ≥ ·) is cs ∧ cs.Pairwise (· > ·)) ∧ q ≤ 6 ∧ om ≠ 0 ∧ om.natAbs ≤ 1000000000 ∧
      Bx (∀ t c, t < q → c < 6 → (mn (is.map M) (cs.set t c)).natAbs ≤ 1000000000) ∧ Bx (w'.ownsRow w.heap.size 3 1 (.slice fo q fc) q (cs.map fun (j : Nat) => Value.int .i64 (j : Int))) ∧ Bx (w'.ownsRow w.heap.size 36 6 (.slice ro q rc) q (rowsL (fun t c => mn (is.map M) (cs.set t c)) q)) ∧ Bx (Below w.heap.size w w') :=
  (last_any ao n c1 M w hv hc1 hR).mono fun e w' ⟨is, cs, fo, ro, fc, rc, he, hgd, hsb, hf, hr, hb⟩ => by
    have hgr : Gr M n 6 (· ≥ ·) is cs := hgd.gr fun j => by simp; omega
    exact ⟨is, cs, fo, ro, fc, rc, cs.length, _, he, ⟨rfl⟩, ⟨rfl⟩, ⟨hgr, List.Pairwise.sublist hsb (by simp)⟩, by have := hsb.length_le; simpa using this, hgr.ne, vm_any hv hgr.len hgr.rows hgr.cols, ⟨fun t c _ hc => Nat.le_trans (mn_set_vol hgr.len hgr.rows hgr.cols hc) hv.2.2⟩, ⟨hf⟩, ⟨hr⟩, ⟨hb⟩⟩
end Go.Proofs.Ytnbamjoadankmaa
