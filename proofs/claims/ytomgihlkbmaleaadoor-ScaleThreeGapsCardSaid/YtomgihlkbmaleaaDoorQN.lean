/- slices.SortFunc over valid pitches. -/
import Derived.Test.YtomgihlkbmaleaaDoorQM
namespace Go.Proofs.YtomgihlkbmaleaaDoor
open Go.RowKit M
open Go.Sort hiding Below
/-- A valid pitch. -/
structure VP where
  v : Nat → Int
  p : bdB v 576 = true
instance : Inhabited VP := ⟨⟨fun _ => 0, u_val⟩⟩
def encV (x : VP) : List Value := encQ x.v
def cfV (x y : VP) : Int := sg (subV x.v y.v)
theorem ltV {x y : VP} : ltOf cfV x y = true ↔ sg (subV x.v y.v) < 0 := by unfold ltOf cfV; rw [decide_eq_true_eq]
theorem ltV' {x y : VP} : ltOf cfV x y = false ↔ 0 ≤ sg (subV x.v y.v) := by unfold ltOf cfV; rw [decide_eq_false_iff_not]; omega
theorem swoV : Sort.SWO (ltOf cfV) where
  irrefl x := ltV'.2 (by rw [sub_self]; exact Int.le_refl _)
  trans x y z h1 h2 := ltV.2 (sub_lt_trans (ltV.1 h1) (ltV.1 h2))
  ntrans x y z h1 h2 := ltV'.2 (sg_ge_sum (ltV'.1 h1) (ltV'.1 h2) fun i _ => by unfold subV; omega)
def mkV (v : Nat → Int) : VP := if h : bdB v 576 = true then ⟨v, h⟩ else default
theorem mkV_eq {v : Nat → Int} (h : bdB v 576 = true) : (mkV v).v = v := by unfold mkV; rw [dif_pos h]
def arrV (M : Nat → Nat → Int) (n : Nat) : Array VP := ((List.range n).map fun i => mkV (M i)).toArray
theorem arrV_size (M : Nat → Nat → Int) (n : Nat) : (arrV M n).size = n := by simp [arrV]
theorem arrV_get {M : Nat → Nat → Int} {n i : Nat} (h : i < n) : (arrV M n)[i]! = mkV (M i) := by
  rw [getElem!_pos _ i (by rw [arrV_size]; exact h)]
  simp [arrV]
theorem encV_get (x : VP) {c : Nat} (hc : c < 6) : (encV x)[c]! = .int .i64 (x.v c) := by
  rcases six_cases' hc with rfl | rfl | rfl | rfl | rfl | rfl <;> rfl
theorem holds_of_rb {w : World} {g n cap : Nat} {M : Nat → Nat → Int} (h : RB w g n cap M) (hv : ∀ i, i < n → bdB (M i) 576 = true) : HoldsK encV 6 w g 0 (arrV M n) := by
  intro j hj
  rw [size_flatK, arrV_size] at hj
  rw [get_flatK _ _ _ _ (by rw [arrV_size]; exact hj)]
  have h1 : j / 6 < n := by omega
  have h2 : j % 6 < 6 := Nat.mod_lt _ (by omega)
  rw [arrV_get h1, encV_get _ h2, mkV_eq (hv _ h1)]
  have c := h.cell h1 h2
  rw [show j / 6 * 6 + j % 6 = j by omega] at c
  rw [show 0 + j = j by omega]
  exact ⟨c, h.frozen j⟩
section
variable {w : World} {g m : Nat} {dk : Array VP} {os : Array Obj}
theorem sw_block {k : Nat} (hk : k < w.heap.size) (hne : k ≠ g) : (sortWorldK encV 6 w g 0 m dk os).heap[k]? = w.heap[k]? := by
  unfold sortWorldK putRowK Sort.putRow Sort.mapBlock Sort.grow Sort.ahead
  simp only
  rw [Array.getElem?_append_left (by simp; exact hk), Array.getElem?_modify, if_neg (by omega)]
theorem sw_below (hg : g < w.heap.size) : Below g w (sortWorldK encV 6 w g 0 m dk os) :=
  ⟨rfl, rfl, rfl, size_sortWorldK_c encV 6 w g 0 m dk os, fun k hk => sw_block (by omega) (by omega)⟩
theorem sw_rb {n cap : Nat} {M : Nat → Nat → Int} (h : RB w g n cap M) (hH : HoldsK encV 6 w g 0 (arrV M n)) (hs : dk.size = n) : RB (sortWorldK encV 6 w g 0 m dk os) g n cap fun i => (dk[i]!).v := by
  have hg := h.lt
  have hK := holdsK_sortWorldK encV 6 w g 0 m (arrV M n) dk os hg hH (by rw [arrV_size]; exact hs)
  obtain ⟨cur, h1, h2, h3, h4⟩ := h
  have hb : (sortWorldK encV 6 w g 0 m dk os).heap[g]? = some (.cells (Sort.putCells id 0 (flatK encV 6 dk) cur) 23 (0, 0)) := by
    unfold sortWorldK putRowK Sort.putRow Sort.mapBlock Sort.grow Sort.ahead
    simp only
    rw [Array.getElem?_append_left (by simp; exact hg), Array.getElem?_modify, if_pos rfl, h1]
    rfl
  refine ⟨_, hb, by simp [Sort.putCells, h2], h3, fun i j hi hj => ?_⟩
  have c := (hK.cell (i := i) (c := j) (by rw [hs]; exact hi) hj).1
  rw [encV_get _ hj, show 0 + i * 6 + j = i * 6 + j by omega] at c
  simpa [World.cell?, hb] using c
end
theorem sm_other {w w' : World} {g : Nat} (h : Sm w) (hb : ∀ k, k < w.heap.size → k ≠ g → w'.heap[k]? = w.heap[k]?) (hz : w.heap.size ≤ w'.heap.size) (h1 : 0 ≠ g) (h2 : 1 ≠ g) (h3 : 2 ≠ g) : Sm w' := by
  have c : ∀ (k o : Nat), k < w.heap.size → k ≠ g → w'.cell? ⟨k, o, none⟩ = w.cell? ⟨k, o, none⟩ := fun k o hk hne => World.cell?_of_block (w := w) (hb k hk hne)
  exact ⟨⟨Nat.lt_of_lt_of_le h.pm.lt hz, (c _ 0 h.pm.lt h3).trans h.pm.c0, (c _ 1 h.pm.lt h3).trans h.pm.c1, (c _ 2 h.pm.lt h3).trans h.pm.c2, (c _ 3 h.pm.lt h3).trans h.pm.c3, (c _ 4 h.pm.lt h3).trans h.pm.c4, (c _ 5 h.pm.lt h3).trans h.pm.c5⟩, Nat.lt_of_lt_of_le h.ult hz, Nat.lt_of_lt_of_le h.olt hz, (c _ 0 h.ult h1).trans h.u0, (c _ 1 h.ult h1).trans h.u1, (c _ 2 h.ult h1).trans h.u2, (c _ 3 h.ult h1).trans h.u3, (c _ 4 h.ult h1).trans h.u4, (c _ 5 h.ult h1).trans h.u5, (c _ 0 h.olt h2).trans h.o0, (c _ 1 h.olt h2).trans h.o1, (c _ 2 h.olt h2).trans h.o2, (c _ 3 h.olt h2).trans h.o3, (c _ 4 h.olt h2).trans h.o4, (c _ 5 h.olt h2).trans h.o5⟩
set_option maxRecDepth 100000 in
theorem sort_any (g n cap : Nat) (M : Nat → Nat → Int) (w : World) (hn : n ≤ 64) (hR : RB w g n cap M) (hv : ∀ i, i < n → bdB (M i) 576 = true) (hs : Sm w) (h1 : 0 ≠ g) (h2 : 1 ≠ g) (h3 : 2 ≠ g) :
    Calls Tryd.prog 29 #[.slice (some ⟨g, 0, none⟩) n cap, .func (.func 30) #[] #[]] w fun e w' => e = .returned (.tuple #[]) ∧ ∃ M', RB w' g n cap M' ∧ (lsM M' n).Perm (lsM M n) ∧ (∀ i j, i < j → j < n → 0 ≤ sg (subV (M' j) (M' i))) ∧ (∀ i, i < n → bdB (M' i) 576 = true) ∧ Sm w' ∧ Below g w w' := by
  have eg : ∀ args w, (callFunc 30 args).run Tryd.prog w = .ok (.enter 30 args) w := enters_of Tryd.func30 (by kernel_rfl) rfl
  have hg := hR.lt
  have hH := holds_of_rb hR hv
  have k := AnyQ.slices_SortFunc Tryd.sortPitch 6 Tryd.isAgg23 Tryd.sizeOf23 encV (fun _ => rfl) (fun x v hv => by
      simp only [encV, encQ, List.mem_cons, List.not_mem_nil, or_false] at hv
      rcases hv with rfl | rfl | rfl | rfl | rfl | rfl <;> rfl) cfV swoV 30 #[] g 0 cap (arrV M n) w eg
    (fun m os dk hdk x y => calls_grown (qcmp_any x.v y.v (cfV x y) (by rw [cm_ok x.p y.p]; rfl) _ (sm_other hs (fun k hk hne => sw_block hk hne) (size_sortWorldK_c encV 6 w g 0 m dk os) h1 h2 h3))) hH hg (by rw [arrV_size]; omega)
  rw [arrV_size] at k
  refine k.mono fun e w' ⟨he, d', m, os, hp, hsd, hw⟩ => ⟨he, fun i => (d'[i]!).v, ?_, ?_, ?_, fun i _ => (d'[i]!).p, ?_, ?_⟩
  · rw [hw]; exact sw_rb hR hH (by rw [hp.1, arrV_size])
  · have hsz : d'.size = n := by rw [hp.1, arrV_size]
    have e1 : d'.extract 0 n = d' := by rw [← hsz]; simp
    have e2 : (arrV M n).extract 0 n = arrV M n := by
      have h : (arrV M n).extract 0 (arrV M n).size = arrV M n := Array.extract_size
      rw [arrV_size] at h; exact h
    have p := hp.2.2
    rw [e1, e2] at p
    have q := p.map (fun x : VP => x.v)
    have e3 : (arrV M n).toList.map (fun x : VP => x.v) = lsM M n := by
      simp only [arrV, List.map_map, lsM]
      exact List.map_congr_left fun i hi => mkV_eq (hv i (List.mem_range.1 hi))
    have e4 : d'.toList.map (fun x : VP => x.v) = lsM (fun i => (d'[i]!).v) n := by
      apply List.ext_getElem
      · simp [lsM, hsz]
      · intro i hi1 hi2
        have hi : i < d'.size := by simpa using hi1
        simp only [List.getElem_map, Array.getElem_toList, lsM, List.getElem_range]
        rw [getElem!_pos d' i hi]
    rw [e3, e4] at q
    exact q
  · intro i j hij hj
    exact ltV'.1 (hsd i j (Nat.zero_le _) hij hj)
  · rw [hw]; exact sm_other hs (fun k hk hne => sw_block hk hne) (size_sortWorldK_c encV 6 w g 0 m d' os) h1 h2 h3
  · rw [hw]; exact sw_below hg
end Go.Proofs.YtomgihlkbmaleaaDoor
