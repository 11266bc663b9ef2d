/- The program's greatest common divisor, and that of all minors of a size. -/
import Derived.Test.YtnbamjoadankmaaCH
import Derived.Test.YtnbamjoadankmaaMN
import Derived.Test.YtnbamjoadankmaaR6
namespace Go.Proofs.Ytnbamjoadankmaa
open Go.RowKit Go.Shelf D
attribute [local go_sem] Oper.semAt_some run_store_fn
set_option maxHeartbeats 1000000 in
theorem pdivisor_any (a b : Int) (w : World) (ha : a.natAbs ≤ 1000000000) (hb : b.natAbs ≤ 1000000000) : Calls Try.prog 120 #[.int .i64 a, .int .i64 b] w fun e w' => e = .returned (.int .i64 (Int.gcd a b : Int)) ∧ Below w.heap.size w w' := by
  obtain ⟨g, hg⟩ : ∃ g, Int.gcd a b = g := ⟨_, rfl⟩
  rw [hg]
  have HG := Bx.mk hg
  clear hg
  go_enter Try.func120, Try.ntmps120
  go_wp2
  go_loopw [0, 1] (fun av bv wr => ∃ x y : Int, av = .int .i64 x ∧ bv = .int .i64 y ∧ x.natAbs ≤ 1000000000 ∧ y.natAbs ≤ 1000000000 ∧ Bx (Int.gcd x y = g) ∧ Below w.heap.size w wr) (fun _ bv _ => (intOf bv).natAbs)
  case atStart => exact ⟨a, b, rfl, rfl, ha, hb, HG, Below.refl _ _⟩
  case round =>
    clear ha hb
    obtain ⟨x, y, rfl, rfl, hx, hy, HXY, hB⟩ := hrel
    by_cases h0 : y = 0
    · subst h0
      have hgx : x.natAbs = g := by have := HXY.out; simpa using this
      have hn : IntKind.i64.wrap (-x) = -x := by rw [IntWalk.i64_in] <;> omega
      have h1 : -9223372036854775808 ≤ -x := by omega
      have h2 : -x ≤ 9223372036854775807 := by omega
      have HGX := Bx.mk hgx
      clear hgx
      rcases Int.le_total 0 x with h3 | h3
      · have e : x = (g : Int) := by have := HGX.out; omega
        have h4 : ¬ x < -x := by omega
        go_wp2
        all_goals go_ret
        all_goals refine ⟨?_, hB⟩
        all_goals first | (simp [e]; done) | (exfalso; omega) | (have h0 : x = 0 := by omega
                                                                 subst h0; simp at e; simp [← e])
      · have e : -x = (g : Int) := by have := HGX.out; omega
        go_wp2
        all_goals go_ret
        all_goals refine ⟨?_, hB⟩
        all_goals first | (simp [e]; done) | (exfalso; omega) | (have h0 : x = 0 := by omega
                                                                 subst h0; simp at e; simp [← e])
    · obtain ⟨s, hs⟩ : ∃ s, x.tmod y = s := ⟨_, rfl⟩
      have hsy : s.natAbs < y.natAbs := by rw [← hs, Int.natAbs_tmod]; exact Nat.mod_lt _ (by omega)
      have HR := Bx.mk (show Int.gcd y s = g from by rw [← HXY.out, ← hs]; show Nat.gcd y.natAbs (x.tmod y).natAbs = Nat.gcd x.natAbs y.natAbs; rw [Int.natAbs_tmod, Nat.gcd_comm, ← Nat.gcd_rec, Nat.gcd_comm])
      have hz : (y == 0) = false := beq_eq_false_iff_ne.2 (by omega)
      have hz' : (y != 0) = true := by simp [bne, hz]
      go_wp2_with fail
      go_region
      all_goals go_wp2_with fail
      all_goals (refine ⟨⟨y, s, rfl, rfl, hy, by omega, HR, (by repeat (first | with_reducible exact Below.refl _ _ | with_reducible exact hB | with_reducible apply below_drewN | with_reducible apply below_drew))⟩, ?_⟩)
      all_goals (simp [intOf]; omega)
/-- The bound of the minors of a valid matrix. -/
theorem vm_minor {M : Nat → Nat → Int} {n : Nat} (hv : VM M n) {is js : List Nat} (hi : is.Pairwise (· < ·)) (hn : ∀ i ∈ is, i < n) (hj : js.Pairwise (· < ·)) (hm : ∀ j ∈ js, j < 6) : (mn (is.map M) js).natAbs ≤ 1000000000 ∧ wrap64 (mn (is.map M) js) = mn (is.map M) js := by
  have h := mn_vol (M := M) (m := 6) (n := n) (hi.imp fun h => Nat.ne_of_lt h) hn (hj.imp fun h => Nat.ne_of_lt h) hm
  have h2 := hv.2.2
  have h3 : (mn (is.map M) js).natAbs ≤ 1000000000 := Nat.le_trans h h2
  refine ⟨h3, ?_⟩
  generalize mn (is.map M) js = z at *
  unfold wrap64; omega
def Gc (M : Nat → Nat → Int) (n k : Nat) (pre : List (List Nat)) (g : Nat) : Prop := g ≤ 1000000000 ∧ (∀ s ∈ pre, s ∈ chs n k 0) ∧ ∀ d : Int, d ∣ (g : Int) ↔ ∀ s ∈ pre, ∀ t ∈ chs 6 k 0, d ∣ mn (s.map M) t
def Gi (M : Nat → Nat → Int) (n k : Nat) (pre : List (List Nat)) (s : List Nat) (ts : List (List Nat)) (g : Nat) : Prop := g ≤ 1000000000 ∧ ((∀ s ∈ pre, s ∈ chs n k 0) ∧ ∀ t ∈ ts, t ∈ chs 6 k 0) ∧ ∀ d : Int, d ∣ (g : Int) ↔ (∀ s ∈ pre, ∀ t ∈ chs 6 k 0, d ∣ mn (s.map M) t) ∧ ∀ t ∈ ts, d ∣ mn (s.map M) t
theorem Gc.start (M : Nat → Nat → Int) (n k : Nat) : Gc M n k [] 0 := ⟨by omega, by simp, fun d => by simp⟩
theorem Gi.start {M : Nat → Nat → Int} {n k : Nat} {pre : List (List Nat)} {g : Nat} (h : Gc M n k pre g) (s : List Nat) : Gi M n k pre s [] g := ⟨h.1, ⟨h.2.1, by simp⟩, fun d => by rw [h.2.2 d]; simp⟩
theorem Gi.step {M : Nat → Nat → Int} {n k : Nat} {pre ts : List (List Nat)} {s t : List Nat} {g : Nat} (h : Gi M n k pre s ts g) (ht : t ∈ chs 6 k 0) (hb : (mn (s.map M) t).natAbs ≤ 1000000000) : Gi M n k pre s (ts ++ [t]) (Int.gcd g (mn (s.map M) t)) := by
  refine ⟨?_, ⟨h.2.1.1, fun x hx => (List.mem_append.1 hx).elim (h.2.1.2 x) (fun e => by rw [List.mem_singleton.1 e]; exact ht)⟩, fun d => ?_⟩
  · by_cases h0 : g = 0
    · subst h0; simpa using hb
    · have : Int.gcd g (mn (s.map M) t) ∣ g := by have := Int.gcd_dvd_left (a := (g : Int)) (b := mn (s.map M) t); exact_mod_cast this
      exact Nat.le_trans (Nat.le_of_dvd (by omega) this) h.1
  · rw [Int.dvd_coe_gcd_iff, h.2.2 d]
    constructor
    · rintro ⟨⟨h1, h2⟩, h3⟩
      exact ⟨h1, fun x hx => (List.mem_append.1 hx).elim (h2 x) (fun e => by rw [List.mem_singleton.1 e]; exact h3)⟩
    · rintro ⟨h1, h2⟩
      exact ⟨⟨h1, fun x hx => h2 x (List.mem_append.2 (.inl hx))⟩, h2 t (by simp)⟩
theorem Gi.finish {M : Nat → Nat → Int} {n k : Nat} {pre : List (List Nat)} {s : List Nat} {g : Nat} (h : Gi M n k pre s (chs 6 k 0) g) (hs : s ∈ chs n k 0) : Gc M n k (pre ++ [s]) g := ⟨h.1, fun x hx => (List.mem_append.1 hx).elim (h.2.1.1 x) (fun e => by rw [List.mem_singleton.1 e]; exact hs), fun d => by
  rw [h.2.2 d]
  constructor
  · rintro ⟨h1, h2⟩ x hx t ht
    rcases List.mem_append.1 hx with hx | hx
    · exact h1 x hx t ht
    · rw [List.mem_singleton.1 hx]; exact h2 t ht
  · intro h
    exact ⟨fun x hx => h x (List.mem_append.2 (.inl hx)), h s (by simp)⟩⟩
theorem dv_chs {M : Nat → Nat → Int} {n k : Nat} {d : Int} : Dv M n 6 k d ↔ ∀ s ∈ chs n k 0, ∀ t ∈ chs 6 k 0, d ∣ mn (s.map M) t := by
  constructor
  · intro h s hs t ht
    have hs := mem_chs.1 hs
    have ht := mem_chs.1 ht
    exact h s t hs.1 ht.1 (fun i hi => (hs.2.2 i hi).2) (fun i hi => (ht.2.2 i hi).2)
  · intro h
    exact Dv.rising fun is js h1 h2 h3 h4 h5 h6 => h is (mem_chs.2 ⟨h1, h3, fun i hi => ⟨by omega, h5 i hi⟩⟩) js (mem_chs.2 ⟨h2, h4, fun i hi => ⟨by omega, h6 i hi⟩⟩)
theorem Gi.one {M : Nat → Nat → Int} {n k : Nat} {pre ts : List (List Nat)} {s : List Nat} (h : Gi M n k pre s ts 1) (hs : s ∈ chs n k 0) (d : Int) : Dv M n 6 k d ↔ d ∣ ((1 : Nat) : Int) := by
  rw [dv_chs]
  constructor
  · intro hd
    exact (h.2.2 d).2 ⟨fun x hx => hd x (h.2.1.1 x hx), fun x hx => hd s hs x (h.2.1.2 x hx)⟩
  · intro hd x _ y _
    exact Int.dvd_trans hd (Int.one_dvd _)
theorem bx_below {A B : World} {b n : Nat} {t : TypeId} {v : Value} (h : Boxed A b t v) (hB : Below n A B) (hn : b < n) : Boxed B b t v := (hB.block b hn).trans h
theorem put_boxed {A : World} {b l : Nat} {t : TypeId} {v : Value} {r : Loop} (h : Boxed A b t v) (hl : ∃ r0, A.heap[l]? = some (.loop r0)) : Boxed (A.putObj l (.loop r)) b t v := by
  have hne : b ≠ l := fun e => by
    subst e; obtain ⟨r0, hr⟩ := hl; have h1 : A.heap[b]? = _ := h; rw [h1] at hr; cases hr
  exact (World.putObj_heap_other hne).trans h
def sixw (w : World) (a b c d e f : Value) : World := (((((w.alloc (.cells #[a] 22)).alloc (.cells #[b] 3)).alloc (.cells #[c] 3)).alloc (.cells #[d] 3)).alloc (.cells #[e] 3)).alloc (.cells #[f] 3)
theorem sixw_boxes (w : World) (a b c d e f : Value) : Boxed (sixw w a b c d e f) w.heap.size 22 a ∧ Boxed (sixw w a b c d e f) (w.heap.size + 1) 3 b ∧ Boxed (sixw w a b c d e f) (w.heap.size + 1 + 1) 3 c ∧ Boxed (sixw w a b c d e f) (w.heap.size + 1 + 1 + 1) 3 d ∧
    Boxed (sixw w a b c d e f) (w.heap.size + 1 + 1 + 1 + 1) 3 e ∧ Boxed (sixw w a b c d e f) (w.heap.size + 1 + 1 + 1 + 1 + 1) 3 f ∧ Below w.heap.size w (sixw w a b c d e f) ∧ (sixw w a b c d e f).heap.size = w.heap.size + 6 := by
  unfold sixw
  refine ⟨?_, ?_, ?_, ?_, ?_, ?_, ?_, by simp⟩
  · exact (((((Boxed.new w _ _).alloc _).alloc _).alloc _).alloc _).alloc _
  · have h := ((((Boxed.new (w.alloc (.cells #[a] 22)) 3 b).alloc (.cells #[c] 3)).alloc (.cells #[d] 3)).alloc (.cells #[e] 3)).alloc (.cells #[f] 3)
    rw [World.size_alloc] at h; exact h
  · have h := (((Boxed.new ((w.alloc (.cells #[a] 22)).alloc (.cells #[b] 3)) 3 c).alloc (.cells #[d] 3)).alloc (.cells #[e] 3)).alloc (.cells #[f] 3)
    simp only [World.size_alloc] at h; exact h
  · have h := ((Boxed.new (((w.alloc (.cells #[a] 22)).alloc (.cells #[b] 3)).alloc (.cells #[c] 3)) 3 d).alloc (.cells #[e] 3)).alloc (.cells #[f] 3)
    simp only [World.size_alloc] at h; exact h
  · have h := (Boxed.new ((((w.alloc (.cells #[a] 22)).alloc (.cells #[b] 3)).alloc (.cells #[c] 3)).alloc (.cells #[d] 3)) 3 e).alloc (.cells #[f] 3)
    simp only [World.size_alloc] at h; exact h
  · have h := Boxed.new (((((w.alloc (.cells #[a] 22)).alloc (.cells #[b] 3)).alloc (.cells #[c] 3)).alloc (.cells #[d] 3)).alloc (.cells #[e] 3)) 3 f
    simp only [World.size_alloc] at h; exact h
  · exact ((((((Below.refl _ w).alloc (Nat.le_refl _) _).alloc (by simp) _).alloc (by simp; omega) _).alloc (by simp; omega) _).alloc (by simp; omega) _).alloc (by simp; omega) _
set_option maxRecDepth 100000 in
set_option maxHeartbeats 4000000 in
/-- The greatest common divisor of all minors of a size. -/
theorem common_any (ao : Option Addr) (n c1 : Nat) (M : Nat → Nat → Int) (k : Nat) (w : World) (hc1 : n ≤ c1) (hc2 : c1 ≤ maxLen) (hR : CV w ao n M) (hv : VM M n) (hs1 : 1 ≤ k) (hs : k ≤ 6) :
    Calls Try.prog 79 #[.slice ao n c1, .int .i64 k] w fun e w' => ∃ g : Nat, e = .returned (.int .i64 g) ∧ g ≤ 1000000000 ∧ (∀ d, Dv M n 6 k d ↔ d ∣ (g : Int)) ∧ Below w.heap.size w w' := by
  refine (callsIn_wide (n := 9)).1 ?_
  have hn8 := hv.1
  refine callsIn_of_wp_marks Try.func79 rfl trivial ?_ rfl
  simp only [Try.ntmps79, List.size_toArray, List.length_cons, List.length_nil, Nat.reduceAdd, Nat.reduceSub, Array.replicate_succ, Array.replicate_zero, List.push_toArray, List.append_toArray, List.nil_append, List.cons_append]
  gi_wp2_with (refine ⟨trivial, ?_⟩; gi_at_call 119; refine (callsIn_wide.2 (choices_any _ _ _)).mono ?_; rintro e w' ⟨rfl, rfl⟩)
  obtain ⟨W0, hW0⟩ : ∃ W0, sixw w (.slice ao n c1) (.int .i64 k) (.int .i64 0) (.int .i64 0) (.int .i64 n) (.int .i64 k) = W0 := ⟨_, rfl⟩
  obtain ⟨bR, bS, bO, bD, bN, bK, hB0, hsz⟩ := sixw_boxes w (.slice ao n c1) (.int .i64 k) (.int .i64 0) (.int .i64 0) (.int .i64 n) (.int .i64 k)
  rw [hW0] at bR bS bO bD bN bK hB0 hsz
  unfold sixw at hW0
  rw [hW0]
  clear hW0
  refine seqs_loop rfl (by omega) (gf := 150) (lb := #[.pointer (some ⟨w.heap.size + 1 + 1 + 1 + 1 + 1, 0, none⟩), .pointer (some ⟨w.heap.size + 1 + 1 + 1 + 1, 0, none⟩)]) rfl trivial (enters_of Try.func150 (by kernel_rfl) rfl)
    (m := w.heap.size + 4) (by omega) (choices_seqs Fence.wide rfl trivial trivial rfl (9 - 1) (w.heap.size + 4) k n _ _ W0 hs hs1 (by omega) bK bN (by omega) (by omega) (by omega)) (Below.refl _ _) rfl
    (fun pre W => ((((∃ g, Gc M n k pre g ∧ Boxed W (w.heap.size + 1 + 1 + 1) 3 (.int .i64 (g : Int))) ∧ Boxed W (w.heap.size + 1 + 1) 3 (.int .i64 0)) ∧ Boxed W (w.heap.size + 1) 3 (.int .i64 k)) ∧ Boxed W w.heap.size 22 (.slice ao n c1)) ∧ Below w.heap.size w W)
    (fun c pre W => ((c = .ret ∧ ∀ d, Dv M n 6 k d ↔ d ∣ ((1 : Nat) : Int)) ∧ Boxed W (w.heap.size + 1 + 1) 3 (.int .i64 1)) ∧ Below w.heap.size w W)
    (fun s A B hb h => ⟨⟨⟨⟨h.1.1.1.1.imp fun g h => ⟨h.1, (hb.block _ (by omega)).trans h.2⟩, (hb.block _ (by omega)).trans h.1.1.1.2⟩, (hb.block _ (by omega)).trans h.1.1.2⟩, (hb.block _ (by omega)).trans h.1.2⟩, h.2.trans (hb.mono (by omega))⟩)
    (fun c s A B hb h => ⟨⟨h.1.1, (hb.block _ (by omega)).trans h.1.2⟩, h.2.trans (hb.mono (by omega))⟩)
    ⟨⟨⟨⟨⟨0, Gc.start M n k, bD⟩, bO⟩, bS⟩, bR⟩, hB0⟩
    (fun v s a' W => ∃ bx, w.heap.size + 4 ≤ bx ∧ Boxed W bx 29 v ∧ a' = { tmps := #[.slice ao n c1, .int .i64 k, .pointer (some ⟨w.heap.size, 0, none⟩), .pointer (some ⟨w.heap.size + 1, 0, none⟩), .pointer (some ⟨w.heap.size + 1 + 1, 0, none⟩), .pointer (some ⟨w.heap.size + 1 + 1 + 1, 0, none⟩), .pointer (some ⟨bx, 0, none⟩), undef, .slice ao n c1, .int .i64 n, .int .i64 k, .func (.func 150) #[] #[.pointer (some ⟨w.heap.size + 1 + 1 + 1 + 1 + 1, 0, none⟩), .pointer (some ⟨w.heap.size + 1 + 1 + 1 + 1, 0, none⟩)], v, undef, undef, undef, undef, undef, undef, undef, undef, undef, undef, undef, undef, undef], defers := [] })
    (fun v s a A r' l hl h hr => h.imp fun bx h => ⟨h.1, put_boxed h.2.1 hr, h.2.2⟩)
    ?assign ?body ?done ?stop
  case assign =>
    rintro l pre s v W hl ⟨⟨⟨⟨⟨g, hg, b3⟩, b2⟩, b1⟩, b0⟩, hB1⟩ ⟨gb, gc, rfl, _⟩
    gi_wp2
    exact ⟨Up.alloc _ _ _, ⟨⟨⟨⟨⟨g, hg, b3.alloc _⟩, b2.alloc _⟩, b1.alloc _⟩, b0.alloc _⟩, hB1.alloc hB1.size _⟩, W.heap.size, by have := b3.lt; omega, Boxed.new W _ _, rfl⟩
  case body =>
    rintro l pre s v a' W hl ⟨r, hr⟩ ⟨⟨⟨⟨⟨g, hg, b3⟩, b2⟩, b1⟩, b0⟩, hB1⟩ ⟨bx, hbx, bX, rfl⟩ hK hc
    have hC := hc
    obtain ⟨gb, gc, rfl, hc1', hc2', hc3', hc4', hcN⟩ := hc
    have q1 := b1.cell
    gi_wp2_with (refine ⟨trivial, ?_⟩; gi_at_call 119; refine (CallsIn.inRound l (callsIn_wide.2 (choices_any _ _ _))).mono ?_; rintro e w' ⟨rfl, rfl⟩)
    obtain ⟨V0, hV0⟩ : ∃ V0, (W.alloc (.cells #[.int .i64 6] 3)).alloc (.cells #[.int .i64 k] 3) = V0 := ⟨_, rfl⟩
    have c6 : Boxed V0 W.heap.size 3 (.int .i64 (6 : Nat)) := by rw [← hV0]; exact (Boxed.new W _ _).alloc _
    have ck : Boxed V0 (W.heap.size + 1) 3 (.int .i64 k) := by have := Boxed.new (W.alloc (.cells #[.int .i64 6] 3)) 3 (.int .i64 k); rw [World.size_alloc] at this; rw [← hV0]; exact this
    have hVW : Below W.heap.size W V0 := by rw [← hV0]; exact ((Below.refl _ W).alloc (Nat.le_refl _) _).alloc (by simp) _
    have hVs : V0.heap.size = W.heap.size + 2 := by rw [← hV0]; simp
    rw [hV0]
    clear hV0
    have hlW : l < W.heap.size := (Array.getElem?_eq_some_iff.1 hr).1
    have hr' : V0.heap[l]? = some (.loop r) := (hVW.block l hlW).trans hr
    have hsW := hB1.size
    have hbX := bX.lt
    have h3W := b3.lt
    refine seqs_loop_in (l₀ := l) (r₀ := r) rfl hr' (by omega) (gf := 150) (lb := #[.pointer (some ⟨W.heap.size + 1, 0, none⟩), .pointer (some ⟨W.heap.size, 0, none⟩)]) rfl trivial (enters_of Try.func150 (by kernel_rfl) rfl)
      (m := W.heap.size) (by omega) (choices_seqs Fence.wide rfl trivial trivial rfl (9 - 1 - 1 - 1) W.heap.size k 6 _ _ V0 hs hs1 (by omega) ck c6 (by omega) (by omega) (by omega)) (Below.refl _ _) rfl
      (fun pre' W' => ((((((∃ g, Gi M n k pre s pre' g ∧ Boxed W' (w.heap.size + 1 + 1 + 1) 3 (.int .i64 (g : Int))) ∧ Boxed W' bx 29 (.slice (some ⟨gb, 0, none⟩) s.length gc)) ∧ Boxed W' (w.heap.size + 1 + 1) 3 (.int .i64 0)) ∧ Boxed W' (w.heap.size + 1) 3 (.int .i64 k)) ∧ Boxed W' w.heap.size 22 (.slice ao n c1)) ∧ Below w.heap.size w W') ∧ Up (w.heap.size + 4) W W')
      (fun c pre' W' => (((c = .ret ∧ ∀ d, Dv M n 6 k d ↔ d ∣ ((1 : Nat) : Int)) ∧ Boxed W' (w.heap.size + 1 + 1) 3 (.int .i64 1)) ∧ Below w.heap.size w W') ∧ Up (w.heap.size + 4) W W')
      (fun s A B hb h => ⟨⟨⟨⟨⟨⟨h.1.1.1.1.1.1.imp fun g h => ⟨h.1, bx_below h.2 hb (by omega)⟩, bx_below h.1.1.1.1.1.2 hb (by omega)⟩, bx_below h.1.1.1.1.2 hb (by omega)⟩, bx_below h.1.1.1.2 hb (by omega)⟩, bx_below h.1.1.2 hb (by omega)⟩, h.1.2.trans (hb.mono (by omega))⟩, up_below h.2 hb (by omega)⟩)
      (fun c s A B hb h => ⟨⟨⟨h.1.1.1, bx_below h.1.1.2 hb (by omega)⟩, h.1.2.trans (hb.mono (by omega))⟩, up_below h.2 hb (by omega)⟩)
      ⟨⟨⟨⟨⟨⟨⟨g, Gi.start hg s, bx_below b3 hVW h3W⟩, bx_below bX hVW hbX⟩, bx_below b2 hVW (by omega)⟩, bx_below b1 hVW (by omega)⟩, bx_below b0 hVW (by omega)⟩, hB1.trans (hVW.mono hsW)⟩, Up.of_below hVW⟩
      (fun v s' a'' W' => a'' = { tmps := #[.slice ao n c1, .int .i64 k, .pointer (some ⟨w.heap.size, 0, none⟩), .pointer (some ⟨w.heap.size + 1, 0, none⟩), .pointer (some ⟨w.heap.size + 1 + 1, 0, none⟩), .pointer (some ⟨w.heap.size + 1 + 1 + 1, 0, none⟩), .pointer (some ⟨bx, 0, none⟩), v, .slice ao n c1, .int .i64 n, .int .i64 k, .func (.func 150) #[] #[.pointer (some ⟨w.heap.size + 1 + 1 + 1 + 1 + 1, 0, none⟩), .pointer (some ⟨w.heap.size + 1 + 1 + 1 + 1, 0, none⟩)], .slice (some ⟨gb, 0, none⟩) s.length gc, .int .i64 k, .func (.func 150) #[] #[.pointer (some ⟨W.heap.size + 1, 0, none⟩), .pointer (some ⟨W.heap.size, 0, none⟩)], v, undef, undef, undef, undef, undef, undef, undef, undef, undef, undef], defers := [] })
      (fun v s a A r' l hl h hr => h)
      ?assign2 ?body2 ?done2 ?stop2
    case assign2 =>
      rintro l2 pre' t v W' hl2 hI2 ⟨tb, tc, rfl, _⟩
      gi_wp2
      exact ⟨Up.refl _ _, hI2, trivial⟩
    case body2 =>
      rintro l2 pre' t v a'' W' hl2 ⟨r2, hr2⟩ ⟨⟨⟨⟨⟨⟨⟨g, hg, d3⟩, dX⟩, d2⟩, d1⟩, d0⟩, hB2⟩, hU⟩ rfl hK2 ⟨tb, tc, rfl, ht1, ht2, ht3, ht4, htN⟩
      have hK1 := mem_chs.1 hK
      have hK2' := mem_chs.1 hK2
      obtain ⟨mm, hmm⟩ : ∃ mm, mn (s.map M) t = mm := ⟨_, rfl⟩
      have hvm := vm_minor hv hK1.2.1 (fun i hi => (hK1.2.2 i hi).2) hK2'.2.1 (fun i hi => (hK2'.2.2 i hi).2)
      have hg2 := hg.step hK2 hvm.1
      rw [hmm] at hvm hg2
      obtain ⟨g2, hgg⟩ : ∃ g2, Int.gcd g mm = g2 := ⟨_, rfl⟩
      rw [hgg] at hg2
      have hcW := hC.up (hU.mono (by omega))
      obtain ⟨gb', gc', e', -, -, -, -, hcN'⟩ := hcW
      cases e'
      have PM : Bx (∀ w', Below W'.heap.size W' w' → Calls Try.prog 121 #[.slice ao n c1, .slice (some ⟨gb, 0, none⟩) s.length gc, .slice (some ⟨tb, 0, none⟩) t.length tc] w' fun e w'' => e = .returned (.int .i64 mm) ∧ Below W'.heap.size W' w'') := ⟨fun w' hb => by
        have h := pminor_any ao (some ⟨gb, 0, none⟩) (some ⟨tb, 0, none⟩) n c1 gc tc M s t w' (by omega) hc1 (fun i hi => (hK1.2.2 i hi).2) (fun i hi => (hK2'.2.2 i hi).2) hc1' ht1 (by rw [hK1.1]; exact hs) (by rw [hK2'.1]; exact hs) ((hR.keep hB2).keep hb) (hcN'.keep hb) (htN.keep hb)
        rw [hmm, hvm.2] at h
        exact h.mono fun e w'' h => ⟨h.1, hb.trans (h.2.mono hb.size)⟩⟩
      have PD : Bx (∀ w', Below W'.heap.size W' w' → Calls Try.prog 120 #[.int .i64 (g : Int), .int .i64 mm] w' fun e w'' => e = .returned (.int .i64 (g2 : Int)) ∧ Below W'.heap.size W' w'') := ⟨fun w' hb => by
        have h := pdivisor_any g mm w' (by have := hg.1; omega) hvm.1
        rw [hgg] at h
        exact h.mono fun e w'' h => ⟨h.1, hb.trans (h.2.mono hb.size)⟩⟩
      have q3 := d3.cell
      have q0 := d0.cell
      have qX := dX.cell
      have q2 := d2.cell
      have l3 := d3.lt
      have l2' := d2.lt
      have f2 := d2.frozen
      have hmx : Try.prog.follows .mixedOrders = true := by kernel_rfl
      clear hgg hmm hK1 hK2' hvm hC
      gi_wp2
      gi_region_with_o (first
        | (refine ⟨trivial, ?_⟩; gi_at_call 121; refine (CallsIn.inRound l2 (CallsIn.inRound l (callsIn_wide.2 (PM.out _ (by repeat (first | with_reducible exact Below.refl _ _ | with_reducible apply below_drewN | with_reducible apply below_drew)))))).mono ?_; rintro e w1 ⟨rfl, hb1⟩
           have r3 := (bx_below d3 hb1 l3).cell
           have s3 := (bx_below d3 hb1 l3).frozen)
        | (refine ⟨trivial, ?_⟩; gi_at_call 120; refine (CallsIn.inRound l2 (CallsIn.inRound l (callsIn_wide.2 (PD.out _ (by repeat (first | with_reducible exact Below.refl _ _ | with_reducible exact hb1 | with_reducible apply below_drewN | with_reducible apply below_drew)))))).mono ?_; rintro e w2 ⟨rfl, hb2⟩
           have t3 := (bx_below d3 hb2 l3).cell
           have u3 := (bx_below d3 hb2 l3).frozen))
      all_goals
        have e3 := (bx_below d3 hb2 l3).set (.int .i64 (g2 : Int))
        have e2 := Boxed.other (bx_below d2 hb2 l2') (B' := w.heap.size + 1 + 1 + 1) (by omega) (.int .i64 (g2 : Int))
        have e1 := Boxed.other (bx_below d1 hb2 d1.lt) (B' := w.heap.size + 1 + 1 + 1) (by omega) (.int .i64 (g2 : Int))
        have e0 := Boxed.other (bx_below d0 hb2 d0.lt) (B' := w.heap.size + 1 + 1 + 1) (by omega) (.int .i64 (g2 : Int))
        have eX := Boxed.other (bx_below dX hb2 dX.lt) (B' := w.heap.size + 1 + 1 + 1) (by omega) (.int .i64 (g2 : Int))
        have hB3 := (hB2.trans (hb2.mono hB2.size)).setCell (p := ⟨w.heap.size + 1 + 1 + 1, 0, none⟩) (by simp; omega) (.int .i64 (g2 : Int))
        have hUi := (Up.of_below (n := W.heap.size) hb2).trans (Up.setCell w2 (a := ⟨w.heap.size + 1 + 1 + 1, 0, none⟩) (by simp; omega) (.int .i64 (g2 : Int)))
        have hUo := hU.trans ((Up.of_below (n := w.heap.size + 4) hb2).trans (Up.setCell w2 (a := ⟨w.heap.size + 1 + 1 + 1, 0, none⟩) (by simp) (.int .i64 (g2 : Int))))
        have k3 := e3.cell
        have k2 := e2.cell
        have m2 := e2.frozen
        clear r3 s3 t3 u3 q3 q0 qX q2 f2 PM PD
        by_cases h1 : g2 = 1
        · have h1' : ((g2 : Int) == 1) = true := by simp; omega
          have HG1 := Bx.mk h1
          clear h1
          gi_wp2
          exact ⟨hUi.trans (Up.setCell _ (by simp; omega) _), ⟨⟨⟨rfl, (HG1.out ▸ hg2).one hK⟩, by have := e2.set (.int .i64 (g2 : Int)); rw [show (.int .i64 1 : Value) = .int .i64 ((g2 : Nat) : Int) by rw [HG1.out]; rfl]; exact this⟩, hB3.setCell (p := ⟨w.heap.size + 1 + 1, 0, none⟩) (by simp; omega) _⟩, hUo.trans (Up.setCell _ (by simp) _)⟩
        · have h1' : ((g2 : Int) == 1) = false := by simp; omega
          gi_wp2
          exact ⟨hUi, ⟨⟨⟨⟨⟨⟨g2, hg2, e3⟩, eX⟩, e2⟩, e1⟩, e0⟩, hB3⟩, hUo⟩
    case done2 =>
      rintro ys W' rfl ⟨⟨⟨⟨⟨⟨⟨g, hg, d3⟩, dX⟩, d2⟩, d1⟩, d0⟩, hB2⟩, hU⟩
      gi_wp2
      exact ⟨hU, ⟨⟨⟨⟨g, hg.finish hK, d3⟩, d2⟩, d1⟩, d0⟩, hB2⟩
    case stop2 =>
      rintro pre' W' _ ⟨⟨⟨⟨_, hd⟩, d2⟩, hB2⟩, hU⟩
      gi_wp2
      first | exact ⟨hU, ⟨⟨rfl, hd⟩, d2⟩, hB2⟩ | exact ⟨hU, ⟨hd, d2⟩, hB2⟩ | exact ⟨hU, ⟨rfl, d2⟩, hB2⟩
  case done =>
    rintro D zs W hD rfl ⟨⟨⟨⟨⟨g, hg, b3⟩, b2⟩, b1⟩, b0⟩, hB1⟩ hK
    have q3 := b3.cell
    have q2 := b2.cell
    have f2 := b2.frozen
    gi_wp2
    have hK' := (KeepsOthers.setCell W ⟨w.heap.size + 1 + 1, 0, none⟩ (.int .i64 g)).same D _ hK rfl
    refine ⟨by simp, .inl ⟨_, _, rfl, run_takeDeferred hK', ?_⟩⟩
    have hc5 := cell_kept (b2.set (.int .i64 g)).cell (grownBy_putObj' _ D (.deferred none)) (fun r e => by cases e; exact ⟨_, hK', rfl⟩)
    refine ⟨.int .i64 g, ?_, g, rfl, hg.1, fun d => by rw [dv_chs, hg.2.2 d], (hB1.setCell (p := ⟨w.heap.size + 1 + 1, 0, none⟩) (by simp; omega) _).trans (belowK_b (w := w) (Nat.le_refl _) _ D _ _ (by omega) hK' rfl rfl)⟩
    simp [results, Try.f79, go_sem, hc5]
  case stop =>
    rintro D pre W hD _ ⟨⟨⟨_, hd⟩, b2⟩, hB1⟩ hK
    gi_wp2
    refine ⟨by simp, .inl ⟨_, _, rfl, run_takeDeferred hK, ?_⟩⟩
    have hc5 := cell_kept b2.cell (grownBy_putObj' _ D (.deferred none)) (fun r e => by cases e; exact ⟨_, hK, rfl⟩)
    refine ⟨.int .i64 1, ?_, 1, rfl, by omega, by first | exact hd | simp, hB1.trans (belowK_b (w := w) (Nat.le_refl _) W D _ _ (by omega) hK rfl rfl)⟩
    simp [results, Try.f79, go_sem, hc5]
end Go.Proofs.Ytnbamjoadankmaa
