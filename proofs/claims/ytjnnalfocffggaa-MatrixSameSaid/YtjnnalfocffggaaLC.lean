/- the law's changed. -/
import Derived.Test.YtjnnalfocffggaaLM
import Derived.Test.YtjnnalfocffggaaKQ
namespace Go.Proofs.Ytjnnalfocffggaa
open Go.RowKit D
theorem owns_empty6 {w : World} {base g : Nat} {e : TypeId} (hb : base ≤ g) (h : w.heap[g]? = some (.cells #[] e (0, 0))) : w.ownsRow base e 6 (.slice (some ⟨g, 0, none⟩) 0 0) 0 [] :=
  ⟨rfl, Or.inr ⟨g, 0, #[], rfl, hb, h, Nat.le_refl _, by unfold maxLen; omega, rfl, rfl⟩⟩
def swM (M : Nat → Nat → Int) (i k : Nat) : Nat → Nat → Int := updR (updR M i (M k)) k (M i)
def ngM (M : Nat → Nat → Int) (k : Nat) : Nat → Nat → Int := fun r s => if r = k then - M r s else M r s
def adM (M : Nat → Nat → Int) (i k : Nat) (x : Int) : Nat → Nat → Int := fun r s => if r = i then M r s + x * M k s else M r s
def chM (M : Nat → Nat → Int) (i k : Nat) (x : Int) : Nat → Nat → Int := if i = k then ngM (swM M i k) k else adM (ngM (swM M i k) k) i k x
theorem swM_bd {M : Nat → Nat → Int} {n i k : Nat} {B : Nat} (hi : i < n) (hk : k < n) (h : ∀ r s, r < n → s < 6 → (M r s).natAbs ≤ B) : ∀ r s, r < n → s < 6 → (swM M i k r s).natAbs ≤ B := fun r s hr hs => by
  unfold swM updR
  by_cases a : r = k
  · rw [if_pos a]; exact h i s hi hs
  · rw [if_neg a]
    by_cases b : r = i
    · rw [if_pos b]; exact h k s hk hs
    · rw [if_neg b]; exact h r s hr hs
theorem ngM_bd {M : Nat → Nat → Int} {n k : Nat} {B : Nat} (h : ∀ r s, r < n → s < 6 → (M r s).natAbs ≤ B) : ∀ r s, r < n → s < 6 → (ngM M k r s).natAbs ≤ B := fun r s hr hs => by
  unfold ngM
  by_cases a : r = k
  · rw [if_pos a, Int.natAbs_neg]; exact h r s hr hs
  · rw [if_neg a]; exact h r s hr hs
theorem RB.drew {W : World} {b n cap : Nat} {M : Nat → Nat → Int} (h : RB W b n cap M) : RB W.drew b n cap M := by
  obtain ⟨cur, h⟩ := h; exact ⟨cur, h⟩
theorem mod_small {a n : Nat} (ha : a < 256) (hn : 0 < n) (hn8 : n ≤ 8) : Int.tmod (a : Int) (n : Int) = ((a % n : Nat) : Int) := by
  rw [Int.tmod_eq_emod_of_nonneg (by omega)]; rfl
set_option maxRecDepth 100000 in
set_option maxHeartbeats 16000000 in
theorem changed_any (ao : Option Addr) (n c1 : Nat) (M : Nat → Nat → Int) (a f : Nat) (x : Int) (w : World) (hn : 0 < n) (hn8 : n ≤ 8) (hc1 : n ≤ c1) (hc2 : c1 ≤ maxLen) (hR : CV w ao n M) (hb : ∀ i j, i < n → j < 6 → (M i j).natAbs ≤ 1000000000) (ha : a < 256) (hf : f < 256) (hx1 : -32768 ≤ x) (hx2 : x ≤ 32767) :
    Calls Try.prog 34 #[.slice ao n c1, .int .u8 a, .int .u8 f, .int .i16 x] w fun e w' => ∃ g cap, e = .returned (.slice (some ⟨g, 0, none⟩) n cap) ∧ cap ≤ maxLen ∧ Bx (RB w' g n cap (chM M (a % n) (f % n) x)) ∧ Bx (Below w.heap.size w w') := by
  obtain ⟨tj, htj, htj2⟩ := Option.map_eq_some_iff.1 info_rows2
  simp only [Prod.mk.injEq] at htj2
  obtain ⟨hy0, hy1, hy2⟩ := htj2
  have HTJ := Bx.mk htj
  obtain ⟨b, o, rfl, hbw, hc⟩ := hR hn
  have HC := Bx.mk hc
  have HBD := Bx.mk hb
  have ma := mod_small ha hn hn8
  have mf := mod_small hf hn hn8
  have ia : a % n < n := Nat.mod_lt _ hn
  have kf : f % n < n := Nat.mod_lt _ hn
  obtain ⟨i, hi⟩ : ∃ i, a % n = i := ⟨_, rfl⟩
  obtain ⟨k, hk⟩ : ∃ k, f % n = k := ⟨_, rfl⟩
  rw [hi] at ma ia ⊢
  rw [hk] at mf kf ⊢
  have wa : IntKind.i64.wrap (a : Int) = (a : Int) := by rw [IntWalk.i64_in] <;> omega
  have wf : IntKind.i64.wrap (f : Int) = (f : Int) := by rw [IntWalk.i64_in] <;> omega
  have wx : IntKind.i64.wrap x = x := by rw [IntWalk.i64_in] <;> omega
  have hn0 : ((n : Int) == 0) = false := by simp; omega
  clear hR hc htj hb hi hk ha hf
  go_enter Try.func34, Try.ntmps34
  go_wp2_with (at_builtin; refine wpList_append_any rfl (.tmp 14) (.tmp 15) 22 rfl w.heap.size 37 tj _ 6 48 Try.underlying22 HTJ.out hy0 hy1 hy2 rfl (by decide) _ 0 [] rfl (owns_empty6 (by first | omega | (simp; omega)) (by show (Array.push w.heap _)[w.heap.size]? = _; simp)) _ n _ (rowsL M n) rfl ?c1 ?c2 ?c3 (rowsL_one M n) ?c4 ?c5 ?c6 ?_)
  case c1 => exact rowsL_length M n
  case c2 => intro h; cases h
  case c3 =>
    intro ad had j u hu
    cases had
    have hjl : j < n * 6 := by have := (List.getElem?_eq_some_iff.1 hu).1; rwa [rowsL_length] at this
    have e := rowsL_get (M := M) (k := n) (i := j / 6) (j := j % 6) (by omega) (by omega)
    rw [show j / 6 * 6 + j % 6 = j by omega, hu] at e
    rw [Addr.add_lit, e]
    have h1 : (w.alloc (.cells #[] 37)).cell? ⟨b, o + j, none⟩ = w.cell? ⟨b, o + j, none⟩ := ((Below.refl _ w).alloc (Nat.le_refl _) _).cell (p := ⟨b, o + j, none⟩) hbw
    have h2 := HC.out (j / 6) (j % 6) (by omega) (by omega)
    rw [show o + j / 6 * 6 + j % 6 = o + j by omega] at h2
    exact h1.trans h2
  case c4 => unfold maxLen; omega
  case c5 => omega
  case c6 => first | omega | (simp; done) | (simp; omega)
  intro v1 w1 ho1 hg1
  have HB1 : Bx (Below w.heap.size w w1) := ⟨Below.grown (by repeat (first | with_reducible exact Below.refl _ _ | (with_reducible refine Below.setCell ?_ ?side _; case side => (first | omega | (simp <;> omega))) | (with_reducible refine Below.alloc ?_ ?side _; case side => (first | omega | (simp <;> omega))) | with_reducible apply below_drewN | with_reducible apply below_drew)) hg1 (by first | omega | (simp; done) | (simp; omega)) (by intro k hk; have hk' : some w.heap.size = some k := hk; simp at hk'; omega)⟩
  obtain ⟨g, cap, rfl, hg0, hgs⟩ := own_form ho1 (by omega)
  have HG : Bx (RB w1 g n cap M) := ⟨RB.of_own ho1 fun r s hr hs => rowsL_get hr hs⟩
  have hcap : cap ≤ maxLen := by
    rcases ho1.2 with ⟨e, _⟩ | ⟨g', cap', cur, e, _, _, _, h2, _⟩
    · cases e
    · cases e; exact h2
  clear hg1 ho1
  have a0 := HG.out.cell (i := i) (j := 0) ia (by omega)
  have a1 := HG.out.cell (i := i) (j := 1) ia (by omega)
  have a2 := HG.out.cell (i := i) (j := 2) ia (by omega)
  have a3 := HG.out.cell (i := i) (j := 3) ia (by omega)
  have a4 := HG.out.cell (i := i) (j := 4) ia (by omega)
  have a5 := HG.out.cell (i := i) (j := 5) ia (by omega)
  have e0 := HG.out.cell (i := k) (j := 0) kf (by omega)
  have e1 := HG.out.cell (i := k) (j := 1) kf (by omega)
  have e2 := HG.out.cell (i := k) (j := 2) kf (by omega)
  have e3 := HG.out.cell (i := k) (j := 3) kf (by omega)
  have e4 := HG.out.cell (i := k) (j := 4) kf (by omega)
  have e5 := HG.out.cell (i := k) (j := 5) kf (by omega)
  have f0 := HG.out.frozen (i * 6)
  have f1 := HG.out.frozen (i * 6 + 1)
  have f2 := HG.out.frozen (i * 6 + 2)
  have f3 := HG.out.frozen (i * 6 + 3)
  have f4 := HG.out.frozen (i * 6 + 4)
  have f5 := HG.out.frozen (i * 6 + 5)
  have h0 := HG.out.frozen (k * 6)
  have h1 := HG.out.frozen (k * 6 + 1)
  have h2 := HG.out.frozen (k * 6 + 2)
  have h3 := HG.out.frozen (k * 6 + 3)
  have h4 := HG.out.frozen (k * 6 + 4)
  have h5 := HG.out.frozen (k * 6 + 5)
  rw [Nat.add_zero] at a0 e0
  rcases Nat.lt_trichotomy i k with hik | hik | hik
  · have hki : i ≠ k := by omega
    go_wp2_with fail
    go_region
    all_goals go_wp2_with fail
    all_goals
      obtain ⟨wz, hwz⟩ : ∃ wz, wz = (six6 (six6 w1 g (i * 6) (M k)) g (k * 6) (M i)).drew := ⟨_, rfl⟩
      have HZ : RB wz g n cap (swM M i k) := by rw [hwz]; exact RB.drew ((HG.out.row ia (M k)).row kf (M i))
      have HWZ : Bx (But g w1 wz) := ⟨by rw [hwz]; exact ((But.six6 _ _ _).trans (But.six6 _ _ _)).drew⟩
      unfold six6 at hwz
      rw [← hwz]
      clear hwz HG
      have HBX : Bx (Below w.heap.size w wz) := ⟨HB1.out.trans (HWZ.out.below HB1.out.size hg0)⟩
      have HS2 : Bx (RB wz g n cap (swM M i k)) := ⟨HZ⟩
      have HSB := Bx.mk (swM_bd (B := 1000000000) ia kf HBD.out)
      clear HZ
      go_loopw [12] (fun jx wr => ∃ l : Nat, l ≤ 6 ∧ jx = .int .i64 l ∧ Bx (RB wr g n cap fun r s => if r = k ∧ s < l then - swM M i k r s else swM M i k r s) ∧ Bx (But g wz wr)) (fun jx _ => 6 - (intOf jx).toNat)
      case atStart => exact ⟨0, by omega, rfl, ⟨HS2.out.congr fun r s _ _ => if_neg (by omega)⟩, ⟨But.refl _ _⟩⟩
      case round =>
        obtain ⟨l, hl, rfl, HL, HW⟩ := hrel
        by_cases hl6 : l < 6
        · have a0 := HL.out.cell (i := k) (j := l) kf hl6
          have f0 := HL.out.frozen (k * 6 + l)
          simp only [Nat.lt_irrefl, and_false, if_false] at a0
          have hbd := HSB.out k l kf hl6
          obtain ⟨y, hy⟩ : ∃ y, swM M i k k l = y := ⟨_, rfl⟩
          rw [hy] at a0 hbd
          have hwy : IntKind.i64.wrap (-y) = -y := by rw [IntWalk.i64_in] <;> omega
          have HY := Bx.mk hy
          have HN := Bx.mk (HL.out.set kf hl6 (-y))
          have HNB := Bx.mk (HW.out.trans (But.set wr (k * 6 + l) (.int .i64 (-y))))
          clear hy
          go_wp2_with fail
          go_region
          all_goals go_wp2_with fail
          all_goals exact ⟨⟨l + 1, by omega, by go_num, ⟨RB.congr (RB.drew HN.out) fun r s hr hs => by
              by_cases e1 : r = k ∧ s = l
              · obtain ⟨rfl, rfl⟩ := e1
                rw [if_pos ⟨rfl, by omega⟩, if_pos ⟨rfl, rfl⟩, HY.out]
              · rw [if_neg e1]
                by_cases e2 : r = k ∧ s < l
                · rw [if_pos ⟨e2.1, by omega⟩, if_pos e2]
                · rw [if_neg e2, if_neg (by omega)]⟩, ⟨(HNB.out.drew)⟩⟩, by simp [intOf]; omega⟩
        · obtain rfl : l = 6 := by omega
          have HL2 : Bx (RB wr g n cap (ngM (swM M i k) k)) := ⟨HL.out.congr fun r s _ hs => by
            unfold ngM
            by_cases e : r = k
            · rw [if_pos e, if_pos ⟨e, hs⟩]
            · rw [if_neg e, if_neg (fun h => e h.1)]⟩
          clear HL
          have hik' : ((i : Int) == (k : Int)) = false := by simp; omega
          have HN2 := Bx.mk (ngM_bd (k := k) HSB.out)
          obtain ⟨N, hN⟩ : ∃ N, ngM (swM M i k) k = N := ⟨_, rfl⟩
          rw [hN] at HL2 HN2
          have HNE := Bx.mk hN
          clear hN
          go_wp2_with fail
          go_loopw [13] (fun jx wr' => ∃ l : Nat, l ≤ 6 ∧ jx = .int .i64 l ∧ Bx (RB wr' g n cap fun r s => if r = i ∧ s < l then N r s + x * N k s else N r s) ∧ Bx (But g wz wr')) (fun jx _ => 6 - (intOf jx).toNat)
          case atStart => exact ⟨0, by omega, rfl, ⟨HL2.out.congr fun r s _ _ => if_neg (by omega)⟩, HW⟩
          case round =>
            obtain ⟨l, hl, rfl, HL, HW2⟩ := hrel
            by_cases hl6 : l < 6
            · have a0 := HL.out.cell (i := i) (j := l) ia hl6
              have a1 := HL.out.cell (i := k) (j := l) kf hl6
              have f0 := HL.out.frozen (i * 6 + l)
              simp only [Nat.lt_irrefl, and_false, if_false] at a0 a1
              have b0 := HN2.out i l ia hl6
              have b1 := HN2.out k l kf hl6
              obtain ⟨y, hy⟩ : ∃ y, N i l = y := ⟨_, rfl⟩
              obtain ⟨z, hz⟩ : ∃ z, N k l = z := ⟨_, rfl⟩
              rw [hy] at a0 b0; rw [hz] at a1 b1
              obtain ⟨P, hP⟩ : ∃ P, x * z = P := ⟨_, rfl⟩
              have hPb : P.natAbs ≤ 32768000000000 := by
                rw [← hP, Int.natAbs_mul]
                have hx : x.natAbs ≤ 32768 := by omega
                exact Nat.mul_le_mul hx b1
              have hwP : IntKind.i64.wrap P = P := by rw [IntWalk.i64_in] <;> omega
              have hwS : IntKind.i64.wrap (y + P) = y + P := by rw [IntWalk.i64_in] <;> omega
              have HY := Bx.mk hy
              have HZ2 := Bx.mk hz
              have HPE := Bx.mk hP
              have HN := Bx.mk (HL.out.set ia hl6 (y + P))
              have HNB := Bx.mk (HW2.out.trans (But.set _ (i * 6 + l) (.int .i64 (y + P))))
              clear hy hz
              go_wp2_with fail
              go_region
              all_goals go_wp2_with fail
              all_goals exact ⟨⟨l + 1, by omega, by go_num, ⟨RB.congr (RB.drew HN.out) fun r s hr hs => by
                  by_cases e1 : r = i ∧ s = l
                  · obtain ⟨rfl, rfl⟩ := e1
                    rw [if_pos ⟨rfl, by omega⟩, if_pos ⟨rfl, rfl⟩, HY.out, HZ2.out, HPE.out]
                  · rw [if_neg e1]
                    by_cases e2 : r = i ∧ s < l
                    · rw [if_pos ⟨e2.1, by omega⟩, if_pos e2]
                    · rw [if_neg e2, if_neg (by omega)]⟩, ⟨(HNB.out.drew)⟩⟩, by simp [intOf]; omega⟩
            · obtain rfl : l = 6 := by omega
              have HL3 := HL.out.congr (N := chM M i k x) fun r s _ hs => by
                unfold chM adM
                rw [if_neg (by omega), HNE.out]
                by_cases e : r = i
                · rw [if_pos e, if_pos ⟨e, hs⟩]
                · rw [if_neg e, if_neg (fun h => e h.1)]
              have HL4 := Bx.mk HL3
              clear HL3 HL
              go_wp2_with fail
              go_ret
              exact ⟨g, cap, rfl, hcap, ⟨HL4.out⟩, ⟨HBX.out.trans (HW2.out.below HBX.out.size hg0)⟩⟩
  · subst hik
    go_wp2_with fail
    go_region
    all_goals go_wp2_with fail
    all_goals
      obtain ⟨wz, hwz⟩ : ∃ wz, wz = (six6 (six6 w1 g (i * 6) (M i)) g (i * 6) (M i)).drew := ⟨_, rfl⟩
      have HZ : RB wz g n cap (swM M i i) := by rw [hwz]; exact RB.drew ((HG.out.row ia (M i)).row ia (M i))
      have HWZ : Bx (But g w1 wz) := ⟨by rw [hwz]; exact ((But.six6 _ _ _).trans (But.six6 _ _ _)).drew⟩
      unfold six6 at hwz
      rw [← hwz]
      clear hwz HG
      have HBX : Bx (Below w.heap.size w wz) := ⟨HB1.out.trans (HWZ.out.below HB1.out.size hg0)⟩
      have HS2 : Bx (RB wz g n cap (swM M i i)) := ⟨HZ⟩
      have HSB := Bx.mk (swM_bd (B := 1000000000) ia ia HBD.out)
      clear HZ
      go_loopw [12] (fun jx wr => ∃ l : Nat, l ≤ 6 ∧ jx = .int .i64 l ∧ Bx (RB wr g n cap fun r s => if r = i ∧ s < l then - swM M i i r s else swM M i i r s) ∧ Bx (But g wz wr)) (fun jx _ => 6 - (intOf jx).toNat)
      case atStart => exact ⟨0, by omega, rfl, ⟨HS2.out.congr fun r s _ _ => if_neg (by omega)⟩, ⟨But.refl _ _⟩⟩
      case round =>
        obtain ⟨l, hl, rfl, HL, HW⟩ := hrel
        by_cases hl6 : l < 6
        · have a0 := HL.out.cell (i := i) (j := l) ia hl6
          have f0 := HL.out.frozen (i * 6 + l)
          simp only [Nat.lt_irrefl, and_false, if_false] at a0
          have hbd := HSB.out i l ia hl6
          obtain ⟨y, hy⟩ : ∃ y, swM M i i i l = y := ⟨_, rfl⟩
          rw [hy] at a0 hbd
          have hwy : IntKind.i64.wrap (-y) = -y := by rw [IntWalk.i64_in] <;> omega
          have HY := Bx.mk hy
          have HN := Bx.mk (HL.out.set ia hl6 (-y))
          have HNB := Bx.mk (HW.out.trans (But.set wr (i * 6 + l) (.int .i64 (-y))))
          clear hy
          go_wp2_with fail
          go_region
          all_goals go_wp2_with fail
          all_goals exact ⟨⟨l + 1, by omega, by go_num, ⟨RB.congr (RB.drew HN.out) fun r s hr hs => by
              by_cases e1 : r = i ∧ s = l
              · obtain ⟨rfl, rfl⟩ := e1
                rw [if_pos ⟨rfl, by omega⟩, if_pos ⟨rfl, rfl⟩, HY.out]
              · rw [if_neg e1]
                by_cases e2 : r = i ∧ s < l
                · rw [if_pos ⟨e2.1, by omega⟩, if_pos e2]
                · rw [if_neg e2, if_neg (by omega)]⟩, ⟨(HNB.out.drew)⟩⟩, by simp [intOf]; omega⟩
        · obtain rfl : l = 6 := by omega
          have HL2 : Bx (RB wr g n cap (ngM (swM M i i) i)) := ⟨HL.out.congr fun r s _ hs => by
            unfold ngM
            by_cases e : r = i
            · rw [if_pos e, if_pos ⟨e, hs⟩]
            · rw [if_neg e, if_neg (fun h => e h.1)]⟩
          clear HL
          go_wp2_with fail
          go_ret
          exact ⟨g, cap, rfl, hcap, ⟨by unfold chM; rw [if_pos rfl]; exact HL2.out⟩, ⟨HBX.out.trans (HW.out.below HBX.out.size hg0)⟩⟩
  · have hki : i ≠ k := by omega
    go_wp2_with fail
    go_region
    all_goals go_wp2_with fail
    all_goals
      obtain ⟨wz, hwz⟩ : ∃ wz, wz = (six6 (six6 w1 g (i * 6) (M k)) g (k * 6) (M i)).drew := ⟨_, rfl⟩
      have HZ : RB wz g n cap (swM M i k) := by rw [hwz]; exact RB.drew ((HG.out.row ia (M k)).row kf (M i))
      have HWZ : Bx (But g w1 wz) := ⟨by rw [hwz]; exact ((But.six6 _ _ _).trans (But.six6 _ _ _)).drew⟩
      unfold six6 at hwz
      rw [← hwz]
      clear hwz HG
      have HBX : Bx (Below w.heap.size w wz) := ⟨HB1.out.trans (HWZ.out.below HB1.out.size hg0)⟩
      have HS2 : Bx (RB wz g n cap (swM M i k)) := ⟨HZ⟩
      have HSB := Bx.mk (swM_bd (B := 1000000000) ia kf HBD.out)
      clear HZ
      go_loopw [12] (fun jx wr => ∃ l : Nat, l ≤ 6 ∧ jx = .int .i64 l ∧ Bx (RB wr g n cap fun r s => if r = k ∧ s < l then - swM M i k r s else swM M i k r s) ∧ Bx (But g wz wr)) (fun jx _ => 6 - (intOf jx).toNat)
      case atStart => exact ⟨0, by omega, rfl, ⟨HS2.out.congr fun r s _ _ => if_neg (by omega)⟩, ⟨But.refl _ _⟩⟩
      case round =>
        obtain ⟨l, hl, rfl, HL, HW⟩ := hrel
        by_cases hl6 : l < 6
        · have a0 := HL.out.cell (i := k) (j := l) kf hl6
          have f0 := HL.out.frozen (k * 6 + l)
          simp only [Nat.lt_irrefl, and_false, if_false] at a0
          have hbd := HSB.out k l kf hl6
          obtain ⟨y, hy⟩ : ∃ y, swM M i k k l = y := ⟨_, rfl⟩
          rw [hy] at a0 hbd
          have hwy : IntKind.i64.wrap (-y) = -y := by rw [IntWalk.i64_in] <;> omega
          have HY := Bx.mk hy
          have HN := Bx.mk (HL.out.set kf hl6 (-y))
          have HNB := Bx.mk (HW.out.trans (But.set wr (k * 6 + l) (.int .i64 (-y))))
          clear hy
          go_wp2_with fail
          go_region
          all_goals go_wp2_with fail
          all_goals exact ⟨⟨l + 1, by omega, by go_num, ⟨RB.congr (RB.drew HN.out) fun r s hr hs => by
              by_cases e1 : r = k ∧ s = l
              · obtain ⟨rfl, rfl⟩ := e1
                rw [if_pos ⟨rfl, by omega⟩, if_pos ⟨rfl, rfl⟩, HY.out]
              · rw [if_neg e1]
                by_cases e2 : r = k ∧ s < l
                · rw [if_pos ⟨e2.1, by omega⟩, if_pos e2]
                · rw [if_neg e2, if_neg (by omega)]⟩, ⟨(HNB.out.drew)⟩⟩, by simp [intOf]; omega⟩
        · obtain rfl : l = 6 := by omega
          have HL2 : Bx (RB wr g n cap (ngM (swM M i k) k)) := ⟨HL.out.congr fun r s _ hs => by
            unfold ngM
            by_cases e : r = k
            · rw [if_pos e, if_pos ⟨e, hs⟩]
            · rw [if_neg e, if_neg (fun h => e h.1)]⟩
          clear HL
          have hik' : ((i : Int) == (k : Int)) = false := by simp; omega
          have HN2 := Bx.mk (ngM_bd (k := k) HSB.out)
          obtain ⟨N, hN⟩ : ∃ N, ngM (swM M i k) k = N := ⟨_, rfl⟩
          rw [hN] at HL2 HN2
          have HNE := Bx.mk hN
          clear hN
          go_wp2_with fail
          go_loopw [13] (fun jx wr' => ∃ l : Nat, l ≤ 6 ∧ jx = .int .i64 l ∧ Bx (RB wr' g n cap fun r s => if r = i ∧ s < l then N r s + x * N k s else N r s) ∧ Bx (But g wz wr')) (fun jx _ => 6 - (intOf jx).toNat)
          case atStart => exact ⟨0, by omega, rfl, ⟨HL2.out.congr fun r s _ _ => if_neg (by omega)⟩, HW⟩
          case round =>
            obtain ⟨l, hl, rfl, HL, HW2⟩ := hrel
            by_cases hl6 : l < 6
            · have a0 := HL.out.cell (i := i) (j := l) ia hl6
              have a1 := HL.out.cell (i := k) (j := l) kf hl6
              have f0 := HL.out.frozen (i * 6 + l)
              simp only [Nat.lt_irrefl, and_false, if_false] at a0 a1
              have b0 := HN2.out i l ia hl6
              have b1 := HN2.out k l kf hl6
              obtain ⟨y, hy⟩ : ∃ y, N i l = y := ⟨_, rfl⟩
              obtain ⟨z, hz⟩ : ∃ z, N k l = z := ⟨_, rfl⟩
              rw [hy] at a0 b0; rw [hz] at a1 b1
              obtain ⟨P, hP⟩ : ∃ P, x * z = P := ⟨_, rfl⟩
              have hPb : P.natAbs ≤ 32768000000000 := by
                rw [← hP, Int.natAbs_mul]
                have hx : x.natAbs ≤ 32768 := by omega
                exact Nat.mul_le_mul hx b1
              have hwP : IntKind.i64.wrap P = P := by rw [IntWalk.i64_in] <;> omega
              have hwS : IntKind.i64.wrap (y + P) = y + P := by rw [IntWalk.i64_in] <;> omega
              have HY := Bx.mk hy
              have HZ2 := Bx.mk hz
              have HPE := Bx.mk hP
              have HN := Bx.mk (HL.out.set ia hl6 (y + P))
              have HNB := Bx.mk (HW2.out.trans (But.set _ (i * 6 + l) (.int .i64 (y + P))))
              clear hy hz
              go_wp2_with fail
              go_region
              all_goals go_wp2_with fail
              all_goals exact ⟨⟨l + 1, by omega, by go_num, ⟨RB.congr (RB.drew HN.out) fun r s hr hs => by
                  by_cases e1 : r = i ∧ s = l
                  · obtain ⟨rfl, rfl⟩ := e1
                    rw [if_pos ⟨rfl, by omega⟩, if_pos ⟨rfl, rfl⟩, HY.out, HZ2.out, HPE.out]
                  · rw [if_neg e1]
                    by_cases e2 : r = i ∧ s < l
                    · rw [if_pos ⟨e2.1, by omega⟩, if_pos e2]
                    · rw [if_neg e2, if_neg (by omega)]⟩, ⟨(HNB.out.drew)⟩⟩, by simp [intOf]; omega⟩
            · obtain rfl : l = 6 := by omega
              have HL3 := HL.out.congr (N := chM M i k x) fun r s _ hs => by
                unfold chM adM
                rw [if_neg (by omega), HNE.out]
                by_cases e : r = i
                · rw [if_pos e, if_pos ⟨e, hs⟩]
                · rw [if_neg e, if_neg (fun h => e h.1)]
              have HL4 := Bx.mk HL3
              clear HL3 HL
              go_wp2_with fail
              go_ret
              exact ⟨g, cap, rfl, hcap, ⟨HL4.out⟩, ⟨HBX.out.trans (HW2.out.below HBX.out.size hg0)⟩⟩
end Go.Proofs.Ytjnnalfocffggaa
