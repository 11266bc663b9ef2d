/- pitch.powers as it is called; pitch.product. -/
import Derived.Test.YtomgihlkbmaleaaDoorP5
namespace Go.Proofs.YtomgihlkbmaleaaDoor
open Go.RowKit M
attribute [local go_sem] Oper.semAt_some
set_option maxHeartbeats 1000000 in
theorem powers_in (F : Fence) (n : Nat) (h67 : F.fn 44) (hro : F.round = none) (v : Nat → Int) (w : World) :
    CallsIn F n Tryd.prog 44 #[PV v] w fun e w' => e = .returned (.func (.func 57) #[] #[.pointer (some ⟨w.heap.size, 0, none⟩)]) ∧ w' = w.alloc (.cells (PC v) 22) := by
  refine callsIn_of_wp Tryd.func44 rfl h67 ?_ hro
  simp only [Tryd.ntmps44, List.size_toArray, List.length_cons, List.length_nil, Nat.reduceAdd, Nat.reduceSub, Array.replicate_succ, Array.replicate_zero, List.push_toArray, List.append_toArray, List.nil_append, List.cons_append]
  gi_wp2
  go_ret
  exact ⟨rfl, rfl⟩
theorem powers_stops (F : Fence) (n : Nat) (h92 : F.fn 57) (hro : F.round = none) (hn : 1 ≤ n) (b : Nat) (v : Nat → Int) (w : World) (hb : b < w.heap.size) (hP : Pm w) (hL : LC w b v) :
    SeqStopsK F n Tryd.prog 57 #[.pointer (some ⟨b, 0, none⟩)] (encP v) (Kp b) (fun ys => ys = ixs v 6) (fun _ => True) 6 w := fun l J Jx W hW _ _ hY h0 =>
  powers1_in F n h92 hro hn l b v J Jx ⟨hY⟩ W (hP.keep hW) (hL.kp (Kp.below hW hb)) h0
/-- A product of powers. -/
def prodL (L : List (Nat × Nat)) : Nat := L.foldl (fun r p => r * p.1 ^ p.2) 1
theorem prodL_snoc (L : List (Nat × Nat)) (p : Nat × Nat) : prodL (L ++ [p]) = prodL L * p.1 ^ p.2 := by simp [prodL]
def PosL (L : List (Nat × Nat)) : Prop := ∀ p ∈ L, 1 ≤ p.1 ∧ p.1 ≤ 13 ∧ p.2 ≤ 2000
theorem prodL_le (A B : List (Nat × Nat)) (h : PosL B) : prodL A ≤ prodL (A ++ B) := by
  induction B generalizing A with
  | nil => simp
  | cons p B ih =>
    have e : A ++ p :: B = (A ++ [p]) ++ B := by simp
    rw [e]
    refine Nat.le_trans ?_ (ih (A ++ [p]) fun q hq => h q (by simp [hq]))
    rw [prodL_snoc]
    exact Nat.le_mul_of_pos_right _ (Nat.pow_pos (h p (by simp)).1)
theorem prodL_take (L : List (Nat × Nat)) (k : Nat) (h : PosL L) : prodL (L.take k) ≤ prodL L := by
  have := prodL_le (L.take k) (L.drop k) fun p hp => h p (List.mem_of_mem_drop hp)
  rwa [List.take_append_drop] at this
theorem powL_le (L : List (Nat × Nat)) (k : Nat) (h : PosL L) (hk : k < L.length) : L[k].1 ^ L[k].2 ≤ prodL L := by
  have h1 := prodL_take L (k + 1) h
  rw [List.take_succ_eq_append_getElem hk, prodL_snoc] at h1
  have hp : 0 < prodL (L.take k) := by
    have := prodL_le [] (L.take k) fun p hp => h p (List.mem_of_mem_take hp)
    simp [prodL] at this ⊢; omega
  exact Nat.le_trans (Nat.le_mul_of_pos_left _ hp) h1
/-- The cells of a list of powers. -/
def PowC (w : World) (g : Nat) (L : List (Nat × Nat)) : Prop := ∀ k (h : k < L.length), w.cell? ⟨g, k * 2, none⟩ = some (.int .i64 (L[k].1 : Int)) ∧ w.cell? ⟨g, k * 2 + 1, none⟩ = some (.int .i64 (L[k].2 : Int))
theorem PowC.keep {w w' : World} {g : Nat} {L : List (Nat × Nat)} (h : PowC w g L) (hb : Below w.heap.size w w') (hg : g < w.heap.size) : PowC w' g L :=
  fun k hk => ⟨(hb.cell (p := ⟨g, k * 2, none⟩) hg).trans (h k hk).1, (hb.cell (p := ⟨g, k * 2 + 1, none⟩) hg).trans (h k hk).2⟩
/-- A number is handed back. -/
def OutP (w : World) (x : Nat) (e : Ending) (w' : World) : Prop := ∃ v, e = .returned v ∧ Nm w' v x ∧ Below w.heap.size w w'
theorem product_nil (ao : Option Addr) (cap : Nat) (w : World) : Calls Tryd.prog 62 #[.slice ao 0 cap] w (OutP w 1) := by
  have H := Hx.mk (fun w => make_ok (w := w) (L := []) 1 (fun p hp => by cases hp) (by omega))
  go_enter Tryd.func62, Tryd.ntmps62
  go_wp2_with fail
  refine (H.out _).mono ?_
  rintro e w1 ⟨v, rfl, hL, hb⟩
  have HL := Hx.mk (hL (v, 1) (by simp))
  have HB := Hx.mk hb
  clear hL hb
  go_wp2
  refine wp_loop_rounds 1 ?_
  rw [rounds_succ]
  go_wp2
  go_ret
  exact ⟨v, rfl, HL.out, HB.out⟩
/-- What is kept while a factor is made. -/
structure PrS (w0 : World) (b p x : Nat) (L : List (Value × Nat)) (w : World) : Prop where
  c0 : w.cell? ⟨b, 0, none⟩ = some (.int .i64 (p : Int))
  c1 : w.cell? ⟨b, 1, none⟩ = some (.int .i64 (x : Int))
  sz : b < w.heap.size
  live : Live w L
  bl : Below w0.heap.size w0 w
theorem PrS.call {w0 : World} {b p x : Nat} {L : List (Value × Nat)} {w w' : World} (hb : Below w.heap.size w w') (h : PrS w0 b p x L w) : PrS w0 b p x L w' :=
  ⟨(hb.cell (p := ⟨b, 0, none⟩) h.sz).trans h.c0, (hb.cell (p := ⟨b, 1, none⟩) h.sz).trans h.c1, Nat.lt_of_lt_of_le h.sz hb.size, h.live.keep hb, h.bl.trans (hb.mono h.bl.size)⟩
theorem PrS.drew {w0 : World} {b p x : Nat} {L : List (Value × Nat)} {w : World} (h : PrS w0 b p x L w) : PrS w0 b p x L w.drew := PrS.call (Below.refl _ _).drew h
theorem PrS.all {w0 : World} {b p x : Nat} {L : List (Value × Nat)} {w : World} (h : PrS w0 b p x L w) : PrS w0 b p x L w ∧ w.cell? ⟨b, 0, none⟩ = some (.int .i64 (p : Int)) ∧ w.cell? ⟨b, 1, none⟩ = some (.int .i64 (x : Int)) := ⟨h, h.c0, h.c1⟩
theorem PrS.allX {w0 : World} {b p x : Nat} {L : List (Value × Nat)} {w : World} {X : Prop} (h : PrS w0 b p x L w ∧ X) : PrS w0 b p x L w ∧ w.cell? ⟨b, 0, none⟩ = some (.int .i64 (p : Int)) ∧ w.cell? ⟨b, 1, none⟩ = some (.int .i64 (x : Int)) := h.1.all
theorem Live.drew {w : World} {L : List (Value × Nat)} (h : Live w L) : Live w.drew L := h.keep (Below.refl _ _).drew
theorem make_st {w0 : World} {b p x : Nat} {L : List (Value × Nat)} {w : World} (hp : p ≤ 13) (h : PrS w0 b p x L w) : Calls Tryd.prog 79 #[.int .u64 (p : Int)] w fun e w' => ∃ v, e = .returned v ∧ PrS w0 b p x ((v, p) :: L) w' ∧ PrS w0 b p x L w' :=
  (make_ok p h.live (by omega)).mono fun _ _ ⟨v, he, hl, hb⟩ => ⟨v, he, ⟨(h.call hb).c0, (h.call hb).c1, (h.call hb).sz, hl, (h.call hb).bl⟩, h.call hb⟩
theorem pow_st {w0 : World} {b p x : Nat} {v : Value} {L : List (Value × Nat)} {w : World} (hx : x ≤ 2000) (hf : Fits (p ^ x)) (h : PrS w0 b p x ((v, p) :: L) w) : Calls Tryd.prog 80 #[v, .int .i64 (x : Int)] w fun e w' => ∃ u, e = .returned (.tuple #[u, .int .i64 0]) ∧ PrS w0 b p x ((u, p ^ x) :: L) w' ∧ PrS w0 b p x L w' :=
  (pow_ok x h.live (by simp) (by omega) hf).mono fun _ _ ⟨u, he, hl, hb⟩ =>
    have hL : Live _ ((u, p ^ x) :: L) := fun q hq => hl q (by rcases List.mem_cons.1 hq with rfl | hq <;> simp [*])
    ⟨u, he, ⟨(h.call hb).c0, (h.call hb).c1, (h.call hb).sz, hL, (h.call hb).bl⟩, (h.call hb).c0, (h.call hb).c1, (h.call hb).sz, fun q hq => hL q (by simp [hq]), (h.call hb).bl⟩
theorem mul_st {w0 : World} {b p x s y : Nat} {u r : Value} {w : World} (hf : Fits (s * y)) (h : PrS w0 b p x [(u, y), (r, s)] w) : Calls Tryd.prog 81 #[r, u] w fun e w' => ∃ z, e = .returned (.tuple #[z, .int .i64 0]) ∧ Live w' [(z, s * y)] ∧ Below w0.heap.size w0 w' :=
  (mul_ok h.live (by simp) (by simp) hf).mono fun _ _ ⟨u, he, hl, hb⟩ => ⟨u, he, fun q hq => hl q (by simp at hq; simp [hq]), (h.call hb).bl⟩
set_option maxHeartbeats 2000000 in
theorem product_some (g cap n : Nat) (L : List (Nat × Nat)) (w : World) (hn : L.length = n) (hn6 : n ≤ 6) (hL : PosL L) (hg : g < w.heap.size) (hc : PowC w g L) (hf : Fits (prodL L)) :
    Calls Tryd.prog 62 #[.slice (some ⟨g, 0, none⟩) n cap] w (OutP w (prodL L)) := by
  have H := Hx.mk (fun w => make_ok (w := w) (L := []) 1 (fun p hp => by cases hp) (by omega))
  have HN := Hx.mk hn
  clear hn
  go_enter Tryd.func62, Tryd.ntmps62
  go_wp2_with fail
  refine (H.out _).mono ?_
  rintro e w1 ⟨v, rfl, hL1, hb⟩
  have HL := Hx.mk hL1
  have HB := Hx.mk hb
  clear hL1 hb H
  go_wp2
  go_loopw [3, 11] (fun rv iv wr => ∃ k : Nat, k ≤ n ∧ iv = .int .i64 (k : Int) ∧ Hx (Live wr [(rv, prodL (L.take k))]) ∧ Hx (Below w.heap.size w wr)) (fun _ iv _ => n - (intOf iv).toNat)
  case atStart => exact ⟨0, by omega, rfl, HL, HB⟩
  case round =>
    clear HL HB
    obtain ⟨k, hk, rfl, HL, HB⟩ := hrel
    by_cases hlt : k < n
    · have hkl : k < L.length := by rw [HN.out]; exact hlt
      obtain ⟨hp1, hp2, hp3⟩ := hL L[k] (List.getElem_mem hkl)
      have hc0 := (hc.keep HB.out hg k hkl).1
      have hc1 := (hc.keep HB.out hg k hkl).2
      have HF1 := Hx.mk (hf.mono (powL_le L k hL hkl))
      have HF2 := Hx.mk (hf.mono (prodL_take L (k + 1) hL))
      have HT := Hx.mk (show prodL (L.take (k + 1)) = prodL (L.take k) * L[k].1 ^ L[k].2 by rw [List.take_succ_eq_append_getElem hkl, prodL_snoc])
      obtain ⟨p, hp⟩ : ∃ p, L[k].1 = p := ⟨_, rfl⟩
      obtain ⟨x, hx⟩ : ∃ x, L[k].2 = x := ⟨_, rfl⟩
      obtain ⟨s, hs⟩ : ∃ s, prodL (L.take k) = s := ⟨_, rfl⟩
      obtain ⟨t, ht⟩ : ∃ t, prodL (L.take (k + 1)) = t := ⟨_, rfl⟩
      simp only [hp, hx, hs, ht] at hp1 hp2 hp3 hc0 hc1 HF1 HF2 HT HL
      have HTT := Hx.mk ht
      have hsz := HB.out.size
      clear hp hx hs ht
      go_wp2
      have HS : PrS wr wr.heap.size p x [(u3, s)] (wr.alloc (.cells #[.int .i64 (p : Int), .int .i64 (x : Int)] 65)) := ⟨by simp [go_sem], by simp [go_sem], by simp, HL.out.keep ((Below.refl _ _).alloc (Nat.le_refl _) _), (Below.refl _ _).alloc (Nat.le_refl _) _⟩
      have HD := HS.drew.all
      obtain ⟨_, hd0, hd1⟩ := HS.all
      have hcv : IntKind.u64.wrap (p : Int) = (p : Int) := by simp [IntKind.wrap, IntKind.signed, IntKind.bits]; omega
      generalize (wr.alloc (.cells #[.int .i64 (p : Int), .int .i64 (x : Int)] 65)) = W at *
      clear hc0 hc1
      go_region_held3 (fun W' => PrS wr wr.heap.size p x [(u3, s)] W' ∧ W'.cell? ⟨wr.heap.size, 0, none⟩ = some (.int .i64 (p : Int)) ∧ W'.cell? ⟨wr.heap.size, 1, none⟩ = some (.int .i64 (x : Int)))
        (first | (with_reducible assumption) | (refine PrS.all ?_; with_reducible assumption) | (refine PrS.allX ?_; with_reducible assumption))
        (first
          | (go_at_call 79; refine (make_st hp2 (And.left (by assumption))).mono ?_; rintro e w' ⟨vm, rfl, hM, hS'⟩; have hMd := hM.drew)
          | (go_at_call 80; refine (pow_st hp3 HF1.out (by first | exact hM | exact hMd)).mono ?_; rintro e w'' ⟨vu, rfl, hU, hS''⟩; have hUd := hU.drew))
      all_goals
        (try simp only [Exit.inBlock, Exit.then])
        have HU : Hx (PrS wr wr.heap.size p x [(vu, p ^ x), (u3, s)] _) := ⟨by first | exact hU | exact hUd⟩
        go_wp2_with fail
        refine (mul_st (by rw [← HT.out]; exact HF2.out) HU.out).mono ?_
        rintro e w5 ⟨z, rfl, hz, hb5⟩
        rw [← HT.out, ← HTT.out] at hz
        have HZ := Hx.mk hz
        have HB5 := Hx.mk (HB.out.trans (hb5.mono HB.out.size))
        clear hz hb5
        go_wp2
        go_roundw
        case rel => exact ⟨k + 1, by omega, by go_num, HZ, HB5⟩
        case measure => simp [intOf]; omega
    · obtain rfl : k = n := by omega
      have hT : L.take k = L := by rw [← HN.out]; exact List.take_length
      rw [hT] at HL
      go_wp2
      go_ret
      exact ⟨_, rfl, HL.out (_, _) (List.mem_singleton.2 rfl), HB.out⟩
end Go.Proofs.YtomgihlkbmaleaaDoor
