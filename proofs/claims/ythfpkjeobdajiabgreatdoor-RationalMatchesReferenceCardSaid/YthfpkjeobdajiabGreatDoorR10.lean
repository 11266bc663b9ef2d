/- texts of numbers: text and its closure. -/
import Derived.Test.YthfpkjeobdajiabGreatDoorR9
import Derived.Test.YthfpkjeobdajiabGreatDoorShelf
import Derived.Lib.LaidTab
namespace Go.Proofs.YthfpkjeobdajiabGreatDoor
open Go.RowKit M
/-- The library's table of the powers of ten lies as its initialiser lays it. -/
def Tb (w : World) : Prop := Lib.TabIs Tryz.prog w "internal/strconv.uint64pow10" .u64 Lib.pow10Tab
theorem Tb.keep {w w' : World} (h : Tb w) (hb : Below w.heap.size w w') : Tb w' := by
  have hgn : Tryz.prog.globalNamed "internal/strconv.uint64pow10" = some 3 := by kernel_rfl
  unfold Tb Lib.TabIs World.var? at h ⊢
  rw [hgn] at h ⊢
  simp only [Option.bind_some] at h ⊢
  have hlt : 3 < w.heap.size := by
    rcases Nat.lt_or_ge 3 w.heap.size with h' | h'
    · exact h'
    · rw [Array.getElem?_eq_none h'] at h; cases h
  rw [hb.block 3 hlt]; exact h
theorem below_grow (w : World) (k : Nat) (os : Array Obj) : Below w.heap.size w (Sort.grow (w.drewN k) os) := by
  have h := below_drewN (Below.refl w.heap.size w) k
  refine ⟨h.os, h.tape, h.output, by simp [Sort.grow] <;> omega, fun i hi => ?_⟩
  show (w.heap ++ os)[i]? = w.heap[i]?
  rw [Array.getElem?_append_left hi]
/-- A string of bytes. -/
abbrev strL (l : List UInt8) : ByteArray := ⟨l.toArray⟩
theorem itoa_any (n : Int) (w : World) (h1 : -1000000000 ≤ n) (h2 : n ≤ 1000000000) (ht : Tb w) :
    Calls Tryz.prog 71 #[.int .i64 n] w fun e w' => e = .returned (.string (strL (Lib.itoa n))) ∧ Below w.heap.size w w' :=
  (Tryz.strconv_Itoa n (by omega) (by omega) w ht).mono fun e w' ⟨he, k, os, hw⟩ => ⟨he, by rw [hw]; exact below_grow w k os⟩
/-- What stays while a text is put together. -/
structure TxS (k : Nat) (w0 : World) (n d : Int) (w : World) : Prop where
  c0 : w.cell? ⟨k, 0, none⟩ = some (.int .i64 n)
  c1 : w.cell? ⟨k, 1, none⟩ = some (.int .i64 d)
  sz : k < w.heap.size
  tb : Tb w
  bl : Below k w0 w
theorem TxS.call {k : Nat} {w0 : World} {n d : Int} {w w' : World} (hb : Below w.heap.size w w') (h : TxS k w0 n d w) : TxS k w0 n d w' := by
  have hs := h.sz
  have h2 := hb.size
  exact ⟨kc hb h.c0 hs, kc hb h.c1 hs, by omega, h.tb.keep hb, h.bl.trans (hb.mono (by omega))⟩
theorem TxS.drew {k : Nat} {w0 : World} {n d : Int} {w : World} (h : TxS k w0 n d w) : TxS k w0 n d w.drew := TxS.call (Below.refl _ _).drew h
theorem TxS.all {k : Nat} {w0 : World} {n d : Int} {w : World} (h : TxS k w0 n d w) : TxS k w0 n d w ∧ w.cell? ⟨k, 0, none⟩ = some (.int .i64 n) ∧ w.cell? ⟨k, 1, none⟩ = some (.int .i64 d) := ⟨h, h.c0, h.c1⟩
theorem TxS.allX {k : Nat} {w0 : World} {n d : Int} {w : World} {X : Prop} (h : TxS k w0 n d w ∧ X) : TxS k w0 n d w ∧ w.cell? ⟨k, 0, none⟩ = some (.int .i64 n) ∧ w.cell? ⟨k, 1, none⟩ = some (.int .i64 d) := h.1.all
theorem text_any (n d : Int) (w : World) (hb : BdQ n d) (ht : Tb w) :
    Calls Tryz.prog 59 #[RV n d] w fun e w' => e = .returned (.string (strL (textL n d))) ∧ Below w.heap.size w w' := by
  obtain ⟨b1, b2, b3, b4⟩ := hb
  have H1 := Bx.mk (fun w ht => itoa_any n w b1 b2 ht)
  have H2 := Bx.mk (fun w ht => itoa_any d w (by omega) b4 ht)
  have T0 := Bx.mk (ht.keep ((Below.refl w.heap.size w).alloc (Nat.le_refl _) (.cells #[.int .i64 n, .int .i64 d] 23)))
  by_cases hd : d = 1
  · subst hd
    have e : textL n 1 = Lib.itoa n := by simp [textL]
    rw [e]
    go_enter Tryz.func59, Tryz.ntmps59
    go_wp2_with fail
    refine (H1.out _ T0.out).mono ?_
    rintro e w2 ⟨rfl, hb2⟩
    have hB := Bx.mk ((show Below w.heap.size w (w.alloc (.cells #[.int .i64 n, .int .i64 1] 23)) from by repeat (first | exact Below.refl _ _ | apply below_drewN | refine Below.setCell ?_ (by simp <;> omega) _ | refine Below.alloc ?_ (by simp <;> omega) _)).trans (hb2.mono (by simp <;> omega)))
    clear hb2
    go_wp2
    go_ret
    exact ⟨rfl, hB.out⟩
  · have e : textL n d = Lib.itoa n ++ 47 :: Lib.itoa d := by simp [textL, hd]
    rw [e]
    have l1 := itoa_len n b1 b2
    have l2 := itoa_len d (by omega) b4
    have z1 : (strL (Lib.itoa n)).size ≤ 11 := by simpa [ByteArray.size] using l1
    have z2 : (strL (Lib.itoa d)).size ≤ 11 := by simpa [ByteArray.size] using l2
    have ze : strL (Lib.itoa n ++ 47 :: Lib.itoa d) = strL (Lib.itoa n) ++ strL [47] ++ strL (Lib.itoa d) := by
      apply ByteArray.ext; simp [ByteArray.data_append]
    rw [ze]
    obtain ⟨sn, hsn⟩ : ∃ s, s = strL (Lib.itoa n) := ⟨_, rfl⟩
    obtain ⟨sd, hsd⟩ : ∃ s, s = strL (Lib.itoa d) := ⟨_, rfl⟩
    rw [← hsn] at H1 z1 ⊢
    rw [← hsd] at H2 z2 ⊢
    clear ze e l1 l2 hsn hsd
    go_enter Tryz.func59, Tryz.ntmps59
    go_wp2_with fail
    have HS : TxS w.heap.size w n d (w.alloc (.cells #[.int .i64 n, .int .i64 d] 23)) := ⟨by simp [go_sem], by simp [go_sem], by simp, T0.out, by repeat (first | exact Below.refl _ _ | apply below_drewN | refine Below.setCell ?_ (by simp <;> omega) _ | refine Below.alloc ?_ (by simp <;> omega) _)⟩
    have HD := HS.drew.all
    obtain ⟨_, hc1, hc2⟩ := HS.all
    generalize (w.alloc (.cells #[.int .i64 n, .int .i64 d] 23)) = W at *
    have y1 : ¬ 9223372036854775807 < sn.size + 1 := by omega
    have y2 : ¬ 9223372036854775807 < sn.size + 1 + sd.size := by omega
    go_region_held3 (fun W' => TxS w.heap.size w n d W' ∧ W'.cell? ⟨w.heap.size, 0, none⟩ = some (.int .i64 n) ∧ W'.cell? ⟨w.heap.size, 1, none⟩ = some (.int .i64 d))
      (first | (with_reducible assumption) | (refine TxS.all ?_; with_reducible assumption) | (refine TxS.allX ?_; with_reducible assumption))
      (first
        | (go_at_call_of 71 (Value.int .i64 n); refine (H1.out _ (TxS.tb (And.left (by assumption)))).mono ?_; rintro e w' ⟨rfl, hb⟩; have hS' := TxS.call hb (And.left (by assumption)))
        | (go_at_call_of 71 (Value.int .i64 d); refine (H2.out _ (TxS.tb (And.left (by assumption)))).mono ?_; rintro e w' ⟨rfl, hb⟩; have hS' := TxS.call hb (And.left (by assumption))))
    all_goals
      (try simp only [Exit.inBlock, Exit.then])
      go_wp2
      go_ret
      exact ⟨rfl, TxS.bl (by assumption)⟩
/-- Text: a string and an error. -/
def txQ (n d : Int) : ByteArray := if validQ n d then strL (textL n d) else ByteArray.empty
def txC (n d : Int) : Int := if validQ n d then 0 else 1
theorem closText_any (b1 : Nat) (n1 d1 : Int) (w : World) (h1 : Cap w b1 n1 d1) (i1 : I64 n1) (i2 : I64 d1) (ht : Tb w) :
    Calls Tryz.prog 58 #[.pointer (some ⟨b1, 0, none⟩)] w (Gives (.string ByteArray.empty) w (.string (txQ n1 d1)) (txC n1 d1)) := by
  have k1 := h1
  obtain ⟨z1, z2, z3⟩ := h1
  go_enter Tryz.func58, Tryz.ntmps58
  go_wp2_with fail
  refine (require1_any _ n1 d1 _ i1 i2 (by simp) (by simp [go_sem]) (by simp [go_sem])).mono ?_
  rintro e w2 ⟨hcase, hb⟩
  have hbb : Below w.heap.size w w2 := ((Below.refl _ _).alloc (Nat.le_refl _) _).trans (hb.mono (by simp <;> omega))
  have hB := Bx.mk hbb
  have k1 := k1.keep hbb
  have T := Bx.mk (ht.keep hbb)
  clear hb hbb
  rcases hcase with ⟨hok, rfl⟩ | ⟨hok, rfl⟩
  · have B1 := validQ_bd _ _ hok
    have HO := Bx.mk (fun w ht => text_any n1 d1 w B1 ht)
    have e1 : txQ n1 d1 = strL (textL n1 d1) := by simp [txQ, hok]
    have e2 : txC n1 d1 = 0 := by simp [txC, hok]
    have E1 := Bx.mk e1
    have E2 := Bx.mk e2
    clear e1 e2
    obtain ⟨y0, y1, y2⟩ := k1
    clear hok B1 i1 i2 z1 z2 z3
    go_wp2_with fail
    refine (HO.out _ T.out).mono ?_
    rintro e w3 ⟨rfl, hb3⟩
    have hB4 := Bx.mk (hB.out.trans (hb3.mono hB.out.size))
    clear hb3
    go_wp2
    go_ret
    exact ⟨.inl ⟨E2.out, by rw [E1.out]; rfl⟩, hB4.out⟩
  · have e1 : txQ n1 d1 = ByteArray.empty := by simp [txQ, hok]
    have e2 : txC n1 d1 = 1 := by simp [txC, hok]
    exact ⟨rfl, .inr ⟨by rw [e2]; decide, by rw [e1], by rw [e2]⟩, hB.out⟩
end Go.Proofs.YthfpkjeobdajiabGreatDoor
