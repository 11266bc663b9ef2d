/- pitch.readTerm. -/
import Derived.Test.YtdlfnonlalkjdaaGreatDoorP16
namespace Go.Proofs.YtdlfnonlalkjdaaGreatDoor
open Go.RowKit M
open Go.Lib (itoa)
def dig : List UInt8 := [48, 49, 50, 51, 52, 53, 54, 55, 56, 57]
def hdS (cs l : List UInt8) : List UInt8 := l.takeWhile (cs.contains ·)
def tlS (cs l : List UInt8) : List UInt8 := l.dropWhile (cs.contains ·)
theorem tlS_len (cs l : List UInt8) : (tlS cs l).length ≤ l.length := (List.dropWhile_sublist _).length_le
theorem hdS_len (cs l : List UInt8) : (hdS cs l).length ≤ l.length := (List.takeWhile_sublist _).length_le
theorem ht_len (cs l : List UInt8) : (hdS cs l).length + (tlS cs l).length = l.length := by
  unfold hdS tlS; rw [← List.length_append, List.takeWhile_append_dropWhile]
/-- What readTerm reads: the index of the prime, the exponent, what is left. -/
def rtN (i : Int) (l2 : List UInt8) : Int × Int × List UInt8 :=
  if hdS [47] (tlS dig (tlS [45] l2)) = [] then (i, numF (hdS [45] l2 ++ hdS dig (tlS [45] l2)) * 12, tlS [47] (tlS dig (tlS [45] l2)))
  else if numF (hdS dig (tlS [47] (tlS dig (tlS [45] l2)))) = 0 then (-1, 0, tlS dig (tlS [47] (tlS dig (tlS [45] l2))))
  else (i, (numF (hdS [45] l2 ++ hdS dig (tlS [45] l2)) * 12).tdiv (numF (hdS dig (tlS [47] (tlS dig (tlS [45] l2))))), tlS dig (tlS [47] (tlS dig (tlS [45] l2))))
def rtF (l : List UInt8) : Int × Int × List UInt8 :=
  if hdS [94] (tlS dig l) = [] then (indexF (hdS dig l), 12, tlS [94] (tlS dig l)) else rtN (indexF (hdS dig l)) (tlS [94] (tlS dig l))
theorem Gv.grow {w w' : World} {b : Nat} (h : Gv w) (hb : 6 + 1 ≤ b) (hg : w.grownBy w' (some b)) : Gv w' := by
  have hk : ∀ k, k < 6 + 1 → k < w.heap.size → w'.heap[k]? = w.heap[k]? := fun k hk hs => hg.block k hs (by simp; omega)
  have hlt : 0 < w.heap.size := h.pm.lt
  have c0 : ∀ o, w'.cell? ⟨0, o, none⟩ = w.cell? ⟨0, o, none⟩ := fun o => World.cell?_of_block (hk 0 (by omega) hlt)
  have var : ∀ name g cs, Tryz.prog.globalNamed name = some g → g < 6 + 1 → w.var? Tryz.prog name = some cs → w'.var? Tryz.prog name = some cs := by
    intro name g cs hgn hlt h
    unfold World.var? at h ⊢
    rw [hgn] at h ⊢
    simp only [Option.bind_some] at h ⊢
    have hl : g < w.heap.size := by
      rcases Nat.lt_or_ge g w.heap.size with h' | h'
      · exact h'
      · rw [Array.getElem?_eq_none h'] at h; cases h
    rw [hk g hlt hl]; exact h
  refine ⟨⟨Nat.lt_of_lt_of_le hlt hg.size, (c0 0).trans h.pm.c0, (c0 1).trans h.pm.c1, (c0 2).trans h.pm.c2, (c0 3).trans h.pm.c3, (c0 4).trans h.pm.c4, (c0 5).trans h.pm.c5⟩, ?_, ?_⟩
  · exact var _ 4 _ (by kernel_rfl) (by omega) h.tb
  · obtain ⟨⟨t1, p1, h1⟩, t2, p2, h2⟩ := h.ev
    exact ⟨⟨t1, p1, var _ 5 _ (by kernel_rfl) (by omega) h1⟩, t2, p2, var _ 6 _ (by kernel_rfl) (by omega) h2⟩
/-- What is kept while a string is read: the box of the rest, all else, the tables. -/
structure RdS (b : Nat) (w0 : World) (l : List UInt8) (w : World) : Prop where
  rest : Rest b w0 w l
  gv : Gv w
  len : l.length ≤ 281474976710656
  b10 : 6 + 1 ≤ b
theorem RdS.take {b : Nat} {w0 w : World} {l : List UInt8} (cs : List UInt8) (hcs : cs.length ≤ 10) (hascii : ∀ b ∈ cs, b.toNat < 128) (h : RdS b w0 l w) :
    Calls Tryz.prog 59 #[.string (strL cs), .pointer (some ⟨b, 0, none⟩)] w fun e w' => e = .returned (.string (strL (hdS cs l))) ∧ RdS b w0 (tlS cs l) w' :=
  (take_any cs hcs hascii b l w h.len h.rest.box).mono fun _ _ ⟨he, hr⟩ => ⟨he, ⟨hr.box, grown_trans h.rest.grow hr.grow⟩, h.gv.grow h.b10 hr.grow, Nat.le_trans (tlS_len _ _) h.len, h.b10⟩
theorem RdS.keep {b : Nat} {w0 w w' : World} {l : List UInt8} (h : RdS b w0 l w) (hb : Below w.heap.size w w') : RdS b w0 l w' :=
  ⟨⟨(hb.block _ h.rest.box.lt).trans h.rest.box, grown_trans h.rest.grow (grown_below hb)⟩, h.gv.keep hb, h.len, h.b10⟩
theorem RdS.index {b : Nat} {w0 w : World} {l : List UInt8} (m : List UInt8) (h : RdS b w0 l w) : Calls Tryz.prog 82 #[.string (strL m)] w fun e w' => e = .returned (.int .i64 (indexF m)) ∧ RdS b w0 l w' :=
  (index_any m w h.gv).mono fun _ _ ⟨he, hb⟩ => ⟨he, h.keep hb⟩
theorem RdS.number {b : Nat} {w0 w : World} {l : List UInt8} (m : List UInt8) (hm : m.length ≤ 281474976710656) (h : RdS b w0 l w) : Calls Tryz.prog 83 #[.string (strL m)] w fun e w' => e = .returned (.int .i64 (numF m)) ∧ RdS b w0 l w' :=
  (number_any m w hm h.gv.ev).mono fun _ _ ⟨he, hb⟩ => ⟨he, h.keep hb⟩
theorem RdS.drew {b : Nat} {w0 w : World} {l : List UInt8} (h : RdS b w0 l w) : RdS b w0 l w.drew := h.keep (Below.refl _ _).drew
theorem dig_ok : dig.length ≤ 10 ∧ ∀ b ∈ dig, b.toNat < 128 := by decide
theorem c94_ok : [94].length ≤ 10 ∧ ∀ b ∈ ([94] : List UInt8), b.toNat < 128 := by decide
theorem c45_ok : [45].length ≤ 10 ∧ ∀ b ∈ ([45] : List UInt8), b.toNat < 128 := by decide
theorem c47_ok : [47].length ≤ 10 ∧ ∀ b ∈ ([47] : List UInt8), b.toNat < 128 := by decide
theorem c42_ok : [42].length ≤ 10 ∧ ∀ b ∈ ([42] : List UInt8), b.toNat < 128 := by decide
theorem tdiv_bd (x d : Int) : (x.tdiv d).natAbs ≤ x.natAbs := by
  rw [Int.natAbs_tdiv]; exact Nat.div_le_self _ _
def OutRt (b : Nat) (w0 : World) (r : Int × Int × List UInt8) (e : Ending) (w' : World) : Prop := e = .returned (.tuple #[.int .i64 r.1, .int .i64 r.2.1]) ∧ RdS b w0 r.2.2 w'
set_option maxHeartbeats 1000000 in
theorem readTerm_any (b : Nat) (l : List UInt8) (w0 w : World) (h0 : RdS b w0 l w) (r : Int × Int × List UInt8) (hr : rtF l = r) :
    Calls Tryz.prog 61 #[.func (.func 59) #[] #[.pointer (some ⟨b, 0, none⟩)]] w (OutRt b w0 r) := by
  have S := Hx.mk h0
  have HR0 := Hx.mk hr
  clear h0 hr
  go_enter Tryz.func61, Tryz.ntmps61
  go_wp2_with fail
  refine (S.out.take dig dig_ok.1 dig_ok.2).mono ?_
  rintro e w1 ⟨rfl, hS⟩
  have S := Hx.mk hS
  clear hS
  go_wp2_with fail
  refine (S.out.index _).mono ?_
  rintro e w2 ⟨rfl, hS⟩
  have S := Hx.mk hS
  clear hS
  go_wp2_with fail
  refine (S.out.take [94] c94_ok.1 c94_ok.2).mono ?_
  rintro e w3 ⟨rfl, hS⟩
  have S := Hx.mk hS
  clear hS
  by_cases h1 : hdS [94] (tlS dig l) = []
  · have HR := Hx.mk (show r = (indexF (hdS dig l), 12, tlS [94] (tlS dig l)) by rw [← HR0.out, rtF, if_pos h1])
    clear HR0
    go_wp2
    go_quiet (fail)
    go_wp2
    go_ret2
    rw [HR.out]
    exact ⟨rfl, S.out.keep (below_drewN (Below.refl _ _) _)⟩
  · have HR := Hx.mk (show r = rtN (indexF (hdS dig l)) (tlS [94] (tlS dig l)) by rw [← HR0.out, rtF, if_neg h1])
    clear HR0
    unfold rtN at HR
    have hl2 := S.out.len
    obtain ⟨c, hc⟩ : ∃ c, hdS [94] (tlS dig l) = c := ⟨_, rfl⟩
    rw [hc] at h1
    simp only [hc]
    obtain ⟨i, hi⟩ : ∃ i, indexF (hdS dig l) = i := ⟨_, rfl⟩
    obtain ⟨l2, hl⟩ : ∃ m, tlS [94] (tlS dig l) = m := ⟨_, rfl⟩
    simp only [hi, hl] at HR S hl2 ⊢
    have e1 : (c == []) = false := beq_eq_false_iff_ne.2 h1
    have e2 : (c != []) = true := by rw [bne_iff_ne]; exact h1
    have e3 : c.isEmpty = false := by cases c <;> simp_all
    clear h1 hc hi hl
    go_wp2_with fail
    refine (S.out.take [45] c45_ok.1 c45_ok.2).mono ?_
    rintro e w4 ⟨rfl, hS⟩
    have S := Hx.mk hS
    clear hS
    go_wp2_with fail
    refine (S.out.take dig dig_ok.1 dig_ok.2).mono ?_
    rintro e w5 ⟨rfl, hS⟩
    have S := Hx.mk hS
    clear hS
    have hz1 := hdS_len [45] l2
    have hz2 := hdS_len dig (tlS [45] l2)
    have hz3 := tlS_len [45] l2
    have hz4 := strL_len (hdS [45] l2)
    have hz5 := strL_len (hdS dig (tlS [45] l2))
    have Y1 := Hx.mk (show ¬ 9223372036854775807 < (strL (hdS [45] l2)).size + (strL (hdS dig (tlS [45] l2))).size by omega)
    have HL := Hx.mk (show (hdS [45] l2 ++ hdS dig (tlS [45] l2)).length ≤ 281474976710656 by
      rw [List.length_append]; have := ht_len [45] l2; omega)
    have HA := Hx.mk (strL_append (hdS [45] l2) (hdS dig (tlS [45] l2)))
    clear hz1 hz2 hz3 hz4 hz5
    have y1 := Y1.out
    go_wp2_with fail
    clear y1
    rw [HA.out]
    refine (S.out.number _ HL.out).mono ?_
    rintro e w6 ⟨rfl, hS⟩
    have S := Hx.mk hS
    clear hS
    have hn := numF_bd (hdS [45] l2 ++ hdS dig (tlS [45] l2))
    obtain ⟨n, hnn⟩ : ∃ n, numF (hdS [45] l2 ++ hdS dig (tlS [45] l2)) = n := ⟨_, rfl⟩
    simp only [hnn] at hn HR ⊢
    obtain ⟨hn1, hn2⟩ := hn
    clear hnn HL HA Y1
    go_wp2_with fail
    refine (S.out.take [47] c47_ok.1 c47_ok.2).mono ?_
    rintro e w7 ⟨rfl, hS⟩
    have S := Hx.mk hS
    clear hS
    obtain ⟨l4, hl4⟩ : ∃ m, tlS dig (tlS [45] l2) = m := ⟨_, rfl⟩
    simp only [hl4] at S HR ⊢
    clear hl4
    by_cases h2 : hdS [47] l4 = []
    · rw [if_pos h2] at HR
      go_wp2
      go_quiet (fail)
      go_wp2
      go_ret2
      rw [HR.out]
      exact ⟨rfl, S.out.keep (below_drewN (Below.refl _ _) _)⟩
    · rw [if_neg h2] at HR
      obtain ⟨c2, hc2⟩ : ∃ c, hdS [47] l4 = c := ⟨_, rfl⟩
      rw [hc2] at h2
      simp only [hc2]
      have e4 : (c2 == []) = false := beq_eq_false_iff_ne.2 h2
      have e5 : (c2 != []) = true := by rw [bne_iff_ne]; exact h2
      have e6 : c2.isEmpty = false := by cases c2 <;> simp_all
      clear h2 hc2
      go_wp2_with fail
      refine (S.out.take dig dig_ok.1 dig_ok.2).mono ?_
      rintro e w8 ⟨rfl, hS⟩
      have HL := Hx.mk (Nat.le_trans (hdS_len dig (tlS [47] l4)) S.out.len)
      have S := Hx.mk hS
      clear hS
      go_wp2_with fail
      refine (S.out.number _ HL.out).mono ?_
      rintro e w9 ⟨rfl, hS⟩
      have S := Hx.mk hS
      clear hS HL
      have hd := numF_bd (hdS dig (tlS [47] l4))
      obtain ⟨d, hdd⟩ : ∃ d, numF (hdS dig (tlS [47] l4)) = d := ⟨_, rfl⟩
      simp only [hdd] at hd HR ⊢
      obtain ⟨hd1, hd2⟩ := hd
      clear hdd
      by_cases h3 : d = 0
      · rw [if_pos h3] at HR
        subst h3
        go_wp2
        go_ret2
        rw [HR.out]
        exact ⟨rfl, S.out⟩
      · rw [if_neg h3] at HR
        have e7 : (d == 0) = false := beq_eq_false_iff_ne.2 h3
        have hqb := tdiv_bd (n * 12) d
        obtain ⟨q, hq⟩ : ∃ q, (n * 12).tdiv d = q := ⟨_, rfl⟩
        rw [hq] at hqb HR
        have hq1 : -6912 ≤ q := by omega
        have hq2 : q ≤ 6912 := by omega
        have h3' : ¬ d = 0 := h3
        clear hqb h3
        go_wp2
        go_quiet (fail)
        go_wp2
        go_ret2
        rw [HR.out]
        exact ⟨rfl, S.out.keep (below_drewN (Below.refl _ _) _)⟩
end Go.Proofs.YtdlfnonlalkjdaaGreatDoor
