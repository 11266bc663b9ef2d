/- RationalText, walked. -/
import Derived.Test.YtmonobebmbackaaDoorR17
namespace Go.Proofs.YtmonobebmbackaaDoor
open Go.RowKit M
theorem text_ok (n d : Int) (w : World) (i1 : I64 n) (i2 : I64 d) (ht : Tb w) (h : validQ n d = true) : Calls Tryd.prog 23 #[RV n d] w fun e w' => e = .returned (.tuple #[.string (strL (textL n d)), .int .i64 0]) ∧ Below w.heap.size w w' := by
  have := textF_any n d w i1 i2 ht
  have e1 : txQ n d = strL (textL n d) := by simp [txQ, h]
  have e2 : txC n d = 0 := by simp [txC, h]
  rw [e1, e2] at this; exact this
theorem text_no (n d : Int) (w : World) (i1 : I64 n) (i2 : I64 d) (ht : Tb w) (h : validQ n d = false) : Calls Tryd.prog 23 #[RV n d] w fun e w' => e = .returned (.tuple #[.string ByteArray.empty, .int .i64 1]) ∧ Below w.heap.size w w' := by
  have := textF_any n d w i1 i2 ht
  have e1 : txQ n d = ByteArray.empty := by simp [txQ, h]
  have e2 : txC n d = 1 := by simp [txC, h]
  rw [e1, e2] at this; exact this
theorem parse_v (s : ByteArray) (n d e : Int) (w : World) (hs : s.size ≤ 281474976710656) (ht : Tv w) (h : readQ s.data.toList = ⟨n, d, e⟩) : Calls Tryd.prog 24 #[.string s] w fun e' w' => e' = .returned (.tuple #[RV n d, .int .i64 e]) ∧ Below w.heap.size w w' := by
  have := parse_any s w hs ht
  rw [h] at this; exact this
theorem textL_size (n d : Int) (h : validQ n d = true) : (strL (textL n d)).size ≤ 281474976710656 := by
  have b := validQ_bd _ _ h
  have h1 := b.lo
  have h2 := b.hi
  have h3 := b.pos
  have h4 := b.top
  have l1 := itoa_len n h1 h2
  have l2 := itoa_len d (by omega) h4
  have e := strL_size (textL n d)
  have hl : (textL n d).length ≤ 23 := by
    unfold textL
    split
    · omega
    · rw [List.length_append, List.length_cons]; omega
  omega
set_option maxHeartbeats 4000000 in
theorem text_vo (a1 a2 : Int) (s : ByteArray) (w : World) (tv : Tv w) (i1 : I64 a1) (i2 : I64 a2) (Hs : Bx (s.size ≤ 281474976710656)) (hv : validQ a1 a2 = true) (n d : Int) (hq : readQ s.data.toList = ⟨n, d, 0⟩) :
    Calls Tryd.prog 9 #[RV a1 a2, .string s] w fun e w' => e = .returned (.bool true) ∧ Below w.heap.size w w' := by
  have Hq := Bx.mk hq
  have Ht := Bx.mk (textL_size a1 a2 hv)
  have HR := Bx.mk (show readQ (strL (textL a1 a2)).data.toList = ⟨a1, a2, 0⟩ from readQ_text a1 a2 hv)
  obtain ⟨hn, hl⟩ := readQ_ok hq
  have bn := validQ_bd _ _ hn
  have j1 : I64 n := ⟨by have := bn.lo; omega, by have := bn.hi; omega⟩
  have j2 : I64 d := ⟨by have := bn.pos; omega, by have := bn.top; omega⟩
  have hsl : strL (textL n d) = s := by rw [hl]
  have HT : Bx (∀ w, Tb w → Calls Tryd.prog 23 #[RV n d] w fun e w' => e = .returned (.tuple #[.string s, .int .i64 0]) ∧ Below w.heap.size w w') := ⟨fun w h => by have := text_ok n d w j1 j2 h hn; rw [hsl] at this; exact this⟩
  clear hn hl bn hsl
  clear hq
  have ht := tv.tb
  have T := Bx.mk (tv.keep ((Below.refl _ _).alloc (Nat.le_refl _) (.cells #[.int .i64 a1, .int .i64 a2] 25)))
  have S : Bx (St w (w.alloc (.cells #[.int .i64 a1, .int .i64 a2] 25)) [(w.heap.size, a1, a2)]) := ⟨start1 w ht a1 a2⟩
  go_enter Tryd.func9, Tryd.ntmps9
  go_wp2_with fail
  refine (head_any _ S.out.tb).mono ?_
  rintro e w1 ⟨rfl, hb⟩
  have S := Bx.mk (S.out.call hb)
  have T := Bx.mk (T.out.keep hb)
  clear hb
  obtain ⟨l0, p0, r0⟩ := S.out.caps (w.heap.size, a1, a2) (by simp)
  go_wp2_with fail
  refine (text_ok a1 a2 _ i1 i2 S.out.tb hv).mono ?_
  rintro e w2 ⟨rfl, hb⟩
  have S := Bx.mk (S.out.call hb)
  have T := Bx.mk (T.out.keep hb)
  clear hb
  clear l0 p0 r0
  obtain ⟨l0, p0, r0⟩ := S.out.caps (w.heap.size, a1, a2) (by simp)
  go_wp2_with fail
  refine (parse_v _ a1 a2 0 _ Ht.out T.out HR.out).mono ?_
  rintro e w3 ⟨rfl, hb⟩
  have S := Bx.mk (S.out.call hb)
  have T := Bx.mk (T.out.keep hb)
  clear hb
  clear l0 p0 r0
  obtain ⟨l0, p0, r0⟩ := S.out.caps (w.heap.size, a1, a2) (by simp)
  have S := Bx.mk (S.out.push a1 a2)
  have T := Bx.mk (T.out.keep ((Below.refl _ _).alloc (Nat.le_refl _) (.cells #[.int .i64 a1, .int .i64 a2] 25)))
  go_wp2_with fail
  refine (parse_v s n d 0 _ Hs.out T.out Hq.out).mono ?_
  rintro e w4 ⟨rfl, hb⟩
  have S := Bx.mk (S.out.call hb)
  have T := Bx.mk (T.out.keep hb)
  clear hb
  clear l0 p0 r0
  obtain ⟨l0, p0, r0⟩ := S.out.caps (w3.heap.size, a1, a2) (by simp)
  obtain ⟨l1, p1, r1⟩ := S.out.caps (w.heap.size, a1, a2) (by simp)
  have S := Bx.mk (S.out.push n d)
  have T := Bx.mk (T.out.keep ((Below.refl _ _).alloc (Nat.le_refl _) (.cells #[.int .i64 n, .int .i64 d] 25)))
  go_wp2_with fail
  refine (HT.out _ S.out.tb).mono ?_
  rintro e w5 ⟨rfl, hb⟩
  have S := Bx.mk (S.out.call hb)
  have T := Bx.mk (T.out.keep hb)
  clear hb
  clear l0 p0 r0 l1 p1 r1
  obtain ⟨l0, p0, r0⟩ := S.out.caps (w4.heap.size, n, d) (by simp)
  obtain ⟨l1, p1, r1⟩ := S.out.caps (w3.heap.size, a1, a2) (by simp)
  obtain ⟨l2, p2, r2⟩ := S.out.caps (w.heap.size, a1, a2) (by simp)
  go_wp2_with fail
  go_ret
  exact ⟨rfl, S.out.bl⟩
set_option maxHeartbeats 4000000 in
theorem text_ve (a1 a2 : Int) (s : ByteArray) (w : World) (tv : Tv w) (i1 : I64 a1) (i2 : I64 a2) (Hs : Bx (s.size ≤ 281474976710656)) (hv : validQ a1 a2 = true) (hq : readQ s.data.toList = ⟨0, 0, 8⟩) :
    Calls Tryd.prog 9 #[RV a1 a2, .string s] w fun e w' => e = .returned (.bool true) ∧ Below w.heap.size w w' := by
  have Hq := Bx.mk hq
  have Ht := Bx.mk (textL_size a1 a2 hv)
  have HR := Bx.mk (show readQ (strL (textL a1 a2)).data.toList = ⟨a1, a2, 0⟩ from readQ_text a1 a2 hv)
  clear hq
  have ht := tv.tb
  have T := Bx.mk (tv.keep ((Below.refl _ _).alloc (Nat.le_refl _) (.cells #[.int .i64 a1, .int .i64 a2] 25)))
  have S : Bx (St w (w.alloc (.cells #[.int .i64 a1, .int .i64 a2] 25)) [(w.heap.size, a1, a2)]) := ⟨start1 w ht a1 a2⟩
  go_enter Tryd.func9, Tryd.ntmps9
  go_wp2_with fail
  refine (head_any _ S.out.tb).mono ?_
  rintro e w1 ⟨rfl, hb⟩
  have S := Bx.mk (S.out.call hb)
  have T := Bx.mk (T.out.keep hb)
  clear hb
  obtain ⟨l0, p0, r0⟩ := S.out.caps (w.heap.size, a1, a2) (by simp)
  go_wp2_with fail
  refine (text_ok a1 a2 _ i1 i2 S.out.tb hv).mono ?_
  rintro e w2 ⟨rfl, hb⟩
  have S := Bx.mk (S.out.call hb)
  have T := Bx.mk (T.out.keep hb)
  clear hb
  clear l0 p0 r0
  obtain ⟨l0, p0, r0⟩ := S.out.caps (w.heap.size, a1, a2) (by simp)
  go_wp2_with fail
  refine (parse_v _ a1 a2 0 _ Ht.out T.out HR.out).mono ?_
  rintro e w3 ⟨rfl, hb⟩
  have S := Bx.mk (S.out.call hb)
  have T := Bx.mk (T.out.keep hb)
  clear hb
  clear l0 p0 r0
  obtain ⟨l0, p0, r0⟩ := S.out.caps (w.heap.size, a1, a2) (by simp)
  have S := Bx.mk (S.out.push a1 a2)
  have T := Bx.mk (T.out.keep ((Below.refl _ _).alloc (Nat.le_refl _) (.cells #[.int .i64 a1, .int .i64 a2] 25)))
  go_wp2_with fail
  refine (parse_v s 0 0 8 _ Hs.out T.out Hq.out).mono ?_
  rintro e w4 ⟨rfl, hb⟩
  have S := Bx.mk (S.out.call hb)
  have T := Bx.mk (T.out.keep hb)
  clear hb
  clear l0 p0 r0
  obtain ⟨l0, p0, r0⟩ := S.out.caps (w3.heap.size, a1, a2) (by simp)
  obtain ⟨l1, p1, r1⟩ := S.out.caps (w.heap.size, a1, a2) (by simp)
  have S := Bx.mk (S.out.push 0 0)
  have T := Bx.mk (T.out.keep ((Below.refl _ _).alloc (Nat.le_refl _) (.cells #[.int .i64 0, .int .i64 0] 25)))
  go_wp2_with fail
  go_ret
  exact ⟨rfl, S.out.bl⟩
set_option maxHeartbeats 4000000 in
theorem text_no' (a1 a2 : Int) (s : ByteArray) (w : World) (tv : Tv w) (i1 : I64 a1) (i2 : I64 a2) (Hs : Bx (s.size ≤ 281474976710656)) (hv : validQ a1 a2 = false) (n d : Int) (hq : readQ s.data.toList = ⟨n, d, 0⟩) :
    Calls Tryd.prog 9 #[RV a1 a2, .string s] w fun e w' => e = .returned (.bool true) ∧ Below w.heap.size w w' := by
  have Hq := Bx.mk hq
  obtain ⟨hn, hl⟩ := readQ_ok hq
  have bn := validQ_bd _ _ hn
  have j1 : I64 n := ⟨by have := bn.lo; omega, by have := bn.hi; omega⟩
  have j2 : I64 d := ⟨by have := bn.pos; omega, by have := bn.top; omega⟩
  have hsl : strL (textL n d) = s := by rw [hl]
  have HT : Bx (∀ w, Tb w → Calls Tryd.prog 23 #[RV n d] w fun e w' => e = .returned (.tuple #[.string s, .int .i64 0]) ∧ Below w.heap.size w w') := ⟨fun w h => by have := text_ok n d w j1 j2 h hn; rw [hsl] at this; exact this⟩
  clear hn hl bn hsl
  clear hq
  have ht := tv.tb
  have T := Bx.mk (tv.keep ((Below.refl _ _).alloc (Nat.le_refl _) (.cells #[.int .i64 a1, .int .i64 a2] 25)))
  have S : Bx (St w (w.alloc (.cells #[.int .i64 a1, .int .i64 a2] 25)) [(w.heap.size, a1, a2)]) := ⟨start1 w ht a1 a2⟩
  go_enter Tryd.func9, Tryd.ntmps9
  go_wp2_with fail
  refine (head_any _ S.out.tb).mono ?_
  rintro e w1 ⟨rfl, hb⟩
  have S := Bx.mk (S.out.call hb)
  have T := Bx.mk (T.out.keep hb)
  clear hb
  obtain ⟨l0, p0, r0⟩ := S.out.caps (w.heap.size, a1, a2) (by simp)
  go_wp2_with fail
  refine (text_no a1 a2 _ i1 i2 S.out.tb hv).mono ?_
  rintro e w2 ⟨rfl, hb⟩
  have S := Bx.mk (S.out.call hb)
  have T := Bx.mk (T.out.keep hb)
  clear hb
  clear l0 p0 r0
  obtain ⟨l0, p0, r0⟩ := S.out.caps (w.heap.size, a1, a2) (by simp)
  go_wp2_with fail
  refine (parse_v s n d 0 _ Hs.out T.out Hq.out).mono ?_
  rintro e w3 ⟨rfl, hb⟩
  have S := Bx.mk (S.out.call hb)
  have T := Bx.mk (T.out.keep hb)
  clear hb
  clear l0 p0 r0
  obtain ⟨l0, p0, r0⟩ := S.out.caps (w.heap.size, a1, a2) (by simp)
  have S := Bx.mk (S.out.push n d)
  have T := Bx.mk (T.out.keep ((Below.refl _ _).alloc (Nat.le_refl _) (.cells #[.int .i64 n, .int .i64 d] 25)))
  go_wp2_with fail
  refine (HT.out _ S.out.tb).mono ?_
  rintro e w4 ⟨rfl, hb⟩
  have S := Bx.mk (S.out.call hb)
  have T := Bx.mk (T.out.keep hb)
  clear hb
  clear l0 p0 r0
  obtain ⟨l0, p0, r0⟩ := S.out.caps (w3.heap.size, n, d) (by simp)
  obtain ⟨l1, p1, r1⟩ := S.out.caps (w.heap.size, a1, a2) (by simp)
  go_wp2_with fail
  go_ret
  exact ⟨rfl, S.out.bl⟩
set_option maxHeartbeats 4000000 in
theorem text_ne (a1 a2 : Int) (s : ByteArray) (w : World) (tv : Tv w) (i1 : I64 a1) (i2 : I64 a2) (Hs : Bx (s.size ≤ 281474976710656)) (hv : validQ a1 a2 = false) (hq : readQ s.data.toList = ⟨0, 0, 8⟩) :
    Calls Tryd.prog 9 #[RV a1 a2, .string s] w fun e w' => e = .returned (.bool true) ∧ Below w.heap.size w w' := by
  have Hq := Bx.mk hq
  clear hq
  have ht := tv.tb
  have T := Bx.mk (tv.keep ((Below.refl _ _).alloc (Nat.le_refl _) (.cells #[.int .i64 a1, .int .i64 a2] 25)))
  have S : Bx (St w (w.alloc (.cells #[.int .i64 a1, .int .i64 a2] 25)) [(w.heap.size, a1, a2)]) := ⟨start1 w ht a1 a2⟩
  go_enter Tryd.func9, Tryd.ntmps9
  go_wp2_with fail
  refine (head_any _ S.out.tb).mono ?_
  rintro e w1 ⟨rfl, hb⟩
  have S := Bx.mk (S.out.call hb)
  have T := Bx.mk (T.out.keep hb)
  clear hb
  obtain ⟨l0, p0, r0⟩ := S.out.caps (w.heap.size, a1, a2) (by simp)
  go_wp2_with fail
  refine (text_no a1 a2 _ i1 i2 S.out.tb hv).mono ?_
  rintro e w2 ⟨rfl, hb⟩
  have S := Bx.mk (S.out.call hb)
  have T := Bx.mk (T.out.keep hb)
  clear hb
  clear l0 p0 r0
  obtain ⟨l0, p0, r0⟩ := S.out.caps (w.heap.size, a1, a2) (by simp)
  go_wp2_with fail
  refine (parse_v s 0 0 8 _ Hs.out T.out Hq.out).mono ?_
  rintro e w3 ⟨rfl, hb⟩
  have S := Bx.mk (S.out.call hb)
  have T := Bx.mk (T.out.keep hb)
  clear hb
  clear l0 p0 r0
  obtain ⟨l0, p0, r0⟩ := S.out.caps (w.heap.size, a1, a2) (by simp)
  have S := Bx.mk (S.out.push 0 0)
  have T := Bx.mk (T.out.keep ((Below.refl _ _).alloc (Nat.le_refl _) (.cells #[.int .i64 0, .int .i64 0] 25)))
  go_wp2_with fail
  go_ret
  exact ⟨rfl, S.out.bl⟩
theorem text_all (a1 a2 : Int) (s : ByteArray) (w : World) (tv : Tv w) (i1 : I64 a1) (i2 : I64 a2) (Hs : Bx (s.size ≤ 281474976710656)) :
    Calls Tryd.prog 9 #[RV a1 a2, .string s] w fun e w' => e = .returned (.bool true) ∧ Below w.heap.size w w' := by
  rcases readQ_e s.data.toList with h | h
  · have hq : readQ s.data.toList = ⟨(readQ s.data.toList).n, (readQ s.data.toList).d, 0⟩ := by
      obtain ⟨n, d, e, hh⟩ := res_mk (readQ s.data.toList)
      rw [hh] at h ⊢
      simp only at h
      rw [h]
    cases hv : validQ a1 a2 with
    | true => exact text_vo a1 a2 s w tv i1 i2 Hs hv _ _ hq
    | false => exact text_no' a1 a2 s w tv i1 i2 Hs hv _ _ hq
  · cases hv : validQ a1 a2 with
    | true => exact text_ve a1 a2 s w tv i1 i2 Hs hv h
    | false => exact text_ne a1 a2 s w tv i1 i2 Hs hv h
end Go.Proofs.YtmonobebmbackaaDoor
