/- pitch.read. -/
import Derived.Test.YtlfngdbpnhaphaaGreatDoorP17
namespace Go.Proofs.YtlfngdbpnhaphaaGreatDoor
open Go.RowKit M
open Go.Lib (itoa)
/-- What read's loop reads. -/
def rd : Nat → (Nat → Int) → Int → List UInt8 → Option (Nat → Int)
  | 0, _, _, _ => none
  | n + 1, p, last, l =>
    if (rtF l).1 ≤ last then none
    else if hdS [42] (rtF l).2.2 = [] then some (fun k : Nat => if (k : Int) = (rtF l).1 then (rtF l).2.1 else p k)
    else rd n (fun k : Nat => if (k : Int) = (rtF l).1 then (rtF l).2.1 else p k) (rtF l).1 (tlS [42] (rtF l).2.2)
def finV (l : List UInt8) : Option (Nat → Int) → (Nat → Int) × Bool
  | none => ((fun _ => 0), false)
  | some p => if bdB p 576 = true ∧ textL p = l then (p, true) else ((fun _ => 0), false)
def readV (l : List UInt8) : (Nat → Int) × Bool := if l = [49] then ((fun _ => 0), true) else finV l (rd 7 (fun _ => 0) (-1) l)
theorem indexF_bd (l : List UInt8) : -1 ≤ indexF l ∧ indexF l ≤ 5 := by
  unfold indexF; repeat' split
  all_goals omega
theorem rtF_bd (l : List UInt8) : -1 ≤ (rtF l).1 ∧ (rtF l).1 ≤ 5 ∧ -6912 ≤ (rtF l).2.1 ∧ (rtF l).2.1 ≤ 6912 := by
  have hi := indexF_bd (hdS dig l)
  unfold rtF
  split
  · exact ⟨hi.1, hi.2, by simp, by simp⟩
  · unfold rtN
    have hn := numF_bd (hdS [45] (tlS [94] (tlS dig l)) ++ hdS dig (tlS [45] (tlS [94] (tlS dig l))))
    split
    · exact ⟨hi.1, hi.2, by simp only; omega, by simp only; omega⟩
    · split
      · exact ⟨by simp, by simp, by simp, by simp⟩
      · have hq := tdiv_bd (numF (hdS [45] (tlS [94] (tlS dig l)) ++ hdS dig (tlS [45] (tlS [94] (tlS dig l)))) * 12) (numF (hdS dig (tlS [47] (tlS dig (tlS [45] (tlS [94] (tlS dig l)))))))
        exact ⟨hi.1, hi.2, by simp only; omega, by simp only; omega⟩
theorem Gv.lt8 {w : World} (h : Gv w) : 8 ≤ w.heap.size := by
  obtain ⟨t2, p2, h2⟩ := h.ev.ran
  unfold World.var? at h2
  have hgn : Tryz.prog.globalNamed "strconv.ErrRange" = some 7 := by kernel_rfl
  rw [hgn] at h2
  simp only [Option.bind_some] at h2
  rcases Nat.lt_or_ge 7 w.heap.size with h' | h'
  · omega
  · rw [Array.getElem?_eq_none h'] at h2; cases h2
/-- What read keeps. -/
structure RI (w0 : World) (l : List UInt8) (p : Nat → Int) (w : World) : Prop where
  box : Boxed w (w0.heap.size + 1) 9 (.string (strL l))
  pa : RowB w (w0.heap.size + 2) (PC p) 23
  rs : RowB w w0.heap.size (PC fun _ => 0) 23
  gv : Gv w
  bl : Below w0.heap.size w0 w
  len : l.length ≤ 281474976710656
  b8 : 8 ≤ w0.heap.size
theorem RI.rds {w0 w : World} {l : List UInt8} {p : Nat → Int} (h : RI w0 l p w) : RdS (w0.heap.size + 1) w l w :=
  ⟨⟨h.box, ⟨rfl, rfl, rfl, Nat.le_refl _, fun _ _ _ => rfl⟩⟩, h.gv, h.len, by have := h.b8; omega⟩
theorem RI.of {w0 w w' : World} {l m : List UInt8} {p : Nat → Int} (h : RI w0 l p w) (k : RdS (w0.heap.size + 1) w m w') : RI w0 m p w' :=
  ⟨k.rest.box, h.pa.kept k.rest.grow (by simp), h.rs.kept k.rest.grow (by simp), k.gv, h.bl.grown k.rest.grow h.bl.size (fun j e => by cases e; omega), k.len, h.b8⟩
theorem RI.take {w0 w : World} {l : List UInt8} {p : Nat → Int} (cs : List UInt8) (hcs : cs.length ≤ 10) (hascii : ∀ b ∈ cs, b.toNat < 128) (h : RI w0 l p w) :
    Calls Tryz.prog 79 #[.string (strL cs), .pointer (some ⟨w0.heap.size + 1, 0, none⟩)] w fun e w' => e = .returned (.string (strL (hdS cs l))) ∧ RI w0 (tlS cs l) p w' :=
  (h.rds.take cs hcs hascii).mono fun _ _ ⟨he, hr⟩ => ⟨he, h.of hr⟩
theorem RI.term {w0 w : World} {l : List UInt8} {p : Nat → Int} (h : RI w0 l p w) (r : Int × Int × List UInt8) (hr : rtF l = r) :
    Calls Tryz.prog 81 #[.func (.func 79) #[] #[.pointer (some ⟨w0.heap.size + 1, 0, none⟩)]] w fun e w' => e = .returned (.tuple #[.int .i64 r.1, .int .i64 r.2.1]) ∧ RI w0 r.2.2 p w' :=
  (readTerm_any _ l w w h.rds r hr).mono fun _ _ ⟨he, hk⟩ => ⟨he, h.of hk⟩
theorem RowB.setAt {W : World} {b : Nat} {cs : Array Value} {t : TypeId} (h : RowB W b cs t) (i : Nat) (u : Value) : RowB (W.setCell ⟨b, i, none⟩ u) b (cs.setIfInBounds i u) t := by
  exact heap_setCell_same W b i cs t u h
theorem grownBy_setCellI (W : World) (b i : Nat) (v : Value) : W.grownBy (W.setCell ⟨b, i, none⟩ v) (some b) :=
  ⟨rfl, rfl, rfl, (KeepsWalks.setCell W _ v).size, fun k _ hk => Below.heap_setCell _ _ _ k (fun e => hk (by rw [e]))⟩
theorem RI.store {w0 w : World} {l : List UInt8} {p q : Nat → Int} (h : RI w0 l p w) (i : Nat) (e : Int) (hq : PC q = (PC p).setIfInBounds i (.int .i64 e)) : RI w0 l q (w.setCell ⟨w0.heap.size + 2, i, none⟩ (.int .i64 e)) :=
  ⟨h.box.kept (grownBy_setCellI w _ i _) (by simp), by rw [hq]; exact h.pa.setAt i _, h.rs.kept (grownBy_setCellI w _ i _) (by simp),
   h.gv.grow (by have := h.b8; omega) (grownBy_setCellI w _ i _), h.bl.setCell (p := ⟨w0.heap.size + 2, i, none⟩) (by simp) _, h.len, h.b8⟩
theorem RI.later {w0 w w' : World} {l : List UInt8} {p : Nat → Int} (h : RI w0 l p w) (hb : Below w.heap.size w w') : RI w0 l p w' :=
  ⟨(hb.block _ h.box.lt).trans h.box, (hb.block _ h.pa.lt).trans h.pa, (hb.block _ h.rs.lt).trans h.rs, h.gv.keep hb, h.bl.trans (hb.mono h.bl.size), h.len, h.b8⟩
def bo : Value → Nat | .bool true => 1 | _ => 0
def OutRd (w : World) (l : List UInt8) (e : Ending) (w' : World) : Prop := e = .returned (.tuple #[PV (readV l).1, .bool (readV l).2]) ∧ Below w.heap.size w w'
set_option maxHeartbeats 4000000 in
theorem read_any (l : List UInt8) (w : World) (hg : Gv w) (hl : l.length ≤ 281474976710656) : Calls Tryz.prog 53 #[.string (strL l)] w (OutRd w l) := by
  have HG := Hx.mk hg
  have h8 := hg.lt8
  clear hg
  by_cases h1 : l = [49]
  · subst h1
    have HR := Hx.mk (show readV [49] = ((fun _ => 0), true) by simp [readV])
    go_enter Tryz.func53, Tryz.ntmps53
    go_wp2
    refine bodyPost_ret_by (v := .tuple #[PV fun _ => 0, .bool true]) (by simp [results, Tryz.results53, go_sem]) rfl ?_
    unfold OutRd
    rw [HR.out]
    exact ⟨rfl, (Below.refl _ _).alloc (Nat.le_refl _) _⟩
  · have hq : (l == [49]) = false := beq_eq_false_iff_ne.2 h1
    obtain ⟨R, hR⟩ : ∃ R, rd 7 (fun _ => 0) (-1) l = R := ⟨_, rfl⟩
    have HV := Hx.mk (show readV l = finV l R by rw [readV, if_neg h1, hR])
    have HR := Hx.mk hR
    have HI : RI w l (fun _ => 0) (((w.alloc (.cells (PC fun _ => 0) 23)).alloc (.cells #[.string (strL l)] 9)).alloc (.cells (PC fun _ => 0) 23)) :=
      ⟨by have := (Boxed.new (w.alloc (.cells (PC fun _ => 0) 23)) 9 (.string (strL l))).alloc (.cells (PC fun _ => 0) 23); simpa using this,
       by have := World.alloc_heap_new ((w.alloc (.cells (PC fun _ => 0) 23)).alloc (.cells #[.string (strL l)] 9)) (.cells (PC fun _ => 0) 23); simpa [RowB] using this,
       by have := World.alloc_heap_new w (.cells (PC fun _ => 0) 23); exact RowB.alloc (RowB.alloc this _) _,
       HG.out.keep (by repeat (first | exact Below.refl _ _ | refine Below.alloc ?_ (by simp <;> omega) _)),
       (((Below.refl _ _).alloc (Nat.le_refl _) _).alloc (by simp) _).alloc (by simp; omega) _, hl, h8⟩
    clear h1 hR
    go_enter Tryz.func53, Tryz.ntmps53
    go_wp2
    have HI := Hx.mk HI
    go_loopw [7, 8] (fun s7 s8 wr => ∃ (p : Nat → Int) (last : Int) (m : List UInt8) (b : Bool) (n : Nat), s7 = .int .i64 last ∧ s8 = .bool b ∧ -1 ≤ last ∧ last ≤ 5 ∧ (6 - last).toNat ≤ n ∧ Hx (RI w m p wr) ∧ Hx (if b = true then rd n p last m = R else R = some p)) (fun s7 s8 _ => bo s8 * (10 + (6 - intOf s7).toNat))
    case atStart => exact ⟨fun _ => 0, -1, l, true, 7, rfl, rfl, by omega, by omega, by omega, HI, ⟨HR.out⟩⟩
    case round =>
      clear HI
      obtain ⟨p, last, m, b, n, rfl, rfl, hl0, hl1, hn, HI, HB⟩ := hrel
      cases b with
      | true =>
        simp only [if_true] at HB
        obtain ⟨k, rfl⟩ : ∃ k, n = k + 1 := ⟨n - 1, by omega⟩
        obtain ⟨⟨i, e, m1⟩, hr⟩ : ∃ r, rtF m = r := ⟨_, rfl⟩
        have hrb := rtF_bd m
        rw [hr] at hrb
        obtain ⟨hi0, hi1, he0, he1⟩ := hrb
        simp only at hi0 hi1 he0 he1
        have HD := Hx.mk (show R = if i ≤ last then none else if hdS [42] m1 = [] then some (fun k : Nat => if (k : Int) = i then e else p k) else rd k (fun k : Nat => if (k : Int) = i then e else p k) i (tlS [42] m1) by rw [← HB.out, rd, hr])
        have HT := Hx.mk (HI.out.term (i, e, m1) hr)
        clear hr HB HI
        go_wp2_with fail
        refine HT.out.mono ?_
        rintro e' w1 ⟨rfl, hI⟩
        have HI := Hx.mk hI
        clear hI HT
        by_cases hle : i ≤ last
        · have HE := Hx.mk (show readV l = ((fun _ => 0), false) by rw [HV.out, HD.out, if_pos hle]; rfl)
          have zc0 : w1.cell? ⟨w.heap.size, 0, none⟩ = some (.int .i64 0) := HI.out.rs.cell 0
          have zf0 : w1.frozen? ⟨w.heap.size, 0, none⟩ = false := HI.out.rs.frozen 0
          have zc1 : w1.cell? ⟨w.heap.size, 1, none⟩ = some (.int .i64 0) := HI.out.rs.cell 1
          have zf1 : w1.frozen? ⟨w.heap.size, 1, none⟩ = false := HI.out.rs.frozen 1
          have zc2 : w1.cell? ⟨w.heap.size, 2, none⟩ = some (.int .i64 0) := HI.out.rs.cell 2
          have zf2 : w1.frozen? ⟨w.heap.size, 2, none⟩ = false := HI.out.rs.frozen 2
          have zc3 : w1.cell? ⟨w.heap.size, 3, none⟩ = some (.int .i64 0) := HI.out.rs.cell 3
          have zf3 : w1.frozen? ⟨w.heap.size, 3, none⟩ = false := HI.out.rs.frozen 3
          have zc4 : w1.cell? ⟨w.heap.size, 4, none⟩ = some (.int .i64 0) := HI.out.rs.cell 4
          have zf4 : w1.frozen? ⟨w.heap.size, 4, none⟩ = false := HI.out.rs.frozen 4
          have zc5 : w1.cell? ⟨w.heap.size, 5, none⟩ = some (.int .i64 0) := HI.out.rs.cell 5
          have zf5 : w1.frozen? ⟨w.heap.size, 5, none⟩ = false := HI.out.rs.frozen 5
          go_wp2
          refine bodyPost_ret_by (v := .tuple #[PV fun _ => 0, .bool false]) (by simp [results, Tryz.results53, go_sem, zc0, zc1, zc2, zc3, zc4, zc5]) rfl ?_
          unfold OutRd
          rw [HE.out]
          have hB := HI.out.bl
          exact ⟨rfl, (by repeat (first | with_reducible exact hB | (with_reducible refine Below.setCell ?_ ?side _; case side => (first | omega | (simp <;> omega)))))⟩
        · have HD2 := Hx.mk (show R = if hdS [42] m1 = [] then some (fun k : Nat => if (k : Int) = i then e else p k) else rd k (fun k : Nat => if (k : Int) = i then e else p k) i (tlS [42] m1) by rw [HD.out, if_neg hle])
          clear HD
          have hcase : i = 0 ∨ i = 1 ∨ i = 2 ∨ i = 3 ∨ i = 4 ∨ i = 5 := by omega
          have hlt : last < i := by omega
          clear hle
          rcases hcase with rfl | rfl | rfl | rfl | rfl | rfl
          · have pc : w1.cell? ⟨w.heap.size + 1 + 1, 0, none⟩ = some (.int .i64 (p 0)) := HI.out.pa.cell 0
            have pf : w1.frozen? ⟨w.heap.size + 1 + 1, 0, none⟩ = false := HI.out.pa.frozen 0
            obtain ⟨q, hq⟩ : ∃ q : Nat → Int, q = fun k : Nat => if (k : Int) = 0 then e else p k := ⟨_, rfl⟩
            have HS := Hx.mk (HI.out.store (q := q) 0 e (by rw [hq]; simp [PC]))
            rw [← hq] at HD2
            clear HI hq
            go_wp2_with fail
            refine (HS.out.take [42] c42_ok.1 c42_ok.2).mono ?_
            rintro e' w2 ⟨rfl, hI⟩
            have HI := Hx.mk hI
            clear hI HS pc pf
            by_cases hc : hdS [42] m1 = []
            · have HF := Hx.mk (show R = some q by rw [HD2.out, if_pos hc])
              clear HD2
              go_wp2
              go_roundw
              case rel => exact ⟨q, 0, _, false, k, rfl, rfl, by omega, by omega, by omega, HI, ⟨by simp; exact HF.out⟩⟩
              case measure => simp [bo, intOf] <;> omega
            · have HF := Hx.mk (show rd k q 0 (tlS [42] m1) = R by rw [HD2.out, if_neg hc])
              obtain ⟨c, hce⟩ : ∃ c, hdS [42] m1 = c := ⟨_, rfl⟩
              rw [hce] at hc
              simp only [hce]
              have e1 : (c == []) = false := beq_eq_false_iff_ne.2 hc
              have e2 : (c != []) = true := by rw [bne_iff_ne]; exact hc
              have e3 : c.isEmpty = false := by cases c <;> simp_all
              clear hc hce HD2
              go_wp2
              go_roundw
              case rel => exact ⟨q, 0, _, true, k, rfl, rfl, by omega, by omega, by omega, HI, ⟨by simp; exact HF.out⟩⟩
              case measure => simp [bo, intOf] <;> omega
          · have pc : w1.cell? ⟨w.heap.size + 1 + 1, 1, none⟩ = some (.int .i64 (p 1)) := HI.out.pa.cell 1
            have pf : w1.frozen? ⟨w.heap.size + 1 + 1, 1, none⟩ = false := HI.out.pa.frozen 1
            obtain ⟨q, hq⟩ : ∃ q : Nat → Int, q = fun k : Nat => if (k : Int) = 1 then e else p k := ⟨_, rfl⟩
            have HS := Hx.mk (HI.out.store (q := q) 1 e (by rw [hq]; simp [PC]))
            rw [← hq] at HD2
            clear HI hq
            go_wp2_with fail
            refine (HS.out.take [42] c42_ok.1 c42_ok.2).mono ?_
            rintro e' w2 ⟨rfl, hI⟩
            have HI := Hx.mk hI
            clear hI HS pc pf
            by_cases hc : hdS [42] m1 = []
            · have HF := Hx.mk (show R = some q by rw [HD2.out, if_pos hc])
              clear HD2
              go_wp2
              go_roundw
              case rel => exact ⟨q, 1, _, false, k, rfl, rfl, by omega, by omega, by omega, HI, ⟨by simp; exact HF.out⟩⟩
              case measure => simp [bo, intOf] <;> omega
            · have HF := Hx.mk (show rd k q 1 (tlS [42] m1) = R by rw [HD2.out, if_neg hc])
              obtain ⟨c, hce⟩ : ∃ c, hdS [42] m1 = c := ⟨_, rfl⟩
              rw [hce] at hc
              simp only [hce]
              have e1 : (c == []) = false := beq_eq_false_iff_ne.2 hc
              have e2 : (c != []) = true := by rw [bne_iff_ne]; exact hc
              have e3 : c.isEmpty = false := by cases c <;> simp_all
              clear hc hce HD2
              go_wp2
              go_roundw
              case rel => exact ⟨q, 1, _, true, k, rfl, rfl, by omega, by omega, by omega, HI, ⟨by simp; exact HF.out⟩⟩
              case measure => simp [bo, intOf] <;> omega
          · have pc : w1.cell? ⟨w.heap.size + 1 + 1, 2, none⟩ = some (.int .i64 (p 2)) := HI.out.pa.cell 2
            have pf : w1.frozen? ⟨w.heap.size + 1 + 1, 2, none⟩ = false := HI.out.pa.frozen 2
            obtain ⟨q, hq⟩ : ∃ q : Nat → Int, q = fun k : Nat => if (k : Int) = 2 then e else p k := ⟨_, rfl⟩
            have HS := Hx.mk (HI.out.store (q := q) 2 e (by rw [hq]; simp [PC]))
            rw [← hq] at HD2
            clear HI hq
            go_wp2_with fail
            refine (HS.out.take [42] c42_ok.1 c42_ok.2).mono ?_
            rintro e' w2 ⟨rfl, hI⟩
            have HI := Hx.mk hI
            clear hI HS pc pf
            by_cases hc : hdS [42] m1 = []
            · have HF := Hx.mk (show R = some q by rw [HD2.out, if_pos hc])
              clear HD2
              go_wp2
              go_roundw
              case rel => exact ⟨q, 2, _, false, k, rfl, rfl, by omega, by omega, by omega, HI, ⟨by simp; exact HF.out⟩⟩
              case measure => simp [bo, intOf] <;> omega
            · have HF := Hx.mk (show rd k q 2 (tlS [42] m1) = R by rw [HD2.out, if_neg hc])
              obtain ⟨c, hce⟩ : ∃ c, hdS [42] m1 = c := ⟨_, rfl⟩
              rw [hce] at hc
              simp only [hce]
              have e1 : (c == []) = false := beq_eq_false_iff_ne.2 hc
              have e2 : (c != []) = true := by rw [bne_iff_ne]; exact hc
              have e3 : c.isEmpty = false := by cases c <;> simp_all
              clear hc hce HD2
              go_wp2
              go_roundw
              case rel => exact ⟨q, 2, _, true, k, rfl, rfl, by omega, by omega, by omega, HI, ⟨by simp; exact HF.out⟩⟩
              case measure => simp [bo, intOf] <;> omega
          · have pc : w1.cell? ⟨w.heap.size + 1 + 1, 3, none⟩ = some (.int .i64 (p 3)) := HI.out.pa.cell 3
            have pf : w1.frozen? ⟨w.heap.size + 1 + 1, 3, none⟩ = false := HI.out.pa.frozen 3
            obtain ⟨q, hq⟩ : ∃ q : Nat → Int, q = fun k : Nat => if (k : Int) = 3 then e else p k := ⟨_, rfl⟩
            have HS := Hx.mk (HI.out.store (q := q) 3 e (by rw [hq]; simp [PC]))
            rw [← hq] at HD2
            clear HI hq
            go_wp2_with fail
            refine (HS.out.take [42] c42_ok.1 c42_ok.2).mono ?_
            rintro e' w2 ⟨rfl, hI⟩
            have HI := Hx.mk hI
            clear hI HS pc pf
            by_cases hc : hdS [42] m1 = []
            · have HF := Hx.mk (show R = some q by rw [HD2.out, if_pos hc])
              clear HD2
              go_wp2
              go_roundw
              case rel => exact ⟨q, 3, _, false, k, rfl, rfl, by omega, by omega, by omega, HI, ⟨by simp; exact HF.out⟩⟩
              case measure => simp [bo, intOf] <;> omega
            · have HF := Hx.mk (show rd k q 3 (tlS [42] m1) = R by rw [HD2.out, if_neg hc])
              obtain ⟨c, hce⟩ : ∃ c, hdS [42] m1 = c := ⟨_, rfl⟩
              rw [hce] at hc
              simp only [hce]
              have e1 : (c == []) = false := beq_eq_false_iff_ne.2 hc
              have e2 : (c != []) = true := by rw [bne_iff_ne]; exact hc
              have e3 : c.isEmpty = false := by cases c <;> simp_all
              clear hc hce HD2
              go_wp2
              go_roundw
              case rel => exact ⟨q, 3, _, true, k, rfl, rfl, by omega, by omega, by omega, HI, ⟨by simp; exact HF.out⟩⟩
              case measure => simp [bo, intOf] <;> omega
          · have pc : w1.cell? ⟨w.heap.size + 1 + 1, 4, none⟩ = some (.int .i64 (p 4)) := HI.out.pa.cell 4
            have pf : w1.frozen? ⟨w.heap.size + 1 + 1, 4, none⟩ = false := HI.out.pa.frozen 4
            obtain ⟨q, hq⟩ : ∃ q : Nat → Int, q = fun k : Nat => if (k : Int) = 4 then e else p k := ⟨_, rfl⟩
            have HS := Hx.mk (HI.out.store (q := q) 4 e (by rw [hq]; simp [PC]))
            rw [← hq] at HD2
            clear HI hq
            go_wp2_with fail
            refine (HS.out.take [42] c42_ok.1 c42_ok.2).mono ?_
            rintro e' w2 ⟨rfl, hI⟩
            have HI := Hx.mk hI
            clear hI HS pc pf
            by_cases hc : hdS [42] m1 = []
            · have HF := Hx.mk (show R = some q by rw [HD2.out, if_pos hc])
              clear HD2
              go_wp2
              go_roundw
              case rel => exact ⟨q, 4, _, false, k, rfl, rfl, by omega, by omega, by omega, HI, ⟨by simp; exact HF.out⟩⟩
              case measure => simp [bo, intOf] <;> omega
            · have HF := Hx.mk (show rd k q 4 (tlS [42] m1) = R by rw [HD2.out, if_neg hc])
              obtain ⟨c, hce⟩ : ∃ c, hdS [42] m1 = c := ⟨_, rfl⟩
              rw [hce] at hc
              simp only [hce]
              have e1 : (c == []) = false := beq_eq_false_iff_ne.2 hc
              have e2 : (c != []) = true := by rw [bne_iff_ne]; exact hc
              have e3 : c.isEmpty = false := by cases c <;> simp_all
              clear hc hce HD2
              go_wp2
              go_roundw
              case rel => exact ⟨q, 4, _, true, k, rfl, rfl, by omega, by omega, by omega, HI, ⟨by simp; exact HF.out⟩⟩
              case measure => simp [bo, intOf] <;> omega
          · have pc : w1.cell? ⟨w.heap.size + 1 + 1, 5, none⟩ = some (.int .i64 (p 5)) := HI.out.pa.cell 5
            have pf : w1.frozen? ⟨w.heap.size + 1 + 1, 5, none⟩ = false := HI.out.pa.frozen 5
            obtain ⟨q, hq⟩ : ∃ q : Nat → Int, q = fun k : Nat => if (k : Int) = 5 then e else p k := ⟨_, rfl⟩
            have HS := Hx.mk (HI.out.store (q := q) 5 e (by rw [hq]; simp [PC]))
            rw [← hq] at HD2
            clear HI hq
            go_wp2_with fail
            refine (HS.out.take [42] c42_ok.1 c42_ok.2).mono ?_
            rintro e' w2 ⟨rfl, hI⟩
            have HI := Hx.mk hI
            clear hI HS pc pf
            by_cases hc : hdS [42] m1 = []
            · have HF := Hx.mk (show R = some q by rw [HD2.out, if_pos hc])
              clear HD2
              go_wp2
              go_roundw
              case rel => exact ⟨q, 5, _, false, k, rfl, rfl, by omega, by omega, by omega, HI, ⟨by simp; exact HF.out⟩⟩
              case measure => simp [bo, intOf] <;> omega
            · have HF := Hx.mk (show rd k q 5 (tlS [42] m1) = R by rw [HD2.out, if_neg hc])
              obtain ⟨c, hce⟩ : ∃ c, hdS [42] m1 = c := ⟨_, rfl⟩
              rw [hce] at hc
              simp only [hce]
              have e1 : (c == []) = false := beq_eq_false_iff_ne.2 hc
              have e2 : (c != []) = true := by rw [bne_iff_ne]; exact hc
              have e3 : c.isEmpty = false := by cases c <;> simp_all
              clear hc hce HD2
              go_wp2
              go_roundw
              case rel => exact ⟨q, 5, _, true, k, rfl, rfl, by omega, by omega, by omega, HI, ⟨by simp; exact HF.out⟩⟩
              case measure => simp [bo, intOf] <;> omega
      | false =>
        have HB2 := Hx.mk (show R = some p by have := HB.out; simpa using this)
        clear HB
        have HF := Hx.mk (show readV l = if bdB p 576 = true ∧ textL p = l then (p, true) else ((fun _ => 0), false) by rw [HV.out, HB2.out]; rfl)
        clear HB2
        have pc0 : wr.cell? ⟨w.heap.size + 1 + 1, 0, none⟩ = some (.int .i64 (p 0)) := HI.out.pa.cell 0
        have pc1 : wr.cell? ⟨w.heap.size + 1 + 1, 1, none⟩ = some (.int .i64 (p 1)) := HI.out.pa.cell 1
        have pc2 : wr.cell? ⟨w.heap.size + 1 + 1, 2, none⟩ = some (.int .i64 (p 2)) := HI.out.pa.cell 2
        have pc3 : wr.cell? ⟨w.heap.size + 1 + 1, 3, none⟩ = some (.int .i64 (p 3)) := HI.out.pa.cell 3
        have pc4 : wr.cell? ⟨w.heap.size + 1 + 1, 4, none⟩ = some (.int .i64 (p 4)) := HI.out.pa.cell 4
        have pc5 : wr.cell? ⟨w.heap.size + 1 + 1, 5, none⟩ = some (.int .i64 (p 5)) := HI.out.pa.cell 5
        by_cases hv : bdB p 576 = true
        · have HVa := Hx.mk (fun w => pvalid_any p w true hv)
          have HLm : Hx (Lim 576 p) := ⟨fun i hi => bdB_yes.1 hv i hi⟩
          go_wp2_with fail
          refine (HVa.out _).mono ?_
          rintro e' w1 ⟨rfl, hb⟩
          have HI := Hx.mk (HI.out.later hb)
          clear hb HVa pc0 pc1 pc2 pc3 pc4 pc5
          have pc0 : w1.cell? ⟨w.heap.size + 1 + 1, 0, none⟩ = some (.int .i64 (p 0)) := HI.out.pa.cell 0
          have pc1 : w1.cell? ⟨w.heap.size + 1 + 1, 1, none⟩ = some (.int .i64 (p 1)) := HI.out.pa.cell 1
          have pc2 : w1.cell? ⟨w.heap.size + 1 + 1, 2, none⟩ = some (.int .i64 (p 2)) := HI.out.pa.cell 2
          have pc3 : w1.cell? ⟨w.heap.size + 1 + 1, 3, none⟩ = some (.int .i64 (p 3)) := HI.out.pa.cell 3
          have pc4 : w1.cell? ⟨w.heap.size + 1 + 1, 4, none⟩ = some (.int .i64 (p 4)) := HI.out.pa.cell 4
          have pc5 : w1.cell? ⟨w.heap.size + 1 + 1, 5, none⟩ = some (.int .i64 (p 5)) := HI.out.pa.cell 5
          have HTx := Hx.mk (ptext_any p w1 HLm HI.out.gv.pm HI.out.gv.tb)
          go_wp2_with fail
          refine HTx.out.mono ?_
          rintro e' w2 ⟨rfl, hb⟩
          have HI := Hx.mk (HI.out.later hb)
          clear hb HTx pc0 pc1 pc2 pc3 pc4 pc5
          have pc0 : w2.cell? ⟨w.heap.size + 1 + 1, 0, none⟩ = some (.int .i64 (p 0)) := HI.out.pa.cell 0
          have pc1 : w2.cell? ⟨w.heap.size + 1 + 1, 1, none⟩ = some (.int .i64 (p 1)) := HI.out.pa.cell 1
          have pc2 : w2.cell? ⟨w.heap.size + 1 + 1, 2, none⟩ = some (.int .i64 (p 2)) := HI.out.pa.cell 2
          have pc3 : w2.cell? ⟨w.heap.size + 1 + 1, 3, none⟩ = some (.int .i64 (p 3)) := HI.out.pa.cell 3
          have pc4 : w2.cell? ⟨w.heap.size + 1 + 1, 4, none⟩ = some (.int .i64 (p 4)) := HI.out.pa.cell 4
          have pc5 : w2.cell? ⟨w.heap.size + 1 + 1, 5, none⟩ = some (.int .i64 (p 5)) := HI.out.pa.cell 5
          have zc0 : w2.cell? ⟨w.heap.size, 0, none⟩ = some (.int .i64 0) := HI.out.rs.cell 0
          have zf0 : w2.frozen? ⟨w.heap.size, 0, none⟩ = false := HI.out.rs.frozen 0
          have zc1 : w2.cell? ⟨w.heap.size, 1, none⟩ = some (.int .i64 0) := HI.out.rs.cell 1
          have zf1 : w2.frozen? ⟨w.heap.size, 1, none⟩ = false := HI.out.rs.frozen 1
          have zc2 : w2.cell? ⟨w.heap.size, 2, none⟩ = some (.int .i64 0) := HI.out.rs.cell 2
          have zf2 : w2.frozen? ⟨w.heap.size, 2, none⟩ = false := HI.out.rs.frozen 2
          have zc3 : w2.cell? ⟨w.heap.size, 3, none⟩ = some (.int .i64 0) := HI.out.rs.cell 3
          have zf3 : w2.frozen? ⟨w.heap.size, 3, none⟩ = false := HI.out.rs.frozen 3
          have zc4 : w2.cell? ⟨w.heap.size, 4, none⟩ = some (.int .i64 0) := HI.out.rs.cell 4
          have zf4 : w2.frozen? ⟨w.heap.size, 4, none⟩ = false := HI.out.rs.frozen 4
          have zc5 : w2.cell? ⟨w.heap.size, 5, none⟩ = some (.int .i64 0) := HI.out.rs.cell 5
          have zf5 : w2.frozen? ⟨w.heap.size, 5, none⟩ = false := HI.out.rs.frozen 5
          by_cases ht : textL p = l
          · have HQ := Hx.mk (show readV l = (p, true) by rw [HF.out, if_pos ⟨hv, ht⟩])
            have hq2 : (textL p == l) = true := by rw [ht]; exact beq_self_eq_true _
            have hq3 : (textL p != l) = false := by rw [bne_eq_false_iff_eq]; exact ht
            clear ht hv HF
            go_wp2
            refine bodyPost_ret_by (v := .tuple #[PV p, .bool true]) (by simp [results, Tryz.results53, go_sem, zc0, zc1, zc2, zc3, zc4, zc5]) rfl ?_
            unfold OutRd
            rw [HQ.out]
            have hB := HI.out.bl
            exact ⟨rfl, (by repeat (first | with_reducible exact hB | (with_reducible refine Below.setCell ?_ ?side _; case side => (first | omega | (simp <;> omega)))))⟩
          · have HQ := Hx.mk (show readV l = ((fun _ => 0), false) by rw [HF.out, if_neg (fun h => ht h.2)])
            have hq2 : (textL p == l) = false := beq_eq_false_iff_ne.2 ht
            have hq3 : (textL p != l) = true := by rw [bne_iff_ne]; exact ht
            clear ht hv HF
            go_wp2
            refine bodyPost_ret_by (v := .tuple #[PV fun _ => 0, .bool false]) (by simp [results, Tryz.results53, go_sem, zc0, zc1, zc2, zc3, zc4, zc5]) rfl ?_
            unfold OutRd
            rw [HQ.out]
            have hB := HI.out.bl
            exact ⟨rfl, (by repeat (first | with_reducible exact hB | (with_reducible refine Below.setCell ?_ ?side _; case side => (first | omega | (simp <;> omega)))))⟩
        · have HVa := Hx.mk (fun w => pvalid_any p w false (by simpa using hv))
          have HQ := Hx.mk (show readV l = ((fun _ => 0), false) by rw [HF.out, if_neg (fun h => hv h.1)])
          clear hv HF
          go_wp2_with fail
          refine (HVa.out _).mono ?_
          rintro e' w1 ⟨rfl, hb⟩
          have HI := Hx.mk (HI.out.later hb)
          clear hb HVa pc0 pc1 pc2 pc3 pc4 pc5
          have zc0 : w1.cell? ⟨w.heap.size, 0, none⟩ = some (.int .i64 0) := HI.out.rs.cell 0
          have zf0 : w1.frozen? ⟨w.heap.size, 0, none⟩ = false := HI.out.rs.frozen 0
          have zc1 : w1.cell? ⟨w.heap.size, 1, none⟩ = some (.int .i64 0) := HI.out.rs.cell 1
          have zf1 : w1.frozen? ⟨w.heap.size, 1, none⟩ = false := HI.out.rs.frozen 1
          have zc2 : w1.cell? ⟨w.heap.size, 2, none⟩ = some (.int .i64 0) := HI.out.rs.cell 2
          have zf2 : w1.frozen? ⟨w.heap.size, 2, none⟩ = false := HI.out.rs.frozen 2
          have zc3 : w1.cell? ⟨w.heap.size, 3, none⟩ = some (.int .i64 0) := HI.out.rs.cell 3
          have zf3 : w1.frozen? ⟨w.heap.size, 3, none⟩ = false := HI.out.rs.frozen 3
          have zc4 : w1.cell? ⟨w.heap.size, 4, none⟩ = some (.int .i64 0) := HI.out.rs.cell 4
          have zf4 : w1.frozen? ⟨w.heap.size, 4, none⟩ = false := HI.out.rs.frozen 4
          have zc5 : w1.cell? ⟨w.heap.size, 5, none⟩ = some (.int .i64 0) := HI.out.rs.cell 5
          have zf5 : w1.frozen? ⟨w.heap.size, 5, none⟩ = false := HI.out.rs.frozen 5
          go_wp2
          refine bodyPost_ret_by (v := .tuple #[PV fun _ => 0, .bool false]) (by simp [results, Tryz.results53, go_sem, zc0, zc1, zc2, zc3, zc4, zc5]) rfl ?_
          unfold OutRd
          rw [HQ.out]
          have hB := HI.out.bl
          exact ⟨rfl, (by repeat (first | with_reducible exact hB | (with_reducible refine Below.setCell ?_ ?side _; case side => (first | omega | (simp <;> omega)))))⟩
end Go.Proofs.YtlfngdbpnhaphaaGreatDoor
