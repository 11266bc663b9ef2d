/- the reference's Parse of pitches. -/
import Derived.Test.YtdlfnonlalkjdaaGreatDoorU10
namespace Go.Proofs.YtdlfnonlalkjdaaGreatDoor
open Go.RowKit M
/-- The exponents where the prime is n. -/
def setP (p : Nat → Int) (n : Nat) (e : Int) : Nat → Int := fun i => if pr i = n then e else p i
/-- What stands behind the digits of a prime: an exponent, and what is left. -/
def rexp (r : List UInt8) : Option (Int × List UInt8) :=
  if hd r 94 then
    let r1 := r.tail
    let r2 := if hd r1 45 then r1.tail else r1
    let x := nm3 3 0 r2
    let y := if hd x.2 47 then nm3 3 0 x.2.tail else (1, x.2)
    if y.1 < 1 ∨ (x.1 * 12) % y.1 ≠ 0 then none else some (if hd r1 45 then -((x.1 * 12 / y.1 : Nat) : Int) else ((x.1 * 12 / y.1 : Nat) : Int), y.2)
  else some (12, r)
/-- The reference's way through a string. -/
def rpm : Nat → (Nat → Int) → List UInt8 → Option (Nat → Int)
  | 0, p, _ => some p
  | f + 1, p, r =>
    match rexp (nm3 3 0 r).2 with
    | none => none
    | some y => if hd y.2 42 then rpm f (setP p (nm3 3 0 r).1 y.1) y.2.tail else some (setP p (nm3 3 0 r).1 y.1)
theorem At.hdn {s : ByteArray} {a b : Nat} {r : List UInt8} (h : At s a r) (hb : hd r b = true) : At s (a + 1) r.tail := by
  cases r with
  | nil => cases hb
  | cons c t => exact h.next
theorem tail_len {r : List UInt8} {b : Nat} (hb : hd r b = true) : r.tail.length + 1 = r.length := by
  cases r with
  | nil => cases hb
  | cons c t => rfl
theorem rexp_len {r : List UInt8} {y : Int × List UInt8} (h : rexp r = some y) : y.2.length ≤ r.length := by
  unfold rexp at h
  by_cases h1 : hd r 94 = true
  · have k1 := tail_len h1
    rw [if_pos h1] at h
    simp only at h
    have k2 : (if hd r.tail 45 then r.tail.tail else r.tail).length ≤ r.tail.length := by
      split
      · have := tail_len (by assumption : hd r.tail 45 = true); omega
      · exact Nat.le_refl _
    generalize (if hd r.tail 45 then r.tail.tail else r.tail) = r2 at *
    have k3 := nm3_len 3 0 r2
    generalize nm3 3 0 r2 = x at *
    have k4 : (if hd x.2 47 then nm3 3 0 x.2.tail else (1, x.2)).2.length ≤ x.2.length := by
      split
      · have e1 := tail_len (by assumption : hd x.2 47 = true)
        have := nm3_len 3 0 x.2.tail; omega
      · exact Nat.le_refl _
    generalize (if hd x.2 47 then nm3 3 0 x.2.tail else (1, x.2)) = y' at *
    split at h
    · cases h
    · have := Option.some.inj h; subst this; simp only; omega
  · rw [if_neg h1] at h
    have := Option.some.inj h; subst this; exact Nat.le_refl _
/-- What holds within Parse: the pitch so far, the result's cells, the older memory as it was. -/
structure Qs (w : World) (p : Nat → Int) (W : World) : Prop where
  bl : Below w.heap.size w W
  sz : w.heap.size + 1 < W.heap.size
  pc : Cel (w.heap.size + 1) W p
  rc : Cel w.heap.size W (fun _ => 0)
theorem Qs.keep {w W W' : World} {p : Nat → Int} (h : Qs w p W) (hb : Below W.heap.size W W') : Qs w p W' :=
  ⟨h.bl.trans (hb.mono h.bl.size), Nat.lt_of_lt_of_le h.sz hb.size, h.pc.later hb h.sz, h.rc.later hb (Nat.lt_of_succ_lt h.sz)⟩
theorem Qs.drew {w W : World} {p : Nat → Int} (h : Qs w p W) : Qs w p W.drew := h.keep (Below.refl _ _).drew
theorem Qs.congr {w W : World} {p q : Nat → Int} (h : Qs w p W) (e : ∀ j, j < 6 → p j = q j) : Qs w q W := ⟨h.bl, h.sz, h.pc.congr e, h.rc⟩
theorem Qs.set {w W : World} {p q : Nat → Int} {k : Nat} (h : Qs w p W) (x : Int) (hk : k < 6) (hq : ∀ j, j < 6 → q j = if j = k then x else p j) : Qs w q (W.setCell ⟨w.heap.size + 1, k, none⟩ (.int .i64 x)) :=
  ⟨h.bl.setCell (p := ⟨w.heap.size + 1, k, none⟩) (by simp) _, by simpa using h.sz, h.pc.set x hk hq, h.rc.other _ (by omega)⟩
/-- The first k exponents that are set. -/
def setK (p : Nat → Int) (n : Nat) (e : Int) (k : Nat) : Nat → Int := fun j => if j < k ∧ pr j = n then e else p j
theorem setK_zero (p : Nat → Int) (n : Nat) (e : Int) : setK p n e 0 = p := by funext j; unfold setK; rw [if_neg (by omega)]
theorem setK_six (p : Nat → Int) (n : Nat) (e : Int) : ∀ j, j < 6 → setK p n e 6 j = setP p n e j := fun j hj => by
  unfold setK setP
  by_cases h : pr j = n
  · rw [if_pos ⟨hj, h⟩, if_pos h]
  · rw [if_neg (fun k => h k.2), if_neg h]
theorem setK_hit {p : Nat → Int} {n : Nat} {e : Int} {k : Nat} (h : pr k = n) : ∀ j, j < 6 → setK p n e (k + 1) j = if j = k then e else setK p n e k j := fun j _ => by
  unfold setK
  by_cases e1 : j = k
  · subst e1; rw [if_pos ⟨by omega, h⟩, if_pos rfl]
  · rw [if_neg e1]
    by_cases h2 : j < k ∧ pr j = n
    · rw [if_pos h2, if_pos ⟨by omega, h2.2⟩]
    · rw [if_neg h2, if_neg (fun q => h2 ⟨by omega, q.2⟩)]
theorem setK_miss {p : Nat → Int} {n : Nat} {e : Int} {k : Nat} (h : ¬ pr k = n) : ∀ j, j < 6 → setK p n e k j = setK p n e (k + 1) j := fun j _ => by
  unfold setK
  by_cases h2 : j < k ∧ pr j = n
  · rw [if_pos h2, if_pos ⟨by omega, h2.2⟩]
  · rw [if_neg h2, if_neg (fun q => h2 ⟨by
      have : ¬ j = k := fun e1 => h (e1 ▸ q.2)
      omega, q.2⟩)]
/-- 1 for true. -/
def bm (v : Value) : Nat := match v with | .bool true => 1 | _ => 0
theorem rpm_more {f : Nat} {p : Nat → Int} {r r1 r2 : List UInt8} {n : Nat} {e : Int} (h1 : (nm3 3 0 r).1 = n) (h2 : (nm3 3 0 r).2 = r1) (h : rexp r1 = some (e, r2)) (hm : hd r2 42 = true) : rpm (f + 1) p r = rpm f (setP p n e) r2.tail := by
  simp only [rpm, h1, h2, h, hm, if_true]
theorem rpm_last {f : Nat} {p : Nat → Int} {r r1 r2 : List UInt8} {n : Nat} {e : Int} (h1 : (nm3 3 0 r).1 = n) (h2 : (nm3 3 0 r).2 = r1) (h : rexp r1 = some (e, r2)) (hm : hd r2 42 = false) : rpm (f + 1) p r = some (setP p n e) := by
  simp only [rpm, h1, h2, h, hm]; rfl
theorem rpm_none {f : Nat} {p : Nat → Int} {r r1 : List UInt8} (h2 : (nm3 3 0 r).2 = r1) (h : rexp r1 = none) : rpm (f + 1) p r = none := by
  simp only [rpm, h2, h]
theorem rexp_no {r : List UInt8} (h : hd r 94 = false) : rexp r = some (12, r) := by unfold rexp; rw [h]; rfl
theorem rexp_of {r r2 r4 : List UInt8} {n d : Nat} {b3 : Bool} (b2 : Bool) (h1 : hd r 94 = true) (h2 : hd r.tail 45 = b2) (hr : (if b2 then r.tail.tail else r.tail) = r2) (hn : (nm3 3 0 r2).1 = n) {r3 : List UInt8} (hr3 : (nm3 3 0 r2).2 = r3) (h3 : hd r3 47 = b3)
    (hd' : (if b3 then nm3 3 0 r3.tail else (1, r3)) = (d, r4)) : rexp r = if d < 1 ∨ (n * 12) % d ≠ 0 then none else some (if b2 then -((n * 12 / d : Nat) : Int) else ((n * 12 / d : Nat) : Int), r4) := by
  unfold rexp
  rw [if_pos h1]
  simp only [h2, hr, hn, hr3, h3, hd']
/-- What Parse returns. -/
def parR (res : Option (Nat → Int)) (l : List UInt8) : (Nat → Int) × Int :=
  match res with
  | none => (fun _ => 0, 8)
  | some p => if bdB p 576 = true ∧ textL p = l then (p, 0) else (fun _ => 0, 8)
set_option maxRecDepth 20000 in
set_option maxHeartbeats 16000000 in
theorem refParse_any (l : List UInt8) (w : World) (hs : (strL l).size ≤ 200) (RES : Option (Nat → Int)) (hres : rpm 201 (fun _ => 0) l = RES) (v : Nat → Int) (c : Int) (hv : parR RES l = (v, c)) : Calls Tryz.prog 29 #[.string (strL l)] w (OutV w v c) := by
  have HR := Hx.mk hres
  have HV := Hx.mk hv
  have hlen : l.length ≤ 200 := by rw [strL_len] at hs; exact hs
  clear hres hv
  go_enter Tryz.func29, Tryz.ntmps29
  go_wp2_with fail
  go_loopw [5, 6] (fun av mv wr => ∃ (a f : Nat) (p : Nat → Int) (r : List UInt8) (b : Bool), av = .int .i64 (a : Int) ∧ mv = .bool b ∧ a ≤ 200 ∧ Hx (Qs w p wr) ∧ Hx (b = true → At (strL l) a r ∧ rpm f p r = RES ∧ r.length < f) ∧ Hx (b = false → RES = some p)) (fun av mv _ => bm mv * (202 - (intOf av).toNat))
  case atStart => exact ⟨0, 201, fun _ => 0, l, true, rfl, rfl, by omega, ⟨⟨(by (repeat (first | with_reducible exact Below.refl _ _ | (with_reducible refine Below.alloc ?_ ?side _; case side => (first | omega | (simp <;> omega)))))), by simp, ⟨by refine six ?_ ?_ ?_ ?_ ?_ ?_ <;> simp [go_sem], by refine six ?_ ?_ ?_ ?_ ?_ ?_ <;> simp [go_sem]⟩, ⟨by refine six ?_ ?_ ?_ ?_ ?_ ?_ <;> simp [go_sem], by refine six ?_ ?_ ?_ ?_ ?_ ?_ <;> simp [go_sem]⟩⟩⟩, ⟨fun _ => ⟨⟨[], rfl, rfl⟩, HR.out, by omega⟩⟩, ⟨fun h => by cases h⟩⟩
  case round =>
    obtain ⟨a, f, p, r, b, rfl, rfl, ha, HQ, HT, HF⟩ := hrel
    cases b
    · have HRES := Hx.mk (HF.out rfl)
      clear HT HF HR
      by_cases hv : bdB p 576 = true
      · have H1 := Hx.mk (fun w => refTextF_ok p w hv)
        have p0 := HQ.out.pc.cell 0 (by omega)
        have p1 := HQ.out.pc.cell 1 (by omega)
        have p2 := HQ.out.pc.cell 2 (by omega)
        have p3 := HQ.out.pc.cell 3 (by omega)
        have p4 := HQ.out.pc.cell 4 (by omega)
        have p5 := HQ.out.pc.cell 5 (by omega)
        go_wp2_with fail
        refine (H1.out _).mono ?_
        rintro e1 w1 ⟨rfl, hb⟩
        clear p0 p1 p2 p3 p4 p5
        have HQ := Hx.mk (HQ.out.keep hb)
        clear hb
        by_cases ht : textL p = l
        · have HVV : Hx (v = p ∧ c = 0) := ⟨by
            have k := HV.out
            rw [HRES.out] at k
            simp only [parR] at k
            rw [if_pos ⟨hv, ht⟩] at k
            simp only [Prod.mk.injEq] at k
            exact ⟨k.1.symm, k.2.symm⟩⟩
          obtain ⟨rfl, rfl⟩ := HVV.out
          have hq2 : (textL v == l) = true := by rw [ht]; exact beq_self_eq_true _
          have hq3 : (textL v != l) = false := by rw [bne_eq_false_iff_eq]; exact ht
          clear hv ht HV
          have q0 := HQ.out.rc.cell 0 (by omega)
          have z0 := HQ.out.rc.fz 0 (by omega)
          have p0 := HQ.out.pc.cell 0 (by omega)
          have q1 := HQ.out.rc.cell 1 (by omega)
          have z1 := HQ.out.rc.fz 1 (by omega)
          have p1 := HQ.out.pc.cell 1 (by omega)
          have q2 := HQ.out.rc.cell 2 (by omega)
          have z2 := HQ.out.rc.fz 2 (by omega)
          have p2 := HQ.out.pc.cell 2 (by omega)
          have q3 := HQ.out.rc.cell 3 (by omega)
          have z3 := HQ.out.rc.fz 3 (by omega)
          have p3 := HQ.out.pc.cell 3 (by omega)
          have q4 := HQ.out.rc.cell 4 (by omega)
          have z4 := HQ.out.rc.fz 4 (by omega)
          have p4 := HQ.out.pc.cell 4 (by omega)
          have q5 := HQ.out.rc.cell 5 (by omega)
          have z5 := HQ.out.rc.fz 5 (by omega)
          have p5 := HQ.out.pc.cell 5 (by omega)
          go_wp2_with fail
          refine bodyPost_ret_by (v := .tuple #[PV v, .int .i64 0]) (by simp [results, Tryz.results29, go_sem, q0, q1, q2, q3, q4, q5]) rfl ?_
          exact ⟨rfl, HQ.out.bl.trans (by repeat (first | with_reducible exact Below.refl _ _ | (with_reducible refine Below.setCell ?_ ?side _; case side => (first | exact Nat.le_refl _ | omega | (simp <;> omega))) | with_reducible apply Below.drew | with_reducible apply below_drewN))⟩
        · have hq2 : (textL p == l) = false := beq_eq_false_iff_ne.2 ht
          have hq3 : (textL p != l) = true := by rw [bne_iff_ne]; exact ht
          have HVV : Hx (v = (fun _ => 0) ∧ c = 8) := ⟨by
            have k := HV.out
            rw [HRES.out] at k
            simp only [parR] at k
            rw [if_neg (fun x => ht x.2)] at k
            simp only [Prod.mk.injEq] at k
            exact ⟨k.1.symm, k.2.symm⟩⟩
          obtain ⟨rfl, rfl⟩ := HVV.out
          have q0 := HQ.out.rc.cell 0 (by omega)
          have z0 := HQ.out.rc.fz 0 (by omega)
          have q1 := HQ.out.rc.cell 1 (by omega)
          have z1 := HQ.out.rc.fz 1 (by omega)
          have q2 := HQ.out.rc.cell 2 (by omega)
          have z2 := HQ.out.rc.fz 2 (by omega)
          have q3 := HQ.out.rc.cell 3 (by omega)
          have z3 := HQ.out.rc.fz 3 (by omega)
          have q4 := HQ.out.rc.cell 4 (by omega)
          have z4 := HQ.out.rc.fz 4 (by omega)
          have q5 := HQ.out.rc.cell 5 (by omega)
          have z5 := HQ.out.rc.fz 5 (by omega)
          go_wp2_with fail
          refine bodyPost_ret_by (v := .tuple #[PV (fun _ => 0), .int .i64 8]) (by simp [results, Tryz.results29, go_sem, q0, q1, q2, q3, q4, q5]) rfl ?_
          exact ⟨rfl, HQ.out.bl.trans (by repeat (first | with_reducible exact Below.refl _ _ | (with_reducible refine Below.setCell ?_ ?side _; case side => (first | exact Nat.le_refl _ | omega | (simp <;> omega))) | with_reducible apply Below.drew | with_reducible apply below_drewN))⟩
      · have H1 := Hx.mk (fun w => refTextF_no p w (by simpa using hv))
        have p0 := HQ.out.pc.cell 0 (by omega)
        have p1 := HQ.out.pc.cell 1 (by omega)
        have p2 := HQ.out.pc.cell 2 (by omega)
        have p3 := HQ.out.pc.cell 3 (by omega)
        have p4 := HQ.out.pc.cell 4 (by omega)
        have p5 := HQ.out.pc.cell 5 (by omega)
        go_wp2_with fail
        refine (H1.out _).mono ?_
        rintro e1 w1 ⟨rfl, hb⟩
        clear p0 p1 p2 p3 p4 p5
        have HQ := Hx.mk (HQ.out.keep hb)
        clear hb
        have HVV : Hx (v = (fun _ => 0) ∧ c = 8) := ⟨by
          have k := HV.out
          rw [HRES.out] at k
          simp only [parR] at k
          rw [if_neg (fun x => hv x.1)] at k
          simp only [Prod.mk.injEq] at k
          exact ⟨k.1.symm, k.2.symm⟩⟩
        obtain ⟨rfl, rfl⟩ := HVV.out
        have q0 := HQ.out.rc.cell 0 (by omega)
        have z0 := HQ.out.rc.fz 0 (by omega)
        have q1 := HQ.out.rc.cell 1 (by omega)
        have z1 := HQ.out.rc.fz 1 (by omega)
        have q2 := HQ.out.rc.cell 2 (by omega)
        have z2 := HQ.out.rc.fz 2 (by omega)
        have q3 := HQ.out.rc.cell 3 (by omega)
        have z3 := HQ.out.rc.fz 3 (by omega)
        have q4 := HQ.out.rc.cell 4 (by omega)
        have z4 := HQ.out.rc.fz 4 (by omega)
        have q5 := HQ.out.rc.cell 5 (by omega)
        have z5 := HQ.out.rc.fz 5 (by omega)
        go_wp2_with fail
        refine bodyPost_ret_by (v := .tuple #[PV (fun _ => 0), .int .i64 8]) (by simp [results, Tryz.results29, go_sem, q0, q1, q2, q3, q4, q5]) rfl ?_
        exact ⟨rfl, HQ.out.bl.trans (by repeat (first | with_reducible exact Below.refl _ _ | (with_reducible refine Below.setCell ?_ ?side _; case side => (first | exact Nat.le_refl _ | omega | (simp <;> omega))) | with_reducible apply Below.drew | with_reducible apply below_drewN))⟩
    · obtain ⟨HA, HP, hrf⟩ := HT.out rfl
      obtain ⟨f, rfl⟩ : ∃ g, f = g + 1 := ⟨f - 1, by omega⟩
      have HPx := Hx.mk HP
      have HAx := Hx.mk HA
      have hl0 := HA.len
      clear HT HF HA HP HR
      go_wp2_with fail
      refine (refNumber_any (strL l) a r _ HAx.out hs).mono ?_
      rintro e1 w1 ⟨⟨a1, rfl, A1⟩, hb⟩
      have HQ := Hx.mk (HQ.out.keep hb)
      have B1 := nm3_bd 3 0 r
      have L1 := nm3_len 3 0 r
      obtain ⟨n1, hn1⟩ : ∃ n, (nm3 3 0 r).1 = n := ⟨_, rfl⟩
      obtain ⟨r1, hr1⟩ : ∃ q, (nm3 3 0 r).2 = q := ⟨_, rfl⟩
      rw [hn1] at B1 ⊢
      rw [hr1] at A1 L1
      have ha1 := A1.len
      have HA1 := Hx.mk A1
      have HN1 := Hx.mk hn1
      have HR1 := Hx.mk hr1
      clear hb A1 hn1 hr1
      obtain ⟨c1, hc1⟩ : ∃ c, hd r1 94 = c := ⟨_, rfl⟩
      go_wp2_with fail
      refine (refIs_any (strL l) a1 94 r1 _ HA1.out hs (by omega) c1 hc1).mono ?_
      rintro e2 w2 ⟨rfl, hb⟩
      have HQ := Hx.mk (HQ.out.keep hb)
      clear hb
      cases c1
      · have HEX : Hx (rexp r1 = some (12, r1)) := ⟨rexp_no hc1⟩
        clear hc1
        have hl2 := HA1.out.len
        go_wp2_with fail
        go_loopw [14] (fun iv wr => ∃ k : Nat, k ≤ 6 ∧ iv = .int .i64 (k : Int) ∧ Hx (Qs w (setK p n1 12 k) wr)) (fun iv _ => 6 - (intOf iv).toNat)
        case atStart => exact ⟨0, by omega, rfl, ⟨by rw [setK_zero]; exact HQ.out⟩⟩
        case round =>
          clear HQ
          obtain ⟨k, hk, rfl, HQ⟩ := hrel
          have : k = 0 ∨ k = 1 ∨ k = 2 ∨ k = 3 ∨ k = 4 ∨ k = 5 ∨ k = 6 := by omega
          rcases this with rfl | rfl | rfl | rfl | rfl | rfl | rfl
          · go_wp2_with fail
            refine (refPrime_0 _).mono ?_
            rintro e3 w3 ⟨rfl, rfl⟩
            by_cases hh : n1 = 2
            · have pc := HQ.out.pc.cell 0 (by omega)
              have pf := HQ.out.pc.fz 0 (by omega)
              have hq : (2 : Int) = (n1 : Int) := by omega
              have HN := Hx.mk hh
              clear hh
              go_wp2
              go_roundw
              case rel => exact ⟨1, by omega, rfl, ⟨HQ.out.set _ (by omega) (setK_hit HN.out.symm)⟩⟩
              case measure => simp [intOf]
            · have hq : ¬ (2 : Int) = (n1 : Int) := by omega
              have HN := Hx.mk hh
              clear hh
              go_wp2
              go_roundw
              case rel => exact ⟨1, by omega, rfl, ⟨HQ.out.congr (setK_miss fun x => HN.out x.symm)⟩⟩
              case measure => simp [intOf]
          · go_wp2_with fail
            refine (refPrime_1 _).mono ?_
            rintro e3 w3 ⟨rfl, rfl⟩
            by_cases hh : n1 = 3
            · have pc := HQ.out.pc.cell 1 (by omega)
              have pf := HQ.out.pc.fz 1 (by omega)
              have hq : (3 : Int) = (n1 : Int) := by omega
              have HN := Hx.mk hh
              clear hh
              go_wp2
              go_roundw
              case rel => exact ⟨2, by omega, rfl, ⟨HQ.out.set _ (by omega) (setK_hit HN.out.symm)⟩⟩
              case measure => simp [intOf]
            · have hq : ¬ (3 : Int) = (n1 : Int) := by omega
              have HN := Hx.mk hh
              clear hh
              go_wp2
              go_roundw
              case rel => exact ⟨2, by omega, rfl, ⟨HQ.out.congr (setK_miss fun x => HN.out x.symm)⟩⟩
              case measure => simp [intOf]
          · go_wp2_with fail
            refine (refPrime_2 _).mono ?_
            rintro e3 w3 ⟨rfl, rfl⟩
            by_cases hh : n1 = 5
            · have pc := HQ.out.pc.cell 2 (by omega)
              have pf := HQ.out.pc.fz 2 (by omega)
              have hq : (5 : Int) = (n1 : Int) := by omega
              have HN := Hx.mk hh
              clear hh
              go_wp2
              go_roundw
              case rel => exact ⟨3, by omega, rfl, ⟨HQ.out.set _ (by omega) (setK_hit HN.out.symm)⟩⟩
              case measure => simp [intOf]
            · have hq : ¬ (5 : Int) = (n1 : Int) := by omega
              have HN := Hx.mk hh
              clear hh
              go_wp2
              go_roundw
              case rel => exact ⟨3, by omega, rfl, ⟨HQ.out.congr (setK_miss fun x => HN.out x.symm)⟩⟩
              case measure => simp [intOf]
          · go_wp2_with fail
            refine (refPrime_3 _).mono ?_
            rintro e3 w3 ⟨rfl, rfl⟩
            by_cases hh : n1 = 7
            · have pc := HQ.out.pc.cell 3 (by omega)
              have pf := HQ.out.pc.fz 3 (by omega)
              have hq : (7 : Int) = (n1 : Int) := by omega
              have HN := Hx.mk hh
              clear hh
              go_wp2
              go_roundw
              case rel => exact ⟨4, by omega, rfl, ⟨HQ.out.set _ (by omega) (setK_hit HN.out.symm)⟩⟩
              case measure => simp [intOf]
            · have hq : ¬ (7 : Int) = (n1 : Int) := by omega
              have HN := Hx.mk hh
              clear hh
              go_wp2
              go_roundw
              case rel => exact ⟨4, by omega, rfl, ⟨HQ.out.congr (setK_miss fun x => HN.out x.symm)⟩⟩
              case measure => simp [intOf]
          · go_wp2_with fail
            refine (refPrime_4 _).mono ?_
            rintro e3 w3 ⟨rfl, rfl⟩
            by_cases hh : n1 = 11
            · have pc := HQ.out.pc.cell 4 (by omega)
              have pf := HQ.out.pc.fz 4 (by omega)
              have hq : (11 : Int) = (n1 : Int) := by omega
              have HN := Hx.mk hh
              clear hh
              go_wp2
              go_roundw
              case rel => exact ⟨5, by omega, rfl, ⟨HQ.out.set _ (by omega) (setK_hit HN.out.symm)⟩⟩
              case measure => simp [intOf]
            · have hq : ¬ (11 : Int) = (n1 : Int) := by omega
              have HN := Hx.mk hh
              clear hh
              go_wp2
              go_roundw
              case rel => exact ⟨5, by omega, rfl, ⟨HQ.out.congr (setK_miss fun x => HN.out x.symm)⟩⟩
              case measure => simp [intOf]
          · go_wp2_with fail
            refine (refPrime_5 _).mono ?_
            rintro e3 w3 ⟨rfl, rfl⟩
            by_cases hh : n1 = 13
            · have pc := HQ.out.pc.cell 5 (by omega)
              have pf := HQ.out.pc.fz 5 (by omega)
              have hq : (13 : Int) = (n1 : Int) := by omega
              have HN := Hx.mk hh
              clear hh
              go_wp2
              go_roundw
              case rel => exact ⟨6, by omega, rfl, ⟨HQ.out.set _ (by omega) (setK_hit HN.out.symm)⟩⟩
              case measure => simp [intOf]
            · have hq : ¬ (13 : Int) = (n1 : Int) := by omega
              have HN := Hx.mk hh
              clear hh
              go_wp2
              go_roundw
              case rel => exact ⟨6, by omega, rfl, ⟨HQ.out.congr (setK_miss fun x => HN.out x.symm)⟩⟩
              case measure => simp [intOf]
          · have HQ := Hx.mk (HQ.out.congr (setK_six p n1 12))
            obtain ⟨c9, hc9⟩ : ∃ c, hd r1 42 = c := ⟨_, rfl⟩
            go_wp2_with fail
            refine (refIs_any (strL l) a1 42 r1 _ HA1.out hs (by omega) c9 hc9).mono ?_
            rintro e9 w9 ⟨rfl, hb⟩
            have HQ := Hx.mk (HQ.out.keep hb)
            clear hb
            cases c9
            · have HRES := Hx.mk ((rpm_last (p := p) (f := f) HN1.out HR1.out HEX.out hc9).symm.trans HPx.out)
              go_wp2_with fail
              go_roundw
              case rel => exact ⟨a1, 0, setP p n1 12, [], false, rfl, rfl, by omega, HQ, ⟨fun h => by cases h⟩, ⟨fun _ => HRES.out.symm⟩⟩
              case measure => simp [intOf, bm]; omega
            · have HRES := Hx.mk ((rpm_more (p := p) (f := f) HN1.out HR1.out HEX.out hc9).symm.trans HPx.out)
              have HA9 := Hx.mk (HA1.out.hdn hc9)
              have hl9 := tail_len hc9
              have hl8 := HA9.out.len
              have hl7 := rexp_len HEX.out
              simp only at hl7
              have ha9 : a1 + 1 ≤ 200 := by omega
              have hr9 : r1.tail.length < f := by omega
              have hlt : a < a1 + 1 := by omega
              go_wp2_with fail
              go_roundw
              case rel => exact ⟨a1 + 1, f, setP p n1 12, r1.tail, true, by go_num, rfl, ha9, HQ, ⟨fun _ => ⟨HA9.out, HRES.out, hr9⟩⟩, ⟨fun h => by cases h⟩⟩
              case measure => simp [intOf, bm]; omega
      · have HA2 := HA1.out.hdn hc1
        obtain ⟨b1, hb1⟩ : ∃ b : Nat, a1 + 1 = b := ⟨_, rfl⟩
        have hb1i : (a1 : Int) + 1 = (b1 : Int) := by omega
        obtain ⟨t1, ht1⟩ : ∃ q, r1.tail = q := ⟨_, rfl⟩
        rw [hb1, ht1] at HA2
        have hl2 := HA2.len
        have HA2 := Hx.mk HA2
        have HT1 := Hx.mk ht1
        clear hb1 ht1
        obtain ⟨c2, hc2⟩ : ∃ c, hd t1 45 = c := ⟨_, rfl⟩
        go_wp2_with fail
        refine (refIs_any (strL l) b1 45 t1 _ HA2.out hs (by omega) c2 hc2).mono ?_
        rintro e3 w3 ⟨rfl, hb⟩
        have HQ := Hx.mk (HQ.out.keep hb)
        clear hb
        cases c2
        · go_wp2_with fail
          refine (refNumber_any (strL l) b1 (t1) _ HA2.out hs).mono ?_
          rintro e4 w4 ⟨⟨a3, rfl, A3⟩, hb⟩
          have HQ := Hx.mk (HQ.out.keep hb)
          have B3 := nm3_bd 3 0 (t1)
          obtain ⟨n2, hn2⟩ : ∃ n, (nm3 3 0 (t1)).1 = n := ⟨_, rfl⟩
          obtain ⟨r3, hr3⟩ : ∃ q, (nm3 3 0 (t1)).2 = q := ⟨_, rfl⟩
          rw [hn2] at B3 ⊢
          rw [hr3] at A3
          have ha3 := A3.len
          have HA4 := Hx.mk A3
          have hn999 : n2 ≤ 999 := by omega
          have HN2 := Hx.mk hn2
          have HR3 := Hx.mk hr3
          clear hb A3 hn2 hr3 B3
          obtain ⟨c3, hc3⟩ : ∃ c, hd r3 47 = c := ⟨_, rfl⟩
          go_wp2_with fail
          refine (refIs_any (strL l) a3 47 r3 _ HA4.out hs (by omega) c3 hc3).mono ?_
          rintro e5 w5 ⟨rfl, hb⟩
          have HQ := Hx.mk (HQ.out.keep hb)
          clear hb
          have HOF := fun d r4 h => rexp_of (r := r1) false hc1 (by rw [HT1.out]; exact hc2) (r2 := t1) (by rw [HT1.out]; rfl) HN2.out HR3.out hc3 (d := d) (r4 := r4) h
          cases c3
          · have HEX : Hx (rexp r1 = some (((n2 : Int) * 12), r3)) := ⟨by
              rw [HOF 1 r3 rfl, if_neg (by omega), Nat.div_one]
              exact congrArg some (Prod.ext (show (((n2 * 12 : Nat)) : Int) = (n2 : Int) * 12 by omega) rfl)⟩
            clear hc1 hc2 hc3 HOF
            have hl2 := HA4.out.len
            go_wp2_with fail
            go_loopw [14] (fun iv wr => ∃ k : Nat, k ≤ 6 ∧ iv = .int .i64 (k : Int) ∧ Hx (Qs w (setK p n1 ((n2 : Int) * 12) k) wr)) (fun iv _ => 6 - (intOf iv).toNat)
            case atStart => exact ⟨0, by omega, rfl, ⟨by rw [setK_zero]; exact HQ.out⟩⟩
            case round =>
              clear HQ
              obtain ⟨k, hk, rfl, HQ⟩ := hrel
              have : k = 0 ∨ k = 1 ∨ k = 2 ∨ k = 3 ∨ k = 4 ∨ k = 5 ∨ k = 6 := by omega
              rcases this with rfl | rfl | rfl | rfl | rfl | rfl | rfl
              · go_wp2_with fail
                refine (refPrime_0 _).mono ?_
                rintro e3 w3 ⟨rfl, rfl⟩
                by_cases hh : n1 = 2
                · have pc := HQ.out.pc.cell 0 (by omega)
                  have pf := HQ.out.pc.fz 0 (by omega)
                  have hq : (2 : Int) = (n1 : Int) := by omega
                  have HN := Hx.mk hh
                  clear hh
                  go_wp2
                  go_roundw
                  case rel => exact ⟨1, by omega, rfl, ⟨HQ.out.set _ (by omega) (setK_hit HN.out.symm)⟩⟩
                  case measure => simp [intOf]
                · have hq : ¬ (2 : Int) = (n1 : Int) := by omega
                  have HN := Hx.mk hh
                  clear hh
                  go_wp2
                  go_roundw
                  case rel => exact ⟨1, by omega, rfl, ⟨HQ.out.congr (setK_miss fun x => HN.out x.symm)⟩⟩
                  case measure => simp [intOf]
              · go_wp2_with fail
                refine (refPrime_1 _).mono ?_
                rintro e3 w3 ⟨rfl, rfl⟩
                by_cases hh : n1 = 3
                · have pc := HQ.out.pc.cell 1 (by omega)
                  have pf := HQ.out.pc.fz 1 (by omega)
                  have hq : (3 : Int) = (n1 : Int) := by omega
                  have HN := Hx.mk hh
                  clear hh
                  go_wp2
                  go_roundw
                  case rel => exact ⟨2, by omega, rfl, ⟨HQ.out.set _ (by omega) (setK_hit HN.out.symm)⟩⟩
                  case measure => simp [intOf]
                · have hq : ¬ (3 : Int) = (n1 : Int) := by omega
                  have HN := Hx.mk hh
                  clear hh
                  go_wp2
                  go_roundw
                  case rel => exact ⟨2, by omega, rfl, ⟨HQ.out.congr (setK_miss fun x => HN.out x.symm)⟩⟩
                  case measure => simp [intOf]
              · go_wp2_with fail
                refine (refPrime_2 _).mono ?_
                rintro e3 w3 ⟨rfl, rfl⟩
                by_cases hh : n1 = 5
                · have pc := HQ.out.pc.cell 2 (by omega)
                  have pf := HQ.out.pc.fz 2 (by omega)
                  have hq : (5 : Int) = (n1 : Int) := by omega
                  have HN := Hx.mk hh
                  clear hh
                  go_wp2
                  go_roundw
                  case rel => exact ⟨3, by omega, rfl, ⟨HQ.out.set _ (by omega) (setK_hit HN.out.symm)⟩⟩
                  case measure => simp [intOf]
                · have hq : ¬ (5 : Int) = (n1 : Int) := by omega
                  have HN := Hx.mk hh
                  clear hh
                  go_wp2
                  go_roundw
                  case rel => exact ⟨3, by omega, rfl, ⟨HQ.out.congr (setK_miss fun x => HN.out x.symm)⟩⟩
                  case measure => simp [intOf]
              · go_wp2_with fail
                refine (refPrime_3 _).mono ?_
                rintro e3 w3 ⟨rfl, rfl⟩
                by_cases hh : n1 = 7
                · have pc := HQ.out.pc.cell 3 (by omega)
                  have pf := HQ.out.pc.fz 3 (by omega)
                  have hq : (7 : Int) = (n1 : Int) := by omega
                  have HN := Hx.mk hh
                  clear hh
                  go_wp2
                  go_roundw
                  case rel => exact ⟨4, by omega, rfl, ⟨HQ.out.set _ (by omega) (setK_hit HN.out.symm)⟩⟩
                  case measure => simp [intOf]
                · have hq : ¬ (7 : Int) = (n1 : Int) := by omega
                  have HN := Hx.mk hh
                  clear hh
                  go_wp2
                  go_roundw
                  case rel => exact ⟨4, by omega, rfl, ⟨HQ.out.congr (setK_miss fun x => HN.out x.symm)⟩⟩
                  case measure => simp [intOf]
              · go_wp2_with fail
                refine (refPrime_4 _).mono ?_
                rintro e3 w3 ⟨rfl, rfl⟩
                by_cases hh : n1 = 11
                · have pc := HQ.out.pc.cell 4 (by omega)
                  have pf := HQ.out.pc.fz 4 (by omega)
                  have hq : (11 : Int) = (n1 : Int) := by omega
                  have HN := Hx.mk hh
                  clear hh
                  go_wp2
                  go_roundw
                  case rel => exact ⟨5, by omega, rfl, ⟨HQ.out.set _ (by omega) (setK_hit HN.out.symm)⟩⟩
                  case measure => simp [intOf]
                · have hq : ¬ (11 : Int) = (n1 : Int) := by omega
                  have HN := Hx.mk hh
                  clear hh
                  go_wp2
                  go_roundw
                  case rel => exact ⟨5, by omega, rfl, ⟨HQ.out.congr (setK_miss fun x => HN.out x.symm)⟩⟩
                  case measure => simp [intOf]
              · go_wp2_with fail
                refine (refPrime_5 _).mono ?_
                rintro e3 w3 ⟨rfl, rfl⟩
                by_cases hh : n1 = 13
                · have pc := HQ.out.pc.cell 5 (by omega)
                  have pf := HQ.out.pc.fz 5 (by omega)
                  have hq : (13 : Int) = (n1 : Int) := by omega
                  have HN := Hx.mk hh
                  clear hh
                  go_wp2
                  go_roundw
                  case rel => exact ⟨6, by omega, rfl, ⟨HQ.out.set _ (by omega) (setK_hit HN.out.symm)⟩⟩
                  case measure => simp [intOf]
                · have hq : ¬ (13 : Int) = (n1 : Int) := by omega
                  have HN := Hx.mk hh
                  clear hh
                  go_wp2
                  go_roundw
                  case rel => exact ⟨6, by omega, rfl, ⟨HQ.out.congr (setK_miss fun x => HN.out x.symm)⟩⟩
                  case measure => simp [intOf]
              · have HQ := Hx.mk (HQ.out.congr (setK_six p n1 ((n2 : Int) * 12)))
                obtain ⟨c9, hc9⟩ : ∃ c, hd r3 42 = c := ⟨_, rfl⟩
                go_wp2_with fail
                refine (refIs_any (strL l) a3 42 r3 _ HA4.out hs (by omega) c9 hc9).mono ?_
                rintro e9 w9 ⟨rfl, hb⟩
                have HQ := Hx.mk (HQ.out.keep hb)
                clear hb
                cases c9
                · have HRES := Hx.mk ((rpm_last (p := p) (f := f) HN1.out HR1.out HEX.out hc9).symm.trans HPx.out)
                  go_wp2_with fail
                  go_roundw
                  case rel => exact ⟨a3, 0, setP p n1 ((n2 : Int) * 12), [], false, rfl, rfl, by omega, HQ, ⟨fun h => by cases h⟩, ⟨fun _ => HRES.out.symm⟩⟩
                  case measure => simp [intOf, bm]; omega
                · have HRES := Hx.mk ((rpm_more (p := p) (f := f) HN1.out HR1.out HEX.out hc9).symm.trans HPx.out)
                  have HA9 := Hx.mk (HA4.out.hdn hc9)
                  have hl9 := tail_len hc9
                  have hl8 := HA9.out.len
                  have hl7 := rexp_len HEX.out
                  simp only at hl7
                  have ha9 : a3 + 1 ≤ 200 := by omega
                  have hr9 : r3.tail.length < f := by omega
                  have hlt : a < a3 + 1 := by omega
                  go_wp2_with fail
                  go_roundw
                  case rel => exact ⟨a3 + 1, f, setP p n1 ((n2 : Int) * 12), r3.tail, true, by go_num, rfl, ha9, HQ, ⟨fun _ => ⟨HA9.out, HRES.out, hr9⟩⟩, ⟨fun h => by cases h⟩⟩
                  case measure => simp [intOf, bm]; omega
          · have HA5 := HA4.out.hdn hc3
            obtain ⟨b3, hb3⟩ : ∃ b : Nat, a3 + 1 = b := ⟨_, rfl⟩
            have hb3i : (a3 : Int) + 1 = (b3 : Int) := by omega
            rw [hb3] at HA5
            have hl5 := HA5.len
            have HA5 := Hx.mk HA5
            clear hb3
            go_wp2_with fail
            refine (refNumber_any (strL l) b3 r3.tail _ HA5.out hs).mono ?_
            rintro e6 w6 ⟨⟨a4, rfl, A4⟩, hb⟩
            have HQ := Hx.mk (HQ.out.keep hb)
            have B4 := nm3_bd 3 0 r3.tail
            obtain ⟨d, hd0⟩ : ∃ n, (nm3 3 0 r3.tail).1 = n := ⟨_, rfl⟩
            obtain ⟨r4, hr4⟩ : ∃ q, (nm3 3 0 r3.tail).2 = q := ⟨_, rfl⟩
            rw [hd0] at B4 ⊢
            rw [hr4] at A4
            have ha4 := A4.len
            have HA6 := Hx.mk A4
            have hd999 : d ≤ 999 := by omega
            have HEY := Hx.mk (HOF d r4 (show nm3 3 0 r3.tail = (d, r4) from Prod.ext hd0 hr4))
            clear hb A4 hd0 hr4 B4 HOF hc1 hc2 hc3
            by_cases hd1 : d < 1
            · have HNO : Hx (rexp r1 = none) := ⟨by rw [HEY.out, if_pos (.inl hd1)]⟩
              have hd2 : (d : Int) < 1 := by omega
              clear HEY hd1
              have HVV : Hx (v = (fun _ => 0) ∧ c = 8) := ⟨by
                have k := HV.out
                rw [← HPx.out, rpm_none HR1.out HNO.out] at k
                simp only [parR, Prod.mk.injEq] at k
                exact ⟨k.1.symm, k.2.symm⟩⟩
              obtain ⟨rfl, rfl⟩ := HVV.out
              have q0 := HQ.out.rc.cell 0 (by omega)
              have z0 := HQ.out.rc.fz 0 (by omega)
              have q1 := HQ.out.rc.cell 1 (by omega)
              have z1 := HQ.out.rc.fz 1 (by omega)
              have q2 := HQ.out.rc.cell 2 (by omega)
              have z2 := HQ.out.rc.fz 2 (by omega)
              have q3 := HQ.out.rc.cell 3 (by omega)
              have z3 := HQ.out.rc.fz 3 (by omega)
              have q4 := HQ.out.rc.cell 4 (by omega)
              have z4 := HQ.out.rc.fz 4 (by omega)
              have q5 := HQ.out.rc.cell 5 (by omega)
              have z5 := HQ.out.rc.fz 5 (by omega)
              go_wp2_with fail
              refine bodyPost_ret_by (v := .tuple #[PV (fun _ => 0), .int .i64 8]) (by simp [results, Tryz.results29, go_sem, q0, q1, q2, q3, q4, q5]) rfl ?_
              exact ⟨rfl, HQ.out.bl.trans (by repeat (first | with_reducible exact Below.refl _ _ | (with_reducible refine Below.setCell ?_ ?side _; case side => (first | exact Nat.le_refl _ | omega | (simp <;> omega))) | with_reducible apply Below.drew | with_reducible apply below_drewN))⟩
            · have hd2 : 1 ≤ (d : Int) := by omega
              have hd3 : ¬ (d : Int) = 0 := by omega
              obtain ⟨mm, hmm⟩ : ∃ mm, ((n2 : Int) * 12).tmod (d : Int) = mm := ⟨_, rfl⟩
              have hmn : mm = ((n2 * 12 % d : Nat) : Int) := by rw [← hmm]; exact (Int.ofNat_tmod (n2 * 12) d).symm
              by_cases hm0 : n2 * 12 % d = 0
              · have hm1 : mm = 0 := by omega
                subst hm1
                obtain ⟨ev, hev⟩ : ∃ ev, ((n2 : Int) * 12).tdiv (d : Int) = ev := ⟨_, rfl⟩
                have HEX : Hx (rexp r1 = some (ev, r4)) := ⟨by
                  rw [HEY.out, if_neg (by omega), ← hev]
                  exact congrArg some (Prod.ext (show ((n2 * 12 / d : Nat) : Int) = ((n2 : Int) * 12).tdiv (d : Int) from Int.ofNat_tdiv (n2 * 12) d) rfl)⟩
                have hev2 : -100000 ≤ ev ∧ ev ≤ 100000 := by
                  have e1 : ev = ((n2 * 12 / d : Nat) : Int) := by
                    rw [← hev]; exact (Int.ofNat_tdiv (n2 * 12) d).symm
                  have e2 : n2 * 12 / d ≤ n2 * 12 := Nat.div_le_self _ _
                  rw [e1]
                  generalize n2 * 12 / d = qq at e2
                  omega
                obtain ⟨hev3, hev4⟩ := hev2
                clear HEY hd1 hmn hm0
                have hl2 := HA6.out.len
                go_wp2_with fail
                go_loopw [14] (fun iv wr => ∃ k : Nat, k ≤ 6 ∧ iv = .int .i64 (k : Int) ∧ Hx (Qs w (setK p n1 ev k) wr)) (fun iv _ => 6 - (intOf iv).toNat)
                case atStart => exact ⟨0, by omega, rfl, ⟨by rw [setK_zero]; exact HQ.out⟩⟩
                case round =>
                  clear HQ
                  obtain ⟨k, hk, rfl, HQ⟩ := hrel
                  have : k = 0 ∨ k = 1 ∨ k = 2 ∨ k = 3 ∨ k = 4 ∨ k = 5 ∨ k = 6 := by omega
                  rcases this with rfl | rfl | rfl | rfl | rfl | rfl | rfl
                  · go_wp2_with fail
                    refine (refPrime_0 _).mono ?_
                    rintro e3 w3 ⟨rfl, rfl⟩
                    by_cases hh : n1 = 2
                    · have pc := HQ.out.pc.cell 0 (by omega)
                      have pf := HQ.out.pc.fz 0 (by omega)
                      have hq : (2 : Int) = (n1 : Int) := by omega
                      have HN := Hx.mk hh
                      clear hh
                      go_wp2
                      go_roundw
                      case rel => exact ⟨1, by omega, rfl, ⟨HQ.out.set _ (by omega) (setK_hit HN.out.symm)⟩⟩
                      case measure => simp [intOf]
                    · have hq : ¬ (2 : Int) = (n1 : Int) := by omega
                      have HN := Hx.mk hh
                      clear hh
                      go_wp2
                      go_roundw
                      case rel => exact ⟨1, by omega, rfl, ⟨HQ.out.congr (setK_miss fun x => HN.out x.symm)⟩⟩
                      case measure => simp [intOf]
                  · go_wp2_with fail
                    refine (refPrime_1 _).mono ?_
                    rintro e3 w3 ⟨rfl, rfl⟩
                    by_cases hh : n1 = 3
                    · have pc := HQ.out.pc.cell 1 (by omega)
                      have pf := HQ.out.pc.fz 1 (by omega)
                      have hq : (3 : Int) = (n1 : Int) := by omega
                      have HN := Hx.mk hh
                      clear hh
                      go_wp2
                      go_roundw
                      case rel => exact ⟨2, by omega, rfl, ⟨HQ.out.set _ (by omega) (setK_hit HN.out.symm)⟩⟩
                      case measure => simp [intOf]
                    · have hq : ¬ (3 : Int) = (n1 : Int) := by omega
                      have HN := Hx.mk hh
                      clear hh
                      go_wp2
                      go_roundw
                      case rel => exact ⟨2, by omega, rfl, ⟨HQ.out.congr (setK_miss fun x => HN.out x.symm)⟩⟩
                      case measure => simp [intOf]
                  · go_wp2_with fail
                    refine (refPrime_2 _).mono ?_
                    rintro e3 w3 ⟨rfl, rfl⟩
                    by_cases hh : n1 = 5
                    · have pc := HQ.out.pc.cell 2 (by omega)
                      have pf := HQ.out.pc.fz 2 (by omega)
                      have hq : (5 : Int) = (n1 : Int) := by omega
                      have HN := Hx.mk hh
                      clear hh
                      go_wp2
                      go_roundw
                      case rel => exact ⟨3, by omega, rfl, ⟨HQ.out.set _ (by omega) (setK_hit HN.out.symm)⟩⟩
                      case measure => simp [intOf]
                    · have hq : ¬ (5 : Int) = (n1 : Int) := by omega
                      have HN := Hx.mk hh
                      clear hh
                      go_wp2
                      go_roundw
                      case rel => exact ⟨3, by omega, rfl, ⟨HQ.out.congr (setK_miss fun x => HN.out x.symm)⟩⟩
                      case measure => simp [intOf]
                  · go_wp2_with fail
                    refine (refPrime_3 _).mono ?_
                    rintro e3 w3 ⟨rfl, rfl⟩
                    by_cases hh : n1 = 7
                    · have pc := HQ.out.pc.cell 3 (by omega)
                      have pf := HQ.out.pc.fz 3 (by omega)
                      have hq : (7 : Int) = (n1 : Int) := by omega
                      have HN := Hx.mk hh
                      clear hh
                      go_wp2
                      go_roundw
                      case rel => exact ⟨4, by omega, rfl, ⟨HQ.out.set _ (by omega) (setK_hit HN.out.symm)⟩⟩
                      case measure => simp [intOf]
                    · have hq : ¬ (7 : Int) = (n1 : Int) := by omega
                      have HN := Hx.mk hh
                      clear hh
                      go_wp2
                      go_roundw
                      case rel => exact ⟨4, by omega, rfl, ⟨HQ.out.congr (setK_miss fun x => HN.out x.symm)⟩⟩
                      case measure => simp [intOf]
                  · go_wp2_with fail
                    refine (refPrime_4 _).mono ?_
                    rintro e3 w3 ⟨rfl, rfl⟩
                    by_cases hh : n1 = 11
                    · have pc := HQ.out.pc.cell 4 (by omega)
                      have pf := HQ.out.pc.fz 4 (by omega)
                      have hq : (11 : Int) = (n1 : Int) := by omega
                      have HN := Hx.mk hh
                      clear hh
                      go_wp2
                      go_roundw
                      case rel => exact ⟨5, by omega, rfl, ⟨HQ.out.set _ (by omega) (setK_hit HN.out.symm)⟩⟩
                      case measure => simp [intOf]
                    · have hq : ¬ (11 : Int) = (n1 : Int) := by omega
                      have HN := Hx.mk hh
                      clear hh
                      go_wp2
                      go_roundw
                      case rel => exact ⟨5, by omega, rfl, ⟨HQ.out.congr (setK_miss fun x => HN.out x.symm)⟩⟩
                      case measure => simp [intOf]
                  · go_wp2_with fail
                    refine (refPrime_5 _).mono ?_
                    rintro e3 w3 ⟨rfl, rfl⟩
                    by_cases hh : n1 = 13
                    · have pc := HQ.out.pc.cell 5 (by omega)
                      have pf := HQ.out.pc.fz 5 (by omega)
                      have hq : (13 : Int) = (n1 : Int) := by omega
                      have HN := Hx.mk hh
                      clear hh
                      go_wp2
                      go_roundw
                      case rel => exact ⟨6, by omega, rfl, ⟨HQ.out.set _ (by omega) (setK_hit HN.out.symm)⟩⟩
                      case measure => simp [intOf]
                    · have hq : ¬ (13 : Int) = (n1 : Int) := by omega
                      have HN := Hx.mk hh
                      clear hh
                      go_wp2
                      go_roundw
                      case rel => exact ⟨6, by omega, rfl, ⟨HQ.out.congr (setK_miss fun x => HN.out x.symm)⟩⟩
                      case measure => simp [intOf]
                  · have HQ := Hx.mk (HQ.out.congr (setK_six p n1 ev))
                    obtain ⟨c9, hc9⟩ : ∃ c, hd r4 42 = c := ⟨_, rfl⟩
                    go_wp2_with fail
                    refine (refIs_any (strL l) a4 42 r4 _ HA6.out hs (by omega) c9 hc9).mono ?_
                    rintro e9 w9 ⟨rfl, hb⟩
                    have HQ := Hx.mk (HQ.out.keep hb)
                    clear hb
                    cases c9
                    · have HRES := Hx.mk ((rpm_last (p := p) (f := f) HN1.out HR1.out HEX.out hc9).symm.trans HPx.out)
                      go_wp2_with fail
                      go_roundw
                      case rel => exact ⟨a4, 0, setP p n1 ev, [], false, rfl, rfl, by omega, HQ, ⟨fun h => by cases h⟩, ⟨fun _ => HRES.out.symm⟩⟩
                      case measure => simp [intOf, bm]; omega
                    · have HRES := Hx.mk ((rpm_more (p := p) (f := f) HN1.out HR1.out HEX.out hc9).symm.trans HPx.out)
                      have HA9 := Hx.mk (HA6.out.hdn hc9)
                      have hl9 := tail_len hc9
                      have hl8 := HA9.out.len
                      have hl7 := rexp_len HEX.out
                      simp only at hl7
                      have ha9 : a4 + 1 ≤ 200 := by omega
                      have hr9 : r4.tail.length < f := by omega
                      have hlt : a < a4 + 1 := by omega
                      go_wp2_with fail
                      go_roundw
                      case rel => exact ⟨a4 + 1, f, setP p n1 ev, r4.tail, true, by go_num, rfl, ha9, HQ, ⟨fun _ => ⟨HA9.out, HRES.out, hr9⟩⟩, ⟨fun h => by cases h⟩⟩
                      case measure => simp [intOf, bm]; omega
              · have HNO : Hx (rexp r1 = none) := ⟨by rw [HEY.out, if_pos (.inr hm0)]⟩
                have hm1 : ¬ mm = 0 := by omega
                have hm2 : (mm != 0) = true := bne_iff_ne.2 hm1
                clear hm1
                clear HEY hd1 hmn hm0
                have HVV : Hx (v = (fun _ => 0) ∧ c = 8) := ⟨by
                  have k := HV.out
                  rw [← HPx.out, rpm_none HR1.out HNO.out] at k
                  simp only [parR, Prod.mk.injEq] at k
                  exact ⟨k.1.symm, k.2.symm⟩⟩
                obtain ⟨rfl, rfl⟩ := HVV.out
                have q0 := HQ.out.rc.cell 0 (by omega)
                have z0 := HQ.out.rc.fz 0 (by omega)
                have q1 := HQ.out.rc.cell 1 (by omega)
                have z1 := HQ.out.rc.fz 1 (by omega)
                have q2 := HQ.out.rc.cell 2 (by omega)
                have z2 := HQ.out.rc.fz 2 (by omega)
                have q3 := HQ.out.rc.cell 3 (by omega)
                have z3 := HQ.out.rc.fz 3 (by omega)
                have q4 := HQ.out.rc.cell 4 (by omega)
                have z4 := HQ.out.rc.fz 4 (by omega)
                have q5 := HQ.out.rc.cell 5 (by omega)
                have z5 := HQ.out.rc.fz 5 (by omega)
                go_wp2_with fail
                refine bodyPost_ret_by (v := .tuple #[PV (fun _ => 0), .int .i64 8]) (by simp [results, Tryz.results29, go_sem, q0, q1, q2, q3, q4, q5]) rfl ?_
                exact ⟨rfl, HQ.out.bl.trans (by repeat (first | with_reducible exact Below.refl _ _ | (with_reducible refine Below.setCell ?_ ?side _; case side => (first | exact Nat.le_refl _ | omega | (simp <;> omega))) | with_reducible apply Below.drew | with_reducible apply below_drewN))⟩
        · have HA3 := HA2.out.hdn hc2
          obtain ⟨b2, hb2⟩ : ∃ b : Nat, b1 + 1 = b := ⟨_, rfl⟩
          have hb2i : (b1 : Int) + 1 = (b2 : Int) := by omega
          rw [hb2] at HA3
          have hl3 := HA3.len
          have HA3 := Hx.mk HA3
          clear hb2
          go_wp2_with fail
          refine (refNumber_any (strL l) b2 (t1.tail) _ HA3.out hs).mono ?_
          rintro e4 w4 ⟨⟨a3, rfl, A3⟩, hb⟩
          have HQ := Hx.mk (HQ.out.keep hb)
          have B3 := nm3_bd 3 0 (t1.tail)
          obtain ⟨n2, hn2⟩ : ∃ n, (nm3 3 0 (t1.tail)).1 = n := ⟨_, rfl⟩
          obtain ⟨r3, hr3⟩ : ∃ q, (nm3 3 0 (t1.tail)).2 = q := ⟨_, rfl⟩
          rw [hn2] at B3 ⊢
          rw [hr3] at A3
          have ha3 := A3.len
          have HA4 := Hx.mk A3
          have hn999 : n2 ≤ 999 := by omega
          have HN2 := Hx.mk hn2
          have HR3 := Hx.mk hr3
          clear hb A3 hn2 hr3 B3
          obtain ⟨c3, hc3⟩ : ∃ c, hd r3 47 = c := ⟨_, rfl⟩
          go_wp2_with fail
          refine (refIs_any (strL l) a3 47 r3 _ HA4.out hs (by omega) c3 hc3).mono ?_
          rintro e5 w5 ⟨rfl, hb⟩
          have HQ := Hx.mk (HQ.out.keep hb)
          clear hb
          have HOF := fun d r4 h => rexp_of (r := r1) true hc1 (by rw [HT1.out]; exact hc2) (r2 := t1.tail) (by rw [HT1.out]; rfl) HN2.out HR3.out hc3 (d := d) (r4 := r4) h
          cases c3
          · have HEX : Hx (rexp r1 = some ((-(n2 : Int) * 12), r3)) := ⟨by
              rw [HOF 1 r3 rfl, if_neg (by omega), Nat.div_one]
              exact congrArg some (Prod.ext (show -(((n2 * 12 : Nat)) : Int) = -(n2 : Int) * 12 by omega) rfl)⟩
            clear hc1 hc2 hc3 HOF
            have hl2 := HA4.out.len
            go_wp2_with fail
            go_loopw [14] (fun iv wr => ∃ k : Nat, k ≤ 6 ∧ iv = .int .i64 (k : Int) ∧ Hx (Qs w (setK p n1 (-(n2 : Int) * 12) k) wr)) (fun iv _ => 6 - (intOf iv).toNat)
            case atStart => exact ⟨0, by omega, rfl, ⟨by rw [setK_zero]; exact HQ.out⟩⟩
            case round =>
              clear HQ
              obtain ⟨k, hk, rfl, HQ⟩ := hrel
              have : k = 0 ∨ k = 1 ∨ k = 2 ∨ k = 3 ∨ k = 4 ∨ k = 5 ∨ k = 6 := by omega
              rcases this with rfl | rfl | rfl | rfl | rfl | rfl | rfl
              · go_wp2_with fail
                refine (refPrime_0 _).mono ?_
                rintro e3 w3 ⟨rfl, rfl⟩
                by_cases hh : n1 = 2
                · have pc := HQ.out.pc.cell 0 (by omega)
                  have pf := HQ.out.pc.fz 0 (by omega)
                  have hq : (2 : Int) = (n1 : Int) := by omega
                  have HN := Hx.mk hh
                  clear hh
                  go_wp2
                  go_roundw
                  case rel => exact ⟨1, by omega, rfl, ⟨HQ.out.set _ (by omega) (setK_hit HN.out.symm)⟩⟩
                  case measure => simp [intOf]
                · have hq : ¬ (2 : Int) = (n1 : Int) := by omega
                  have HN := Hx.mk hh
                  clear hh
                  go_wp2
                  go_roundw
                  case rel => exact ⟨1, by omega, rfl, ⟨HQ.out.congr (setK_miss fun x => HN.out x.symm)⟩⟩
                  case measure => simp [intOf]
              · go_wp2_with fail
                refine (refPrime_1 _).mono ?_
                rintro e3 w3 ⟨rfl, rfl⟩
                by_cases hh : n1 = 3
                · have pc := HQ.out.pc.cell 1 (by omega)
                  have pf := HQ.out.pc.fz 1 (by omega)
                  have hq : (3 : Int) = (n1 : Int) := by omega
                  have HN := Hx.mk hh
                  clear hh
                  go_wp2
                  go_roundw
                  case rel => exact ⟨2, by omega, rfl, ⟨HQ.out.set _ (by omega) (setK_hit HN.out.symm)⟩⟩
                  case measure => simp [intOf]
                · have hq : ¬ (3 : Int) = (n1 : Int) := by omega
                  have HN := Hx.mk hh
                  clear hh
                  go_wp2
                  go_roundw
                  case rel => exact ⟨2, by omega, rfl, ⟨HQ.out.congr (setK_miss fun x => HN.out x.symm)⟩⟩
                  case measure => simp [intOf]
              · go_wp2_with fail
                refine (refPrime_2 _).mono ?_
                rintro e3 w3 ⟨rfl, rfl⟩
                by_cases hh : n1 = 5
                · have pc := HQ.out.pc.cell 2 (by omega)
                  have pf := HQ.out.pc.fz 2 (by omega)
                  have hq : (5 : Int) = (n1 : Int) := by omega
                  have HN := Hx.mk hh
                  clear hh
                  go_wp2
                  go_roundw
                  case rel => exact ⟨3, by omega, rfl, ⟨HQ.out.set _ (by omega) (setK_hit HN.out.symm)⟩⟩
                  case measure => simp [intOf]
                · have hq : ¬ (5 : Int) = (n1 : Int) := by omega
                  have HN := Hx.mk hh
                  clear hh
                  go_wp2
                  go_roundw
                  case rel => exact ⟨3, by omega, rfl, ⟨HQ.out.congr (setK_miss fun x => HN.out x.symm)⟩⟩
                  case measure => simp [intOf]
              · go_wp2_with fail
                refine (refPrime_3 _).mono ?_
                rintro e3 w3 ⟨rfl, rfl⟩
                by_cases hh : n1 = 7
                · have pc := HQ.out.pc.cell 3 (by omega)
                  have pf := HQ.out.pc.fz 3 (by omega)
                  have hq : (7 : Int) = (n1 : Int) := by omega
                  have HN := Hx.mk hh
                  clear hh
                  go_wp2
                  go_roundw
                  case rel => exact ⟨4, by omega, rfl, ⟨HQ.out.set _ (by omega) (setK_hit HN.out.symm)⟩⟩
                  case measure => simp [intOf]
                · have hq : ¬ (7 : Int) = (n1 : Int) := by omega
                  have HN := Hx.mk hh
                  clear hh
                  go_wp2
                  go_roundw
                  case rel => exact ⟨4, by omega, rfl, ⟨HQ.out.congr (setK_miss fun x => HN.out x.symm)⟩⟩
                  case measure => simp [intOf]
              · go_wp2_with fail
                refine (refPrime_4 _).mono ?_
                rintro e3 w3 ⟨rfl, rfl⟩
                by_cases hh : n1 = 11
                · have pc := HQ.out.pc.cell 4 (by omega)
                  have pf := HQ.out.pc.fz 4 (by omega)
                  have hq : (11 : Int) = (n1 : Int) := by omega
                  have HN := Hx.mk hh
                  clear hh
                  go_wp2
                  go_roundw
                  case rel => exact ⟨5, by omega, rfl, ⟨HQ.out.set _ (by omega) (setK_hit HN.out.symm)⟩⟩
                  case measure => simp [intOf]
                · have hq : ¬ (11 : Int) = (n1 : Int) := by omega
                  have HN := Hx.mk hh
                  clear hh
                  go_wp2
                  go_roundw
                  case rel => exact ⟨5, by omega, rfl, ⟨HQ.out.congr (setK_miss fun x => HN.out x.symm)⟩⟩
                  case measure => simp [intOf]
              · go_wp2_with fail
                refine (refPrime_5 _).mono ?_
                rintro e3 w3 ⟨rfl, rfl⟩
                by_cases hh : n1 = 13
                · have pc := HQ.out.pc.cell 5 (by omega)
                  have pf := HQ.out.pc.fz 5 (by omega)
                  have hq : (13 : Int) = (n1 : Int) := by omega
                  have HN := Hx.mk hh
                  clear hh
                  go_wp2
                  go_roundw
                  case rel => exact ⟨6, by omega, rfl, ⟨HQ.out.set _ (by omega) (setK_hit HN.out.symm)⟩⟩
                  case measure => simp [intOf]
                · have hq : ¬ (13 : Int) = (n1 : Int) := by omega
                  have HN := Hx.mk hh
                  clear hh
                  go_wp2
                  go_roundw
                  case rel => exact ⟨6, by omega, rfl, ⟨HQ.out.congr (setK_miss fun x => HN.out x.symm)⟩⟩
                  case measure => simp [intOf]
              · have HQ := Hx.mk (HQ.out.congr (setK_six p n1 (-(n2 : Int) * 12)))
                obtain ⟨c9, hc9⟩ : ∃ c, hd r3 42 = c := ⟨_, rfl⟩
                go_wp2_with fail
                refine (refIs_any (strL l) a3 42 r3 _ HA4.out hs (by omega) c9 hc9).mono ?_
                rintro e9 w9 ⟨rfl, hb⟩
                have HQ := Hx.mk (HQ.out.keep hb)
                clear hb
                cases c9
                · have HRES := Hx.mk ((rpm_last (p := p) (f := f) HN1.out HR1.out HEX.out hc9).symm.trans HPx.out)
                  go_wp2_with fail
                  go_roundw
                  case rel => exact ⟨a3, 0, setP p n1 (-(n2 : Int) * 12), [], false, rfl, rfl, by omega, HQ, ⟨fun h => by cases h⟩, ⟨fun _ => HRES.out.symm⟩⟩
                  case measure => simp [intOf, bm]; omega
                · have HRES := Hx.mk ((rpm_more (p := p) (f := f) HN1.out HR1.out HEX.out hc9).symm.trans HPx.out)
                  have HA9 := Hx.mk (HA4.out.hdn hc9)
                  have hl9 := tail_len hc9
                  have hl8 := HA9.out.len
                  have hl7 := rexp_len HEX.out
                  simp only at hl7
                  have ha9 : a3 + 1 ≤ 200 := by omega
                  have hr9 : r3.tail.length < f := by omega
                  have hlt : a < a3 + 1 := by omega
                  go_wp2_with fail
                  go_roundw
                  case rel => exact ⟨a3 + 1, f, setP p n1 (-(n2 : Int) * 12), r3.tail, true, by go_num, rfl, ha9, HQ, ⟨fun _ => ⟨HA9.out, HRES.out, hr9⟩⟩, ⟨fun h => by cases h⟩⟩
                  case measure => simp [intOf, bm]; omega
          · have HA5 := HA4.out.hdn hc3
            obtain ⟨b3, hb3⟩ : ∃ b : Nat, a3 + 1 = b := ⟨_, rfl⟩
            have hb3i : (a3 : Int) + 1 = (b3 : Int) := by omega
            rw [hb3] at HA5
            have hl5 := HA5.len
            have HA5 := Hx.mk HA5
            clear hb3
            go_wp2_with fail
            refine (refNumber_any (strL l) b3 r3.tail _ HA5.out hs).mono ?_
            rintro e6 w6 ⟨⟨a4, rfl, A4⟩, hb⟩
            have HQ := Hx.mk (HQ.out.keep hb)
            have B4 := nm3_bd 3 0 r3.tail
            obtain ⟨d, hd0⟩ : ∃ n, (nm3 3 0 r3.tail).1 = n := ⟨_, rfl⟩
            obtain ⟨r4, hr4⟩ : ∃ q, (nm3 3 0 r3.tail).2 = q := ⟨_, rfl⟩
            rw [hd0] at B4 ⊢
            rw [hr4] at A4
            have ha4 := A4.len
            have HA6 := Hx.mk A4
            have hd999 : d ≤ 999 := by omega
            have HEY := Hx.mk (HOF d r4 (show nm3 3 0 r3.tail = (d, r4) from Prod.ext hd0 hr4))
            clear hb A4 hd0 hr4 B4 HOF hc1 hc2 hc3
            by_cases hd1 : d < 1
            · have HNO : Hx (rexp r1 = none) := ⟨by rw [HEY.out, if_pos (.inl hd1)]⟩
              have hd2 : (d : Int) < 1 := by omega
              clear HEY hd1
              have HVV : Hx (v = (fun _ => 0) ∧ c = 8) := ⟨by
                have k := HV.out
                rw [← HPx.out, rpm_none HR1.out HNO.out] at k
                simp only [parR, Prod.mk.injEq] at k
                exact ⟨k.1.symm, k.2.symm⟩⟩
              obtain ⟨rfl, rfl⟩ := HVV.out
              have q0 := HQ.out.rc.cell 0 (by omega)
              have z0 := HQ.out.rc.fz 0 (by omega)
              have q1 := HQ.out.rc.cell 1 (by omega)
              have z1 := HQ.out.rc.fz 1 (by omega)
              have q2 := HQ.out.rc.cell 2 (by omega)
              have z2 := HQ.out.rc.fz 2 (by omega)
              have q3 := HQ.out.rc.cell 3 (by omega)
              have z3 := HQ.out.rc.fz 3 (by omega)
              have q4 := HQ.out.rc.cell 4 (by omega)
              have z4 := HQ.out.rc.fz 4 (by omega)
              have q5 := HQ.out.rc.cell 5 (by omega)
              have z5 := HQ.out.rc.fz 5 (by omega)
              go_wp2_with fail
              refine bodyPost_ret_by (v := .tuple #[PV (fun _ => 0), .int .i64 8]) (by simp [results, Tryz.results29, go_sem, q0, q1, q2, q3, q4, q5]) rfl ?_
              exact ⟨rfl, HQ.out.bl.trans (by repeat (first | with_reducible exact Below.refl _ _ | (with_reducible refine Below.setCell ?_ ?side _; case side => (first | exact Nat.le_refl _ | omega | (simp <;> omega))) | with_reducible apply Below.drew | with_reducible apply below_drewN))⟩
            · have hd2 : 1 ≤ (d : Int) := by omega
              have hd3 : ¬ (d : Int) = 0 := by omega
              obtain ⟨mm, hmm⟩ : ∃ mm, ((n2 : Int) * 12).tmod (d : Int) = mm := ⟨_, rfl⟩
              have hmn : mm = ((n2 * 12 % d : Nat) : Int) := by rw [← hmm]; exact (Int.ofNat_tmod (n2 * 12) d).symm
              by_cases hm0 : n2 * 12 % d = 0
              · have hm1 : mm = 0 := by omega
                subst hm1
                obtain ⟨ev, hev⟩ : ∃ ev, (-(n2 : Int) * 12).tdiv (d : Int) = ev := ⟨_, rfl⟩
                have HEX : Hx (rexp r1 = some (ev, r4)) := ⟨by
                  rw [HEY.out, if_neg (by omega), ← hev]
                  exact congrArg some (Prod.ext (show -((n2 * 12 / d : Nat) : Int) = (-(n2 : Int) * 12).tdiv (d : Int) by rw [Int.neg_mul, Int.neg_tdiv]; exact congrArg Neg.neg (Int.ofNat_tdiv (n2 * 12) d)) rfl)⟩
                have hev2 : -100000 ≤ ev ∧ ev ≤ 100000 := by
                  have e1 : ev = -((n2 * 12 / d : Nat) : Int) := by
                    rw [← hev]; rw [Int.neg_mul, Int.neg_tdiv]; exact (congrArg Neg.neg (Int.ofNat_tdiv (n2 * 12) d)).symm
                  have e2 : n2 * 12 / d ≤ n2 * 12 := Nat.div_le_self _ _
                  rw [e1]
                  generalize n2 * 12 / d = qq at e2
                  omega
                obtain ⟨hev3, hev4⟩ := hev2
                clear HEY hd1 hmn hm0
                have hl2 := HA6.out.len
                go_wp2_with fail
                go_loopw [14] (fun iv wr => ∃ k : Nat, k ≤ 6 ∧ iv = .int .i64 (k : Int) ∧ Hx (Qs w (setK p n1 ev k) wr)) (fun iv _ => 6 - (intOf iv).toNat)
                case atStart => exact ⟨0, by omega, rfl, ⟨by rw [setK_zero]; exact HQ.out⟩⟩
                case round =>
                  clear HQ
                  obtain ⟨k, hk, rfl, HQ⟩ := hrel
                  have : k = 0 ∨ k = 1 ∨ k = 2 ∨ k = 3 ∨ k = 4 ∨ k = 5 ∨ k = 6 := by omega
                  rcases this with rfl | rfl | rfl | rfl | rfl | rfl | rfl
                  · go_wp2_with fail
                    refine (refPrime_0 _).mono ?_
                    rintro e3 w3 ⟨rfl, rfl⟩
                    by_cases hh : n1 = 2
                    · have pc := HQ.out.pc.cell 0 (by omega)
                      have pf := HQ.out.pc.fz 0 (by omega)
                      have hq : (2 : Int) = (n1 : Int) := by omega
                      have HN := Hx.mk hh
                      clear hh
                      go_wp2
                      go_roundw
                      case rel => exact ⟨1, by omega, rfl, ⟨HQ.out.set _ (by omega) (setK_hit HN.out.symm)⟩⟩
                      case measure => simp [intOf]
                    · have hq : ¬ (2 : Int) = (n1 : Int) := by omega
                      have HN := Hx.mk hh
                      clear hh
                      go_wp2
                      go_roundw
                      case rel => exact ⟨1, by omega, rfl, ⟨HQ.out.congr (setK_miss fun x => HN.out x.symm)⟩⟩
                      case measure => simp [intOf]
                  · go_wp2_with fail
                    refine (refPrime_1 _).mono ?_
                    rintro e3 w3 ⟨rfl, rfl⟩
                    by_cases hh : n1 = 3
                    · have pc := HQ.out.pc.cell 1 (by omega)
                      have pf := HQ.out.pc.fz 1 (by omega)
                      have hq : (3 : Int) = (n1 : Int) := by omega
                      have HN := Hx.mk hh
                      clear hh
                      go_wp2
                      go_roundw
                      case rel => exact ⟨2, by omega, rfl, ⟨HQ.out.set _ (by omega) (setK_hit HN.out.symm)⟩⟩
                      case measure => simp [intOf]
                    · have hq : ¬ (3 : Int) = (n1 : Int) := by omega
                      have HN := Hx.mk hh
                      clear hh
                      go_wp2
                      go_roundw
                      case rel => exact ⟨2, by omega, rfl, ⟨HQ.out.congr (setK_miss fun x => HN.out x.symm)⟩⟩
                      case measure => simp [intOf]
                  · go_wp2_with fail
                    refine (refPrime_2 _).mono ?_
                    rintro e3 w3 ⟨rfl, rfl⟩
                    by_cases hh : n1 = 5
                    · have pc := HQ.out.pc.cell 2 (by omega)
                      have pf := HQ.out.pc.fz 2 (by omega)
                      have hq : (5 : Int) = (n1 : Int) := by omega
                      have HN := Hx.mk hh
                      clear hh
                      go_wp2
                      go_roundw
                      case rel => exact ⟨3, by omega, rfl, ⟨HQ.out.set _ (by omega) (setK_hit HN.out.symm)⟩⟩
                      case measure => simp [intOf]
                    · have hq : ¬ (5 : Int) = (n1 : Int) := by omega
                      have HN := Hx.mk hh
                      clear hh
                      go_wp2
                      go_roundw
                      case rel => exact ⟨3, by omega, rfl, ⟨HQ.out.congr (setK_miss fun x => HN.out x.symm)⟩⟩
                      case measure => simp [intOf]
                  · go_wp2_with fail
                    refine (refPrime_3 _).mono ?_
                    rintro e3 w3 ⟨rfl, rfl⟩
                    by_cases hh : n1 = 7
                    · have pc := HQ.out.pc.cell 3 (by omega)
                      have pf := HQ.out.pc.fz 3 (by omega)
                      have hq : (7 : Int) = (n1 : Int) := by omega
                      have HN := Hx.mk hh
                      clear hh
                      go_wp2
                      go_roundw
                      case rel => exact ⟨4, by omega, rfl, ⟨HQ.out.set _ (by omega) (setK_hit HN.out.symm)⟩⟩
                      case measure => simp [intOf]
                    · have hq : ¬ (7 : Int) = (n1 : Int) := by omega
                      have HN := Hx.mk hh
                      clear hh
                      go_wp2
                      go_roundw
                      case rel => exact ⟨4, by omega, rfl, ⟨HQ.out.congr (setK_miss fun x => HN.out x.symm)⟩⟩
                      case measure => simp [intOf]
                  · go_wp2_with fail
                    refine (refPrime_4 _).mono ?_
                    rintro e3 w3 ⟨rfl, rfl⟩
                    by_cases hh : n1 = 11
                    · have pc := HQ.out.pc.cell 4 (by omega)
                      have pf := HQ.out.pc.fz 4 (by omega)
                      have hq : (11 : Int) = (n1 : Int) := by omega
                      have HN := Hx.mk hh
                      clear hh
                      go_wp2
                      go_roundw
                      case rel => exact ⟨5, by omega, rfl, ⟨HQ.out.set _ (by omega) (setK_hit HN.out.symm)⟩⟩
                      case measure => simp [intOf]
                    · have hq : ¬ (11 : Int) = (n1 : Int) := by omega
                      have HN := Hx.mk hh
                      clear hh
                      go_wp2
                      go_roundw
                      case rel => exact ⟨5, by omega, rfl, ⟨HQ.out.congr (setK_miss fun x => HN.out x.symm)⟩⟩
                      case measure => simp [intOf]
                  · go_wp2_with fail
                    refine (refPrime_5 _).mono ?_
                    rintro e3 w3 ⟨rfl, rfl⟩
                    by_cases hh : n1 = 13
                    · have pc := HQ.out.pc.cell 5 (by omega)
                      have pf := HQ.out.pc.fz 5 (by omega)
                      have hq : (13 : Int) = (n1 : Int) := by omega
                      have HN := Hx.mk hh
                      clear hh
                      go_wp2
                      go_roundw
                      case rel => exact ⟨6, by omega, rfl, ⟨HQ.out.set _ (by omega) (setK_hit HN.out.symm)⟩⟩
                      case measure => simp [intOf]
                    · have hq : ¬ (13 : Int) = (n1 : Int) := by omega
                      have HN := Hx.mk hh
                      clear hh
                      go_wp2
                      go_roundw
                      case rel => exact ⟨6, by omega, rfl, ⟨HQ.out.congr (setK_miss fun x => HN.out x.symm)⟩⟩
                      case measure => simp [intOf]
                  · have HQ := Hx.mk (HQ.out.congr (setK_six p n1 ev))
                    obtain ⟨c9, hc9⟩ : ∃ c, hd r4 42 = c := ⟨_, rfl⟩
                    go_wp2_with fail
                    refine (refIs_any (strL l) a4 42 r4 _ HA6.out hs (by omega) c9 hc9).mono ?_
                    rintro e9 w9 ⟨rfl, hb⟩
                    have HQ := Hx.mk (HQ.out.keep hb)
                    clear hb
                    cases c9
                    · have HRES := Hx.mk ((rpm_last (p := p) (f := f) HN1.out HR1.out HEX.out hc9).symm.trans HPx.out)
                      go_wp2_with fail
                      go_roundw
                      case rel => exact ⟨a4, 0, setP p n1 ev, [], false, rfl, rfl, by omega, HQ, ⟨fun h => by cases h⟩, ⟨fun _ => HRES.out.symm⟩⟩
                      case measure => simp [intOf, bm]; omega
                    · have HRES := Hx.mk ((rpm_more (p := p) (f := f) HN1.out HR1.out HEX.out hc9).symm.trans HPx.out)
                      have HA9 := Hx.mk (HA6.out.hdn hc9)
                      have hl9 := tail_len hc9
                      have hl8 := HA9.out.len
                      have hl7 := rexp_len HEX.out
                      simp only at hl7
                      have ha9 : a4 + 1 ≤ 200 := by omega
                      have hr9 : r4.tail.length < f := by omega
                      have hlt : a < a4 + 1 := by omega
                      go_wp2_with fail
                      go_roundw
                      case rel => exact ⟨a4 + 1, f, setP p n1 ev, r4.tail, true, by go_num, rfl, ha9, HQ, ⟨fun _ => ⟨HA9.out, HRES.out, hr9⟩⟩, ⟨fun h => by cases h⟩⟩
                      case measure => simp [intOf, bm]; omega
              · have HNO : Hx (rexp r1 = none) := ⟨by rw [HEY.out, if_pos (.inr hm0)]⟩
                have hm1 : ¬ mm = 0 := by omega
                have hm2 : (mm != 0) = true := bne_iff_ne.2 hm1
                clear hm1
                clear HEY hd1 hmn hm0
                have HVV : Hx (v = (fun _ => 0) ∧ c = 8) := ⟨by
                  have k := HV.out
                  rw [← HPx.out, rpm_none HR1.out HNO.out] at k
                  simp only [parR, Prod.mk.injEq] at k
                  exact ⟨k.1.symm, k.2.symm⟩⟩
                obtain ⟨rfl, rfl⟩ := HVV.out
                have q0 := HQ.out.rc.cell 0 (by omega)
                have z0 := HQ.out.rc.fz 0 (by omega)
                have q1 := HQ.out.rc.cell 1 (by omega)
                have z1 := HQ.out.rc.fz 1 (by omega)
                have q2 := HQ.out.rc.cell 2 (by omega)
                have z2 := HQ.out.rc.fz 2 (by omega)
                have q3 := HQ.out.rc.cell 3 (by omega)
                have z3 := HQ.out.rc.fz 3 (by omega)
                have q4 := HQ.out.rc.cell 4 (by omega)
                have z4 := HQ.out.rc.fz 4 (by omega)
                have q5 := HQ.out.rc.cell 5 (by omega)
                have z5 := HQ.out.rc.fz 5 (by omega)
                go_wp2_with fail
                refine bodyPost_ret_by (v := .tuple #[PV (fun _ => 0), .int .i64 8]) (by simp [results, Tryz.results29, go_sem, q0, q1, q2, q3, q4, q5]) rfl ?_
                exact ⟨rfl, HQ.out.bl.trans (by repeat (first | with_reducible exact Below.refl _ _ | (with_reducible refine Below.setCell ?_ ?side _; case side => (first | exact Nat.le_refl _ | omega | (simp <;> omega))) | with_reducible apply Below.drew | with_reducible apply below_drewN))⟩
end Go.Proofs.YtdlfnonlalkjdaaGreatDoor
