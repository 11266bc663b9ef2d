/- TemperTuning: the law. -/
import Derived.Test.YtnbamjoadankmaaZJ
namespace Go.Proofs.Ytnbamjoadankmaa
open Go.RowKit D
theorem ttuning_law (a go ho : Option Addr) (n gn hn c gc hc : Nat) (M G H : Nat → Nat → Int) (v u : Nat → Int) (w : World) (hc1 : n ≤ c) (hc2 : c ≤ maxLen) (hgc : gn ≤ gc) (hgm : gc ≤ maxLen) (hhc : hn ≤ hc) (hhm : hc ≤ maxLen) (hR : CV w a n M) (hS : CV w go gn G) (hT : CV w ho hn H) : Calls Try.prog 16 #[.agg #[.slice a n c], .slice go gn gc, .slice ho hn hc, PV v, PV u] w fun e w' => e = .returned (.bool true) ∧ Below w.heap.size w w' := by
  obtain ⟨p, kp, hp, hpr⟩ := tune_det a go n c gn gc M G v hc1 hc2 hgc hgm
  obtain ⟨q, kq, hq, hqr⟩ := tune_det a go n c gn gc M G u hc1 hc2 hgc hgm
  rcases hpr with ⟨rfl, okv, pp, vp⟩ | ⟨hk, _⟩
  · rcases hqr with ⟨rfl, oku, pq, vq⟩ | ⟨hk, _⟩
    · obtain ⟨r, kr, hr, hrr⟩ := tune_det a go n c gn gc M G (fun j => v j + u j) hc1 hc2 hgc hgm
      obtain ⟨s, ks, hs, hsr⟩ := mul_det p q
      refine ttuning_ok a go ho n gn hn c gc hc M G H v u w hc1 hc2 hgc hgm hhc hhm hR hS hT p q r s kr ks okv oku pp pq vp vq hp hq hr hs ?_
      rcases hrr with ⟨h1, _, h3, h4⟩ | ⟨h1, _⟩
      · right
        have e : ∀ j, p j + q j = r j := fun j => by rw [pp, pq, h3]; exact (tu_add M v u G n j).symm
        rcases hsr with ⟨f1, f2, _⟩ | ⟨_, f2⟩
        · exact ⟨h1, f1, fun j _ => ((f2 j).trans (e j)).symm⟩
        · exact absurd ⟨vp, vq, by rw [show (fun j => p j + q j) = r from funext e]; exact h4⟩ f2
      · exact .inl h1
    · exact ttuning_bad a go ho n gn hn c gc hc M G H v u w hc1 hc2 hgc hgm hhc hhm hR hS hT p q 0 kq hp hq (.inr ⟨rfl, hk⟩)
  · exact ttuning_bad a go ho n gn hn c gc hc M G H v u w hc1 hc2 hgc hgm hhc hhm hR hS hT p q kp kq hp hq (.inl hk)
end Go.Proofs.Ytnbamjoadankmaa
