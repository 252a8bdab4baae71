/- The contract of Check: the check bits; nothing that was there is changed. And the example of the document. No condition but the array's length. -/
import Derived.Test.YtnclefdlmbkjmaaDoorHamSums
namespace Go.Proofs.YtnclefdlmbkjmaaDoor
open Go.RowKit
theorem join12 (s q : Nat) (hs : s < 4096) : s ||| q * 4096 = s + q * 4096 := by
  have := Nat.two_pow_add_eq_or_of_lt (i := 12) hs q
  rw [Nat.or_comm, Nat.mul_comm, Nat.add_comm]
  exact this.symm
set_option maxRecDepth 100000 in
set_option maxHeartbeats 2000000 in
theorem check_any (L : List UInt8) (hL : L.length = 256) (w : World) : Calls Tryd.prog 18 #[.agg (cl L)] w fun e w' => e = .returned (.int .u16 ((HM.ck L : Nat) : Int)) ∧ Below w.heap.size w w' := by
  have A0 := Lib.hid (Arr.new w hL)
  obtain ⟨s, hs⟩ : ∃ s, s = HM.S L 2048 := ⟨_, rfl⟩
  obtain ⟨n, hn⟩ : ∃ n, n = HM.N L 2048 := ⟨_, rfl⟩
  obtain ⟨z, hz⟩ : ∃ z, z = HM.popT s 16 := ⟨_, rfl⟩
  obtain ⟨q, hq⟩ : ∃ q, q = (n + z) % 2 := ⟨_, rfl⟩
  have hs4 : s < 4096 := hs ▸ HM.S_lt L _ (by omega)
  have hn4 : n ≤ 2048 := hn ▸ HM.N_le L _
  have hz4 : z ≤ 16 := hz ▸ HM.popT_le s 16
  have hq2 : q < 2 := hq ▸ Nat.mod_lt _ (by omega)
  have e : s + q * 4096 = HM.ck L := by rw [hq, hz, hn, hs]; rfl
  have hor := u16_or_nat s (q * 4096) (by omega) (by omega)
  rw [join12 s q hs4, show ((q * 4096 : Nat) : Int) = (q : Int) * 4096 by omega] at hor
  have c1 := sums_any L hL
  rw [← hs, ← hn] at c1
  have c2 := ones16 s (by omega)
  rw [← hz] at c2
  have c3 := odd_any (n + z)
  rw [← hq] at c3
  obtain ⟨r, hr⟩ : ∃ r, r = s + q * 4096 := ⟨_, rfl⟩
  rw [← e]
  rw [← hr] at hor ⊢
  clear hs hn hz hq e hr
  go_enter Tryd.func18, Tryd.ntmps18
  go_wp2_with (with_reducible refine wpl_load (.tmp 1) rfl rfl A0.out rfl ?_)
  ((with_reducible refine (c1 _).mono ?_); rintro e w2 ⟨rfl, hb1⟩)
  have hb2 : Below w.heap.size w w2 := ((Below.refl _ _).alloc (Nat.le_refl _) _).trans (hb1.mono (by simp))
  clear hb1 A0
  go_wp2_with fail
  ((with_reducible refine (c2 _).mono ?_); rintro e w3 ⟨rfl, hb3⟩)
  have hb4 := hb2.trans (hb3.mono hb2.size)
  clear hb2 hb3
  go_wp2_with fail
  ((with_reducible refine (c3 _ (by omega) _).mono ?_); rintro e w' ⟨rfl, rfl⟩)
  go_wp2
  go_ret
  exact ⟨rfl, hb4⟩
def one0 : List UInt8 := 1 :: List.replicate 255 0
theorem set_one0 : (cl HM.zeros).setIfInBounds 0 (.int .u8 1) = cl one0 := by kernel_rfl
theorem cl_some (L : List UInt8) (h : L.length = 256) : ¬ cl L = #[] := fun e => by
  have := congrArg Array.size e
  rw [cl_size, h] at this
  cases this
theorem ck_one0 : HM.ck one0 = 4099 := by decide +kernel
end Go.Proofs.YtnclefdlmbkjmaaDoor
