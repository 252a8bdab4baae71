/- The contract of turned: one of all bits is turned; nothing that was there is changed. No condition but the array's length. -/
import Derived.Test.YtoknobcicpokoaaHamFix
namespace Go.Proofs.Ytoknobcicpokoaa
open Go.RowKit
theorem hb_two (w : World) (L M : List UInt8) : Below w.heap.size w ((w.alloc (.cells (cl L) 23)).alloc (.cells (cl M) 23)) :=
  ((Below.refl w.heap.size w).alloc (Nat.le_refl _) _).alloc (by simp) _
theorem arr_one (w : World) {L : List UInt8} (hL : L.length = 256) (M : List UInt8) : Hid (Arr ((w.alloc (.cells (cl L) 23)).alloc (.cells (cl M) 23)) w.heap.size L) := Lib.hid ((Arr.new w hL).alloc _)
theorem arr_two (w : World) (L : List UInt8) {M : List UInt8} (hM : M.length = 256) : Hid (Arr ((w.alloc (.cells (cl L) 23)).alloc (.cells (cl M) 23)) (w.heap.size + 1) M) := by
  have := Arr.new (w.alloc (.cells (cl L) 23)) hM
  rw [World.size_alloc] at this
  exact Lib.hid this
set_option maxRecDepth 100000 in
set_option maxHeartbeats 4000000 in
theorem turned_any (L : List UInt8) (hL : L.length = 256) (c : Nat) (hc : c < 65536) (x : Nat) (hx : x < 2061) (w : World) : Calls Try.prog 13 #[.agg (cl L), .int .u16 (c : Int), .int .i64 (x : Int)] w fun e w' => e = .returned (.tuple #[.agg (cl (HM.tuL L x)), .int .u16 ((HM.tuC c x : Nat) : Int)]) ∧ Below w.heap.size w w' := by
  have z := zeroData
  by_cases hlt : x < 2048
  · obtain ⟨b, hb, hcl, HB⟩ := byte_at L hL (k := x / 8) (by omega)
    obtain ⟨m, hm, HM'⟩ := flip_byte hb HB.out
    have hset : (cl L).setIfInBounds (x / 8) (.int .u8 ((m.toNat : Nat) : Int)) = cl (HM.fl L x) := by rw [cl_set, HM'.out]
    have hfl : (HM.fl L x).length = 256 := by rw [HM.fl_length, hL]
    have hl : HM.tuL L x = HM.fl L x := if_pos hlt
    have hcc : HM.tuC c x = c := if_pos hlt
    rw [hl, hcc]
    have d1 : decide ((x : Int) < 2048) = true := by simp; omega
    clear hl hcc
    go_enter Try.func13, Try.ntmps13
    go_wp2_with (first | (with_reducible refine wpl_load (.tmp 3) rfl rfl (arr_one w hfl HM.zeros).out rfl ?_) | (with_reducible refine wpl_store (.tmp 6) (.tmp 20) rfl rfl (arr_two w (HM.fl L x) HM.zeros_length).out rfl hfl rfl ?_; intro w4 R4 g4 e4))
    refine bodyPost_ret (ret2 rfl _ R4 rfl) rfl ?_
    exact ⟨rfl, (hb_two w (HM.fl L x) HM.zeros).grown g4 (by simp; omega) (fun k e => by cases e; omega)⟩
  · have hl : HM.tuL L x = L := if_neg hlt
    have hcc : HM.tuC c x = c ^^^ 2 ^ (x - 2048) := if_neg hlt
    have hp : 2 ^ (x - 2048) < 65536 := Nat.lt_of_lt_of_le (Nat.pow_lt_pow_right (by omega) (by omega : x - 2048 < 13)) (by omega)
    obtain ⟨p, hpp⟩ : ∃ p, p = 2 ^ (x - 2048) := ⟨_, rfl⟩
    rw [← hpp] at hp hcc
    have hw : IntKind.u16.wrap ((2 : Int) ^ (x - 2048)) = (p : Int) := by
      have e : ((2 : Int) ^ (x - 2048)) = (p : Int) := by rw [hpp]; push_cast; rfl
      rw [e, IntKind.wrap_u16]
      omega
    have hxor := u16_xor_nat c p hc hp
    rw [← hcc] at hxor
    rw [hl]
    have d1 : decide ((x : Int) < 2048) = false := by simp; omega
    obtain ⟨r, hr⟩ : ∃ r, r = HM.tuC c x := ⟨_, rfl⟩
    rw [← hr] at hxor ⊢
    clear hl hcc hr hpp
    go_enter Try.func13, Try.ntmps13
    go_wp2_with (first | (with_reducible refine wpl_load (.tmp 3) rfl rfl (arr_one w hL HM.zeros).out rfl ?_) | (with_reducible refine wpl_store (.tmp 6) (.tmp 22) rfl rfl (arr_two w L HM.zeros_length).out rfl hL rfl ?_; intro w4 R4 g4 e4))
    refine bodyPost_ret (ret2 rfl _ R4 rfl) rfl ?_
    exact ⟨rfl, (hb_two w L HM.zeros).grown g4 (by simp; omega) (fun k e => by cases e; omega)⟩
end Go.Proofs.Ytoknobcicpokoaa
