/- node.weight, node.Has, and the reference's Has: the bit of a key. No condition. -/
import Derived.Test.YtppodbijdhcclaaQLiveMath
import Derived.Test.YtppodbijdhcclaaQNode
import Derived.Deep.QuietTactic
import Derived.BigQuiet
namespace Go.Proofs.Ytppodbijdhcclaa
open Go.RowKit
theorem bits_and8 {a b : Nat} (ha : a < 256) (hb : b < 256) : bits .and .u8 (a : Int) (b : Int) = ((a &&& b : Nat) : Int) := by
  have h : a &&& b ≤ a := Nat.and_le_left
  show IntKind.u8.wrap ((BitVec.ofInt 8 (a : Int) &&& BitVec.ofInt 8 (b : Int)).toNat : Int) = _
  rw [BitVec.toNat_and, BitVec.ofInt_natCast, BitVec.ofInt_natCast, BitVec.toNat_ofNat, BitVec.toNat_ofNat, Nat.mod_eq_of_lt ha, Nat.mod_eq_of_lt hb, IntKind.wrap_u8]
  omega
theorem bits_or8 {a b : Nat} (ha : a < 256) (hb : b < 256) : bits .or .u8 (a : Int) (b : Int) = ((a ||| b : Nat) : Int) := by
  have h : a ||| b < 2 ^ 8 := Nat.or_lt_two_pow ha hb
  show IntKind.u8.wrap ((BitVec.ofInt 8 (a : Int) ||| BitVec.ofInt 8 (b : Int)).toNat : Int) = _
  rw [BitVec.toNat_or, BitVec.ofInt_natCast, BitVec.ofInt_natCast, BitVec.toNat_ofNat, BitVec.toNat_ofNat, Nat.mod_eq_of_lt ha, Nat.mod_eq_of_lt hb, IntKind.wrap_u8]
  omega
theorem bits_xor8 {a b : Nat} (ha : a < 256) (hb : b < 256) : bits .xor .u8 (a : Int) (b : Int) = ((a ^^^ b : Nat) : Int) := by
  have h : a ^^^ b < 2 ^ 8 := Nat.xor_lt_two_pow ha hb
  show IntKind.u8.wrap ((BitVec.ofInt 8 (a : Int) ^^^ BitVec.ofInt 8 (b : Int)).toNat : Int) = _
  rw [BitVec.toNat_xor, BitVec.ofInt_natCast, BitVec.ofInt_natCast, BitVec.toNat_ofNat, BitVec.toNat_ofNat, Nat.mod_eq_of_lt ha, Nat.mod_eq_of_lt hb, IntKind.wrap_u8]
  omega
theorem bits_andNot8 {a b : Nat} (ha : a < 256) (hb : b < 256) : bits .andNot .u8 (a : Int) (b : Int) = ((a &&& (255 - b) : Nat) : Int) := by
  have h : a &&& (255 - b) ≤ a := Nat.and_le_left
  show IntKind.u8.wrap ((BitVec.ofInt 8 (a : Int) &&& ~~~(BitVec.ofInt 8 (b : Int))).toNat : Int) = _
  rw [BitVec.toNat_and, BitVec.toNat_not, BitVec.ofInt_natCast, BitVec.ofInt_natCast, BitVec.toNat_ofNat, BitVec.toNat_ofNat, Nat.mod_eq_of_lt ha, Nat.mod_eq_of_lt hb, IntKind.wrap_u8, show 2 ^ 8 - 1 - b = 255 - b from rfl]
  omega
theorem pow8_lt {r : Nat} (hr : r < 8) : 2 ^ r < 256 := Nat.pow_lt_pow_right (by omega) (show r < 8 from hr)
theorem pow8_int {r : Nat} (hr : r < 8) : (2 : Int) ^ r % 256 = ((2 ^ r : Nat) : Int) := by
  have h := pow8_lt hr
  have e : (2 : Int) ^ r = ((2 ^ r : Nat) : Int) := by push_cast; rfl
  rw [e]
  exact Int.emod_eq_of_lt (Int.natCast_nonneg _) (show ((2 ^ r : Nat) : Int) < ((256 : Nat) : Int) from Int.ofNat_lt.2 h)
theorem weight_any (k : Nat) (w : World) (hk : k < 256) : Calls Try.prog 67 #[.int .i64 (k : Int)] w fun e w' => e = .returned (.int .u8 ((2 ^ (k % 8) : Nat) : Int)) ∧ w = w' := by
  have hr : k % 8 < 8 := Nat.mod_lt _ (by omega)
  have h1 : (k : Int) % 8 = ((k % 8 : Nat) : Int) := by omega
  obtain ⟨r, hR⟩ : ∃ r, r = k % 8 := ⟨_, rfl⟩
  rw [← hR] at hr h1 ⊢
  have hp := Lib.hid (pow8_int hr)
  obtain ⟨p, hP⟩ : ∃ p, p = 2 ^ r := ⟨_, rfl⟩
  rw [← hP] at hp ⊢
  clear hR hP
  go_enter Try.func67, Try.ntmps67
  go_wp2
  go_ret
  exact ⟨congrArg Ending.returned (congrArg (Value.int IntKind.u8) hp.out), rfl⟩
theorem ldrewN_below (w : World) : ∀ m, Below w.heap.size w (w.drewN m)
  | 0 => Below.refl _ _
  | m + 1 => (ldrewN_below w m).drew
theorem lhas_nat (L : List UInt8) {k : Nat} (hk : k < 256) : lhas L (k : Int) = hasB L k := by
  unfold lhas
  rw [decide_eq_true (by omega), Bool.true_and, Int.toNat_natCast]
theorem LArr.byte {w : World} {g : Nat} {L : List UInt8} (h : LArr w g L) {j : Nat} (hj : j < 32) : w.cell? ⟨g, j, none⟩ = some (.int .u8 ((L.getD j 0).toNat : Int)) := by
  have hl : j < L.length := by rw [h.2]; exact hj
  rw [h.cell, cl_get hl, List.getD_eq_getElem?_getD, List.getElem?_eq_getElem hl, Option.getD_some]
/-- the walk of Has, where the key may be: the byte x, the bit p -/
theorem has_walk (C : Array Value) (k j x p : Nat) (b : Bool) (w : World) (hk : k < 256) (hi : (k : Int) / 8 = (j : Int)) (h32 : j < 32)
    (hc : (w.alloc (.cells C 53)).cell? ⟨w.heap.size, j, none⟩ = some (.int .u8 (x : Int)))
    (q2 : ∀ w, Calls Try.prog 67 #[.int .i64 (k : Int)] w fun e w' => e = .returned (.int .u8 (p : Int)) ∧ w = w')
    (hb : (bits .and .u8 (x : Int) (p : Int) != 0) = b) :
    Calls Try.prog 44 #[.agg C, .int .i64 (k : Int)] w fun e w' => e = .returned (.bool b) ∧ ∃ m, w' = (w.alloc (.cells C 53)).drewN m := by
  have HB := Lib.hid hb
  clear hb
  have hc2 : ∀ m, ((w.alloc (.cells C 53)).drewN m).cell? ⟨w.heap.size, j, none⟩ = some (.int .u8 (x : Int)) := fun m => hc
  have k1 : ∀ m, Calls Try.prog 66 #[.int .i64 (k : Int)] ((w.alloc (.cells C 53)).drewN m) fun e w' => e = .returned (.bool true) ∧ w' = (w.alloc (.cells C 53)).drewN m := fun m => (isKey_yes k hk _).mono fun _ _ h => ⟨h.1, h.2.symm⟩
  have k2 : ∀ m, Calls Try.prog 67 #[.int .i64 (k : Int)] ((w.alloc (.cells C 53)).drewN m) fun e w' => e = .returned (.int .u8 (p : Int)) ∧ w' = (w.alloc (.cells C 53)).drewN m := fun m => (q2 _).mono fun _ _ h => ⟨h.1, h.2.symm⟩
  have hj0 : (0 : Int) ≤ (j : Int) := by omega
  have hj1 : (j : Int) < 32 := by omega
  go_enter Try.func44, Try.ntmps44
  go_wp2_with fail
  go_quiet (first | (go_at_call 66; exact Calls.quiet_of_same (k1 _)) | (go_at_call 67; exact Calls.quiet_of_same (k2 _)))
  go_wp2_with fail
  go_ret
  exact ⟨congrArg Ending.returned (congrArg Value.bool HB.out), _, rfl⟩
theorem has_walk_no (C : Array Value) (z : Int) (w : World) (hz : z < 0 ∨ 255 < z) :
    Calls Try.prog 44 #[.agg C, .int .i64 z] w fun e w' => e = .returned (.bool false) ∧ ∃ m, w' = (w.alloc (.cells C 53)).drewN m := by
  have k1 : ∀ m, Calls Try.prog 66 #[.int .i64 z] ((w.alloc (.cells C 53)).drewN m) fun e w' => e = .returned (.bool false) ∧ w' = (w.alloc (.cells C 53)).drewN m := fun m => (isKey_no z hz _).mono fun _ _ h => ⟨h.1, h.2.symm⟩
  clear hz
  go_enter Try.func44, Try.ntmps44
  go_wp2_with fail
  go_quiet (first | (go_at_call 66; exact Calls.quiet_of_same (k1 _)))
  go_wp2_with fail
  go_ret
  exact ⟨rfl, _, rfl⟩
theorem bit_byte {L : List UInt8} {k : Nat} : (bits .and .u8 ((L.getD (k / 8) 0).toNat : Int) ((2 ^ (k % 8) : Nat) : Int) != 0) = hasB L k := by
  have hr : k % 8 < 8 := Nat.mod_lt _ (by omega)
  have hx := getD_lt L (k / 8)
  rw [bits_and8 hx (pow8_lt hr), Bool.eq_iff_iff, show (hasB L k = true) ↔ _ from (and_bit hx hr).symm]
  simp only [bne_iff_ne, ne_eq, Int.natCast_eq_zero]
theorem has_any (L : List UInt8) (hL : L.length = 32) (z : Int) (w : World) : Calls Try.prog 44 #[.agg (cl L), .int .i64 z] w fun e w' => e = .returned (.bool (lhas L z)) ∧ Below w.heap.size w w' := by
  have hB : ∀ m, Below w.heap.size w ((w.alloc (.cells (cl L) 53)).drewN m) := fun m => ((Below.refl w.heap.size w).alloc (Nat.le_refl _) _).trans ((ldrewN_below _ m).mono (by rw [World.size_alloc]; omega))
  by_cases hz : 0 ≤ z ∧ z < 256
  · obtain ⟨k, rfl⟩ : ∃ k : Nat, z = k := ⟨z.toNat, by omega⟩
    have hk : k < 256 := by omega
    rw [lhas_nat L hk]
    refine (has_walk (cl L) k (k / 8) _ _ _ w hk (by omega) (by omega) ((LArr.new w hL).byte (by omega)) (fun w => weight_any k w hk) bit_byte).mono ?_
    rintro e w' ⟨rfl, m, rfl⟩
    exact ⟨rfl, hB m⟩
  · have e0 : lhas L z = false := by unfold lhas; rw [decide_eq_false hz, Bool.false_and]
    rw [e0]
    refine (has_walk_no (cl L) z w (by omega)).mono ?_
    rintro e w' ⟨rfl, m, rfl⟩
    exact ⟨rfl, hB m⟩
end Go.Proofs.Ytppodbijdhcclaa

