/- The contracts of the reference's Blank and Write; nothing that was there is changed. No condition but the array's length. -/
import Derived.Test.YtnclefdlmbkjmaaDoorFrameMath
import Derived.Test.YtnclefdlmbkjmaaDoorPageArr
import Derived.Test.YtnclefdlmbkjmaaDoorHamRef
import Derived.Test.YtnclefdlmbkjmaaDoorCrcRef
import Derived.Test.YtnclefdlmbkjmaaDoorByteTy
namespace Go.Proofs.YtnclefdlmbkjmaaDoor
open Go.RowKit
theorem bv_take (L : List UInt8) (n : Nat) : bv (L.take n) = (bv L).take n := by simp [bv]
/-- the first bytes of an array as a slice -/
theorem arr_bytes {w : World} {g n : Nat} {L X : List UInt8} (hA : Arr w g L) (hX : L.take n = X) (hn : X.length = n) (h : n ≤ 256) : Bytes w w.heap.size (.slice (some ⟨g, 0, none⟩) n 256) X :=
  ⟨some ⟨g, 0, none⟩, 256, by rw [hn], by omega, by simp [maxLen], fun j u hu => by
    refine ⟨_, rfl, hA.lt, ?_⟩
    have hadd : (⟨g, 0, none⟩ : Addr).add j = ⟨g, j, none⟩ := by unfold Addr.add; split <;> simp_all
    rw [hadd, hA.cell, ← Array.getElem?_toList, cl_list]
    have hj : j < n := by have := get_lt hu; rw [bv_length, hn] at this; exact this
    rw [← hX, bv_take, List.getElem?_take, if_pos hj] at hu
    exact hu⟩
/-- some bytes of an array as a slice -/
theorem arr_mid {w : World} {g o n c : Nat} {L X : List UInt8} (hA : Arr w g L) (hX : (L.drop o).take n = X) (hn : X.length = n) (hc : n ≤ c) (h : c ≤ 256) : Bytes w w.heap.size (.slice (some ⟨g, o, none⟩) n c) X :=
  ⟨some ⟨g, o, none⟩, c, by rw [hn], by omega, by simp only [maxLen]; omega, fun j u hu => by
    refine ⟨_, rfl, hA.lt, ?_⟩
    have hadd : (⟨g, o, none⟩ : Addr).add j = ⟨g, o + j, none⟩ := by unfold Addr.add; split <;> simp_all
    rw [hadd, hA.cell, ← Array.getElem?_toList, cl_list]
    have hj : j < n := by have := get_lt hu; rw [bv_length, hn] at this; exact this
    have e : bv X = ((bv L).drop o).take n := by rw [← hX]; simp [bv]
    rw [e, List.getElem?_take, if_pos hj, List.getElem?_drop] at hu
    exact hu⟩
/-- an empty row of bytes in block g -/
def Emp (w : World) (g : Nat) : Prop := w.heap[g]? = some (.cells #[] 5 (0, 0))
theorem Emp.lt {w : World} {g : Nat} (h : Emp w g) : g < w.heap.size := by
  rcases Nat.lt_or_ge g w.heap.size with h' | h'
  · exact h'
  · unfold Emp at h
    rw [Array.getElem?_eq_none h'] at h
    cases h
theorem Emp.after {w w' : World} {g : Nat} (h : Emp w g) (hb : Below w.heap.size w w') : Emp w' g := (hb.block g h.lt).trans h
theorem Emp.alloc {w : World} {g : Nat} (h : Emp w g) (o : Obj) : Emp (w.alloc o) g := h.after ((Below.refl _ _).alloc (Nat.le_refl _) o)
theorem Emp.grown {w w' : World} {g k : Nat} (h : Emp w g) (hg : w.grownBy w' (some k)) (hk : g ≠ k) : Emp w' g := (hg.block g h.lt (by simpa using hk)).trans h
theorem Emp.own {w : World} {g base : Nat} (h : Emp w g) (hb : base ≤ g) : Own 5 w base (.slice (some ⟨g, 0, none⟩) 0 0) [] :=
  ⟨rfl, .inr ⟨g, 0, #[], rfl, hb, h, Nat.le_refl _, by simp [maxLen], rfl, rfl⟩⟩
theorem pbyte_at (L : List UInt8) (hL : L.length = 258) {k : Nat} (hk : k < 258) : ∃ b : Nat, b < 256 ∧ (cl L)[k]? = some (.int .u8 (b : Int)) ∧ Hid (b = (L.getD k 0).toNat) := by
  have h := cl_get (l := L) (k := k) (by omega)
  refine ⟨_, L[k].toNat_lt, h, Lib.hid ?_⟩
  rw [List.getD_eq_getElem?_getD, List.getElem?_eq_getElem (by omega), Option.getD_some]
theorem u8_bit {b k u : Nat} (hb : b < 256) (hu : u = b / 2 ^ k % 2) : bits .and .u8 ((b : Int) / 2 ^ k) 1 = (u : Int) := by
  have hle : b / 2 ^ k < 256 := Nat.lt_of_le_of_lt (Nat.div_le_self _ _) hb
  have h := u8_and_nat (b / 2 ^ k) 1 hle (by omega)
  rw [show b / 2 ^ k &&& 1 = b / 2 ^ k % 2 from Nat.and_two_pow_sub_one_eq_mod _ 1, ← hu] at h
  rw [← h]
  push_cast
  rfl
set_option maxRecDepth 100000 in
set_option maxHeartbeats 4000000 in
theorem refBlank_any (L : List UInt8) (hL : L.length = 258) (w : World) : Calls Tryd.prog 14 #[.agg (cl L)] w fun e w' => e = .returned (.bool (FM.blank L)) ∧ Below w.heap.size w w' := by
  go_enter Tryd.func14, Tryd.ntmps14
  go_wp2_with fail
  go_loop [3, 4] (fun n i => ∃ k : Nat, k ≤ 258 ∧ i = .int .i64 k ∧ n = .int .i64 ((FM.zc L (8 * k) : Nat) : Int)) (fun _ i => 258 - (intOf i).toNat)
  case atStart => exact ⟨0, by omega, rfl, rfl⟩
  case round =>
    obtain ⟨k, hk, rfl, rfl⟩ := hrel
    by_cases hlt : k < 258
    · obtain ⟨b, hb, hc, HB⟩ := pbyte_at L hL hlt
      have dk : decide ((k : Int) < 258) = true := by simp; omega
      obtain ⟨M, hM⟩ : ∃ M, M = FM.zc L (8 * k) := ⟨_, rfl⟩
      have hM2 : M ≤ 2064 := by have := FM.zc_le L (8 * k); omega
      rw [← hM]
      have HM0 := Lib.hid hM
      clear hM
      go_wp2_with fail
      go_loop [3, 5] (fun n i => ∃ j : Nat, j ≤ 8 ∧ i = .int .i64 j ∧ n = .int .i64 ((FM.zc L (8 * k + j) : Nat) : Int)) (fun _ i => 8 - (intOf i).toNat)
      case atStart => exact ⟨0, by omega, rfl, by rw [HM0.out]; rfl⟩
      case round =>
        obtain ⟨j, hj, rfl, rfl⟩ := hrel
        obtain ⟨m, hm⟩ : ∃ m, m = FM.zc L (8 * k + j) := ⟨_, rfl⟩
        have hm2 : m ≤ 2072 := by have := FM.zc_le L (8 * k + j); omega
        rw [← hm]
        by_cases hj2 : j < 8
        · have dj : decide ((j : Int) < 8) = true := by simp; omega
          obtain ⟨u, hu⟩ : ∃ u, u = b / 2 ^ j % 2 := ⟨_, rfl⟩
          have hu2 : u < 2 := hu ▸ Nat.mod_lt _ (by omega)
          have v1 := congrArg (Value.int .u8) (u8_bit hb hu)
          have H1 : Hid (FM.zc L (8 * k + (j + 1)) = m + (1 - u)) := Lib.hid (by
            show FM.zc L (8 * k + j) + (1 - HM.bt L (8 * k + j)) = _
            rw [← hm, HM.bit_byte L k j hj2, hu, HB.out])
          clear hu hm
          rcases (by omega : u = 0 ∨ u = 1) with rfl | rfl
          · go_wp2
            go_round
            case rel => exact ⟨j + 1, by omega, by go_num, by rw [H1.out]; go_num⟩
            case measure => simp [intOf]; omega
          · go_wp2
            go_round
            case rel => exact ⟨j + 1, by omega, by go_num, by rw [H1.out]; go_num⟩
            case measure => simp [intOf]; omega
        · obtain rfl : j = 8 := by omega
          have HM1 := Lib.hid hm
          clear hm
          go_wp2
          go_round
          case rel => exact ⟨k + 1, by omega, by go_num, by rw [HM1.out]; rfl⟩
          case measure => simp [intOf]; omega
    · obtain rfl : k = 258 := by omega
      obtain ⟨M, hM⟩ : ∃ M, M = FM.zc L 2064 := ⟨_, rfl⟩
      have hM' : FM.zc L (8 * 258) = M := hM.symm
      have hd : FM.blank L = decide ((M : Int) < 2) := by
        unfold FM.blank
        rw [← hM]
        by_cases h : M < 2
        · rw [decide_eq_true h, decide_eq_true (by omega)]
        · rw [decide_eq_false h, decide_eq_false (by omega)]
      rw [hM']
      have HD := Lib.hid hd
      clear hM hM' hd
      go_wp2
      go_ret
      exact ⟨congrArg Ending.returned (congrArg Value.bool HD.out.symm), (Below.refl _ _).alloc (Nat.le_refl _) _⟩
end Go.Proofs.YtnclefdlmbkjmaaDoor
