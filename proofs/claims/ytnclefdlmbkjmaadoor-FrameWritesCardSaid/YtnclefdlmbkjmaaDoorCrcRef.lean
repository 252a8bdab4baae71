/- The contracts of crc.Sum and of the document's own On: both answer the division's rest, and change nothing. Condition: the table holds its sixteen numbers (Sum alone). -/
import Derived.Test.YtnclefdlmbkjmaaDoorCrcOn
namespace Go.Proofs.YtnclefdlmbkjmaaDoor
open Go.RowKit

theorem on_call (s : Nat) (hs : s < 4294967296) (v : Value) (l : List UInt8) (w : World) (B : Nat) (ht : Tab w) (hp : Joined w B v l) :
    Calls Tryd.prog 39 #[.int .u32 (s : Int), v] w fun e w' => e = .returned (.int .u32 (CM.on s l : Int)) ∧ w = w' := by
  obtain ⟨L, ⟨A, c, vs, rfl, hr, he, hlen⟩, rfl⟩ := hp
  exact on_any s hs A c vs L w B ht hr he hlen
theorem sum_call (v : Value) (l : List UInt8) (w : World) (B : Nat) (ht : Tab w) (hp : Joined w B v l) :
    Calls Tryd.prog 28 #[v] w fun e w' => e = .returned (.int .u32 (CM.on 0 l : Int)) ∧ w = w' := by
  have H := Lib.hid ht
  have HP := Lib.hid hp
  clear ht hp
  go_enter Tryd.func28, Tryd.ntmps28
  go_wp2_with fail
  refine (on_call 0 (by omega) v l w B H.out HP.out).mono ?_
  rintro e w' ⟨rfl, rfl⟩
  go_wp2
  go_ret
  exact ⟨rfl, rfl⟩

theorem andu1 (a : Nat) (ha : a < 4294967296) : bits .and .u32 (a : Int) 1 = ((a % 2 : Nat) : Int) := by
  have := u32_and_nat a 1 ha (by omega)
  rw [CM.and_one] at this
  exact this

theorem bit_step {Y b j M : Nat} (hb : b < 256) (hM : M < 4294967296) (h : M = CM.mid Y b j) :
    ∃ m q M' : Nat, bits .and .u32 (M : Int) 1 = (m : Int) ∧ bits .and .u32 ((b : Int) / 2 ^ j) 1 = (q : Int) ∧ bits .xor .u32 ((M : Int) / 2) 3988292384 = (M' : Int) ∧
      ((bits .xor .u32 (m : Int) (q : Int) = 0 ∧ Hid (M / 2 = CM.mid Y b (j + 1))) ∨ (bits .xor .u32 (m : Int) (q : Int) = 1 ∧ Hid (M' = CM.mid Y b (j + 1)))) := by
  have hbj : b / 2 ^ j ≤ b := Nat.div_le_self _ _
  have e : ((b : Int) / 2 ^ j) = ((b / 2 ^ j : Nat) : Int) := by simp
  have hx := u32x (M % 2) (b / 2 ^ j % 2) (by omega) (by omega)
  refine ⟨M % 2, b / 2 ^ j % 2, M / 2 ^^^ 3988292384, andu1 M hM, by rw [e]; exact andu1 _ (by omega), ?_, ?_⟩
  · rw [show ((M : Int) / 2) = ((M / 2 : Nat) : Int) from by omega]
    exact u32x (M / 2) 3988292384 (by omega) (by decide)
  · have hlt : M % 2 ^^^ b / 2 ^ j % 2 < 2 ^ 1 := Nat.xor_lt_two_pow (by omega) (by omega)
    rcases (show M % 2 ^^^ b / 2 ^ j % 2 = 0 ∨ M % 2 ^^^ b / 2 ^ j % 2 = 1 by omega) with h0 | h0
    · rw [h0] at hx
      subst h
      exact .inl ⟨hx, (CM.mid_succ0 Y b j h0).symm⟩
    · rw [h0] at hx
      subst h
      exact .inr ⟨hx, (CM.mid_succ1 Y b j h0).symm⟩

set_option maxHeartbeats 1000000 in
theorem ref_any (s : Nat) (hs : s < 4294967296) (A : Option Addr) (c : Nat) (l : List UInt8) (w : World) (B : Nat) (hr : Row w B A (bv l)) (hlen : l.length ≤ maxLen) :
    Calls Tryd.prog 20 #[.int .u32 (s : Int), .slice A l.length c] w fun e w' => e = .returned (.int .u32 (CM.on s l : Int)) ∧ w = w' := by
  unfold maxLen at hlen
  have x0 : bits .xor .u32 (s : Int) 4294967295 = ((4294967295 ^^^ s : Nat) : Int) := by
    have := u32x s 4294967295 hs (by omega)
    rw [Nat.xor_comm] at this
    exact this
  go_enter Tryd.func20, Tryd.ntmps20
  go_wp2
  have HX := Lib.hid x0
  clear x0
  go_loop [5, 6] (fun r i => ∃ k : Nat, k ≤ l.length ∧ i = .int .i64 k ∧ r = .int .u32 ((CM.fold (4294967295 ^^^ s) (l.take k) : Nat) : Int)) (fun _ i => l.length - (intOf i).toNat)
  case atStart => exact ⟨0, Nat.zero_le _, rfl, rfl⟩
  case round =>
    obtain ⟨k, hk, rfl, rfl⟩ := hrel
    by_cases hlt : k < l.length
    · obtain ⟨a, rfl, hab, hcell⟩ := hr.at_ (k := k) (by rw [bv_length]; exact hlt)
      have hb : (bv l)[k]? = some (.int .u8 (l[k].toNat : Int)) := bv_get hlt
      rw [List.getElem?_eq_getElem (by rw [bv_length]; exact hlt)] at hb
      rw [Option.some.inj hb] at hcell
      clear hb
      have hY32 : CM.fold (4294967295 ^^^ s) (l.take k) < 4294967296 := CM.fold_lt (CM.not_lt hs) _
      obtain ⟨Y, hY⟩ : ∃ Y, Y = CM.fold (4294967295 ^^^ s) (l.take k) := ⟨_, rfl⟩
      rw [← hY] at hY32 ⊢
      have hbl : l[k].toNat < 256 := l[k].toNat_lt
      obtain ⟨b, hb⟩ : ∃ b, b = l[k].toNat := ⟨_, rfl⟩
      rw [← hb] at hcell hbl
      have HB := Lib.hid hb
      have HY := Lib.hid hY
      clear hb hY
      go_wp2
      go_loop [5, 7] (fun r i => ∃ j : Nat, j ≤ 8 ∧ i = .int .i64 j ∧ r = .int .u32 ((CM.mid Y b j : Nat) : Int)) (fun _ i => 8 - (intOf i).toNat)
      case atStart => exact ⟨0, Nat.zero_le _, rfl, by rw [CM.mid_zero]⟩
      case round =>
        obtain ⟨j, hj, rfl, rfl⟩ := hrel
        have hM := CM.mid_lt hY32 hbl j
        obtain ⟨M, hMM⟩ : ∃ M, M = CM.mid Y b j := ⟨_, rfl⟩
        rw [← hMM] at hM ⊢
        have HM := Lib.hid hMM
        clear hMM
        by_cases hj8 : j < 8
        · obtain ⟨m, q, M', f1, f2, f3, ⟨f4, f5⟩ | ⟨f4, f5⟩⟩ := bit_step hbl hM HM.out
          · go_wp2
            clear f1 f2 f3 f4
            go_round
            case rel => exact ⟨j + 1, by omega, by go_num, by rw [← f5.out]; go_num⟩
            case measure => simp [intOf]; omega
          · go_wp2
            clear f1 f2 f3 f4
            go_round
            case rel => exact ⟨j + 1, by omega, by go_num, by rw [← f5.out]⟩
            case measure => simp [intOf]; omega
        · obtain rfl : j = 8 := by omega
          go_wp2
          go_round
          case rel => exact ⟨k + 1, by omega, by go_num, by rw [HM.out, CM.mid_eight Y b hbl, HY.out, HB.out, take_snoc l (List.getElem?_eq_getElem hlt), CM.fold_snoc]⟩
          case measure => simp [intOf]; omega
    · obtain rfl : k = l.length := by omega
      have hX32 : CM.fold (4294967295 ^^^ s) l < 4294967296 := CM.fold_lt (CM.not_lt hs) _
      rw [List.take_length]
      have x1 : bits .xor .u32 (CM.fold (4294967295 ^^^ s) l : Int) 4294967295 = ((CM.on s l : Nat) : Int) := by
        have := u32x _ 4294967295 hX32 (by omega)
        rw [Nat.xor_comm (CM.fold _ _)] at this
        exact this
      go_wp2
      go_ret
      exact ⟨rfl, rfl⟩
theorem ref_call (s : Nat) (hs : s < 4294967296) (v : Value) (l : List UInt8) (w : World) (B : Nat) (hp : Bytes w B v l) :
    Calls Tryd.prog 20 #[.int .u32 (s : Int), v] w fun e w' => e = .returned (.int .u32 (CM.on s l : Int)) ∧ w = w' := by
  obtain ⟨A, c, rfl, hl, hc, hr⟩ := hp
  exact ref_any s hs A c l w B hr (Nat.le_trans hl hc)
end Go.Proofs.YtnclefdlmbkjmaaDoor
