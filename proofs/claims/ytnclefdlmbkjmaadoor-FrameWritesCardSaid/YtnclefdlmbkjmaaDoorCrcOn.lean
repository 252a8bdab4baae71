/- The contract of the check sum's On and Sum: over any parts they answer the division's rest, and change nothing. Condition: the table holds its sixteen numbers. -/
import Derived.Test.YtnclefdlmbkjmaaDoorProg
import Derived.Test.YtnclefdlmbkjmaaDoorBase
import Derived.Test.YtnclefdlmbkjmaaDoorCrcMath
import Derived.Lib.LaidTab
namespace Go.Proofs.YtnclefdlmbkjmaaDoor
open Go.RowKit

theorem u32x (a b : Nat) (ha : a < 4294967296) (hb : b < 4294967296) : bits .xor .u32 (a : Int) (b : Int) = ((a ^^^ b : Nat) : Int) := u32_xor_nat a b ha hb
/-- the table -/
def Tab (w : World) : Prop := ∀ r, r < 16 → w.cell? ⟨0, r, none⟩ = some (.int .u32 ((CM.nibs.getD r 0 : Nat) : Int))

theorem Tab.below {w w' : World} {B : Nat} (h : Tab w) (hb : Below B w w') (hB : 0 < B) : Tab w' := fun r hr => (hb.cell (p := ⟨0, r, none⟩) hB).trans (h r hr)
theorem Tab.lt {w : World} (h : Tab w) : 0 < w.heap.size := World.block_lt_of_cell? w _ (h 0 (by omega))
theorem notu (a : Nat) (ha : a < 4294967296) : bits .xor .u32 IntKind.u32.max (a : Int) = ((4294967295 ^^^ a : Nat) : Int) := u32_xor_nat 4294967295 a (by omega) ha
theorem andu15 (a : Nat) (ha : a < 4294967296) : bits .and .u32 (a : Int) 15 = ((a % 16 : Nat) : Int) := by
  have := u32_and_nat a 15 ha (by omega)
  rw [show a &&& 15 = a % 16 from Nat.and_two_pow_sub_one_eq_mod a 4] at this
  exact this

theorem tab_step {w : World} (ht : Tab w) (z : Nat) (hz : z < 4294967296) :
    ∃ r n : Nat, bits .and .u32 (z : Int) 15 = (r : Int) ∧ w.cell? ⟨0, r, none⟩ = some (.int .u32 (n : Int)) ∧ r < 16 ∧ bits .xor .u32 ((z : Int) / 16) (n : Int) = ((CM.Tn 4 z : Nat) : Int) := by
  have hn : CM.nibs.getD (z % 16) 0 < 4294967296 := by
    rw [CM.nibs_eq _ (by omega)]; exact CM.Tn_lt 4 (by omega)
  refine ⟨z % 16, CM.nibs.getD (z % 16) 0, andu15 z hz, ht _ (by omega), by omega, ?_⟩
  rw [show ((z : Int) / 16) = ((z / 16 : Nat) : Int) from by omega, u32x _ _ (by omega) hn, CM.nib_step]
theorem steps {w : World} (ht : Tab w) (Y b : Nat) (hY : Y < 4294967296) (hb : b < 256) :
    ∃ z r1 n1 z2 r2 n2 z3 : Nat, bits .xor .u32 (Y : Int) (b : Int) = (z : Int) ∧
      bits .and .u32 (z : Int) 15 = (r1 : Int) ∧ w.cell? ⟨0, r1, none⟩ = some (.int .u32 (n1 : Int)) ∧ r1 < 16 ∧ bits .xor .u32 ((z : Int) / 16) (n1 : Int) = (z2 : Int) ∧
      bits .and .u32 (z2 : Int) 15 = (r2 : Int) ∧ w.cell? ⟨0, r2, none⟩ = some (.int .u32 (n2 : Int)) ∧ r2 < 16 ∧ bits .xor .u32 ((z2 : Int) / 16) (n2 : Int) = (z3 : Int) ∧ Hid (z3 = CM.bst Y b) := by
  have hz : Y ^^^ b < 4294967296 := Nat.xor_lt_two_pow (n := 32) hY (by omega)
  obtain ⟨r1, n1, a1, a2, a3, a4⟩ := tab_step ht (Y ^^^ b) hz
  obtain ⟨r2, n2, b1, b2, b3, b4⟩ := tab_step ht (CM.Tn 4 (Y ^^^ b)) (CM.Tn_lt 4 hz)
  exact ⟨_, r1, n1, _, r2, n2, _, u32x Y b hY (by omega), a1, a2, a3, a4, b1, b2, b3, b4, (CM.bst_eq Y b).symm⟩

set_option maxHeartbeats 1000000 in
theorem on_any (s : Nat) (hs : s < 4294967296) (A : Option Addr) (c : Nat) (vs : List Value) (L : List (List UInt8)) (w : World) (B : Nat) (ht : Tab w) (hr : Row w B A vs) (he : Each w B vs L) (hlen : vs.length ≤ maxLen) :
    Calls Tryd.prog 39 #[.int .u32 (s : Int), .slice A vs.length c] w fun e w' => e = .returned (.int .u32 (CM.on s L.flatten : Int)) ∧ w = w' := by
  unfold maxLen at hlen
  have x0 := notu s hs
  have hN : CM.fold (4294967295 ^^^ s) ([] : List UInt8) < 4294967296 := CM.fold_lt (CM.not_lt hs) _
  go_enter Tryd.func39, Tryd.ntmps39
  go_wp2
  have HX := Lib.hid x0
  clear x0
  go_loop [5, 14] (fun r i => ∃ k : Nat, k ≤ vs.length ∧ i = .int .i64 k ∧ r = .int .u32 ((CM.fold (4294967295 ^^^ s) (L.take k).flatten : Nat) : Int)) (fun _ i => vs.length - (intOf i).toNat)
  case atStart => exact ⟨0, Nat.zero_le _, rfl, rfl⟩
  case round =>
    obtain ⟨k, hk, rfl, rfl⟩ := hrel
    by_cases hlt : k < vs.length
    · obtain ⟨a, rfl, hab, hcell⟩ := hr.at_ hlt
      obtain ⟨l, hl, Ai, ci, hv, hlc, hcm, hrow⟩ := he.at_ hlt
      rw [hv] at hcell
      have HV := Lib.hid hv
      have HL := Lib.hid hl
      clear hv hl
      unfold maxLen at hcm
      obtain ⟨X, hX⟩ : ∃ X, X = CM.fold (4294967295 ^^^ s) (L.take k).flatten := ⟨_, rfl⟩
      have hX32 : X < 4294967296 := by rw [hX]; exact CM.fold_lt (CM.not_lt hs) _
      rw [← hX]
      have HXX := Lib.hid hX
      clear hX
      go_wp2
      go_loop [5, 20] (fun r i => ∃ j : Nat, j ≤ l.length ∧ i = .int .i64 j ∧ r = .int .u32 ((CM.fold X (l.take j) : Nat) : Int)) (fun _ i => l.length - (intOf i).toNat)
      case atStart => exact ⟨0, Nat.zero_le _, rfl, rfl⟩
      case round =>
        obtain ⟨j, hj, rfl, rfl⟩ := hrel
        by_cases hjl : j < l.length
        · obtain ⟨a2, rfl, ha2, hcell2⟩ := hrow.at_ (k := j) (by rw [bv_length]; exact hjl)
          have hb : (bv l)[j]? = some (.int .u8 (l[j].toNat : Int)) := bv_get hjl
          rw [List.getElem?_eq_getElem (by rw [bv_length]; exact hjl)] at hb
          rw [Option.some.inj hb] at hcell2
          clear hb
          have hY32 : CM.fold X (l.take j) < 4294967296 := CM.fold_lt hX32 _
          obtain ⟨Y, hY⟩ : ∃ Y, Y = CM.fold X (l.take j) := ⟨_, rfl⟩
          rw [← hY] at hY32 ⊢
          have hbl : l[j].toNat < 256 := l[j].toNat_lt
          obtain ⟨b, hb⟩ : ∃ b, b = l[j].toNat := ⟨_, rfl⟩
          rw [← hb] at hcell2 hbl
          have HB := Lib.hid hb
          have HY := Lib.hid hY
          clear hb hY
          obtain ⟨z, r1, n1, z2, r2, n2, z3, f1, f2, c1, q1, f3, f4, c2, q2, f5, hz3⟩ := steps ht Y b hY32 hbl
          go_wp2
          clear f1 f2 c1 f3 f4 c2 f5
          go_round
          case rel => exact ⟨j + 1, by omega, by go_num, by rw [hz3.out, HY.out, HB.out, take_snoc l (List.getElem?_eq_getElem hjl), CM.fold_snoc]⟩
          case measure => simp [intOf]; omega
        · obtain rfl : j = l.length := by omega
          go_wp2
          go_round
          case rel => exact ⟨k + 1, by omega, by go_num, by rw [take_snoc L HL.out, List.flatten_append, CM.fold_append, ← HXX.out]; simp⟩
          case measure => simp [intOf]; omega
    · obtain rfl : k = vs.length := by omega
      have hX32 : CM.fold (4294967295 ^^^ s) L.flatten < 4294967296 := CM.fold_lt (CM.not_lt hs) _
      rw [he.1, List.take_length]
      have x1 := notu _ hX32
      go_wp2
      go_ret
      exact ⟨rfl, rfl⟩
end Go.Proofs.YtnclefdlmbkjmaaDoor
