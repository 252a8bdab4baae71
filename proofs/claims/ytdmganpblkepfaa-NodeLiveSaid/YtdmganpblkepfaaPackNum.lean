/- The contracts of pack's numbers: width, Num, and the document's own. No condition. -/
import Derived.Test.YtdmganpblkepfaaByteTy
namespace Go.Proofs.Ytdmganpblkepfaa
open Go.RowKit


/-- a size within its bounds -/
def wid (n : Int) : Nat := (min (max n 0) 8).toNat
theorem wid_le (n : Int) : wid n ≤ 8 := by unfold wid; omega

theorem ret_int {k : IntKind} {a b : Int} (h : a = b) : Ending.returned (.int k a) = .returned (.int k b) := by rw [h]
theorem width_any (n : Int) (w : World) : Calls Try.prog 51 #[.int .i64 n] w fun e w' => e = .returned (.int .i64 (wid n : Int)) ∧ w = w' := by
  rcases (show n < 0 ∨ 8 < n ∨ (0 ≤ n ∧ n ≤ 8) by omega) with h | h | ⟨h, h'⟩
  all_goals
    go_enter Try.func51, Try.ntmps51
    go_wp2
    go_ret
    exact ⟨ret_int (by unfold wid; omega), rfl⟩
theorem size_any (n : Int) (w : World) : Calls Try.prog 41 #[.int .i64 n] w fun e w' => e = .returned (.int .i64 (wid n : Int)) ∧ w = w' := by
  rcases (show n < 0 ∨ 8 < n ∨ (0 ≤ n ∧ n ≤ 8) by omega) with h | h | ⟨h, h'⟩
  all_goals
    go_enter Try.func41, Try.ntmps41
    go_wp2
    go_ret
    exact ⟨ret_int (by unfold wid; omega), rfl⟩

/-- a number's bytes -/
def numB : Nat → Nat → List UInt8
  | 0, _ => []
  | k + 1, n => UInt8.ofNat n :: numB k (n / 256)
theorem numB_length (k n : Nat) : (numB k n).length = k := by
  induction k generalizing n with
  | zero => rfl
  | succ k ih => simp [numB, ih]
theorem numB_get (k n i : Nat) (h : i < k) : (numB k n)[i]? = some (UInt8.ofNat (n / 256 ^ i)) := by
  induction k generalizing n i with
  | zero => omega
  | succ k ih =>
    cases i with
    | zero => simp [numB]
    | succ i =>
      rw [show (numB (k + 1) n)[i + 1]? = (numB k (n / 256))[i]? by simp [numB], ih (n / 256) i (by omega), Nat.div_div_eq_div_mul, Nat.pow_succ, Nat.mul_comm 256]
theorem numB_snoc (k n : Nat) : numB (k + 1) n = numB k n ++ [UInt8.ofNat (n / 256 ^ k)] := by
  apply List.ext_getElem?
  intro i
  rcases Nat.lt_trichotomy i k with h | h | h
  · rw [numB_get _ _ _ (by omega), List.getElem?_append_left (by rw [numB_length]; omega), numB_get _ _ _ h]
  · subst h
    rw [numB_get _ _ _ (by omega), List.getElem?_append_right (by rw [numB_length]; omega), numB_length]
    simp
  · rw [List.getElem?_eq_none (by rw [numB_length]; omega), List.getElem?_eq_none (by simp [numB_length]; omega)]

set_option maxHeartbeats 1000000 in
theorem refnum_any (s : Int) (n : Nat) (hn : n < 18446744073709551616) (w : World) :
    Calls Try.prog 19 #[.int .i64 s, .int .u64 (n : Int)] w fun e w' => ∃ A c, e = .returned (.slice A (wid s) c) ∧ Own 5 w' w.heap.size (.slice A (wid s) c) (numB (wid s) n) ∧ Below w.heap.size w w' := by
  obtain ⟨K, hK⟩ : ∃ K, K = wid s := ⟨_, rfl⟩
  have hK8 : K ≤ 8 := by rw [hK]; exact wid_le s
  rw [← hK]
  have HK := Lib.hid hK
  clear hK
  have hb1 := (Below.refl w.heap.size w).alloc (Nat.le_refl _) (.cells #[] 5)
  have O1 := Own.made (e := 5) (base := w.heap.size) (w := w) #[] 0 (Nat.le_refl _) (by simp) rfl w.heap.size rfl
  go_enter Try.func19, Try.ntmps19
  go_wp2
  go_loopw [5, 6, 7] (fun u x i wr => ∃ k : Nat, k ≤ K ∧ i = .int .i64 k ∧ x = .int .u64 ((n / 256 ^ k : Nat) : Int) ∧ ∃ A c, u = .slice A k c ∧ Own 5 wr w.heap.size (.slice A k c) (numB k n) ∧ Below w.heap.size w wr) (fun _ _ i _ => K - (intOf i).toNat)
  case atStart => exact ⟨0, Nat.zero_le _, rfl, by simp, _, _, rfl, O1, hb1⟩
  case round =>
    rename_i wr
    obtain ⟨k, hk, rfl, rfl, A, c, rfl, hO, hbr⟩ := hrel
    clear O1 hb1
    go_wp2_with fail
    ((with_reducible refine (size_any s _).mono ?_); rintro e w' ⟨rfl, rfl⟩)
    rw [← HK.out]
    obtain ⟨x, hx⟩ : ∃ x, x = n / 256 ^ k := ⟨_, rfl⟩
    have hxn : x < 18446744073709551616 := by rw [hx]; exact Nat.lt_of_le_of_lt (Nat.div_le_self _ _) hn
    rw [← hx]
    have HX := Lib.hid hx
    clear hx
    by_cases hlt : k < K
    · obtain ⟨y, hy⟩ : ∃ y, UInt8.ofNat x = y := ⟨_, rfl⟩
      have q1 : ((x : Int) % 256) = (y.toNat : Int) := by rw [← hy, UInt8.toNat_ofNat']; simp
      have HY := Lib.hid hy
      clear hy
      have hO1 := hO.alloc (.cells #[.int .u8 (y.toNat : Int)] 5)
      have hb1 := hbr.alloc hbr.size (.cells #[.int .u8 (y.toNat : Int)] 5)
      have hz1 := hb1.size
      have D1 := Lib.hid (Bytes.lit wr [y] 1 rfl (by simp [maxLen]) #[.int .u8 (y.toNat : Int)] rfl 5 (0, 0) wr.heap.size rfl (wr.heap.size + 1) (by omega))
      have hl1 : (numB k n).length + [y].length = k + 1 := by rw [numB_length]; rfl
      have hl2 : (numB k n).length + [y].length ≤ 1000000 := by rw [hl1]; omega
      have HL1 := Lib.hid hl1
      have HL2 := Lib.hid hl2
      clear hl1 hl2
      go_wp2_with (at_builtin; refine wpl_append_bytes byteTys rfl (.tmp 16) (.tmp 20) rfl rfl hO1 _ _ _ rfl D1.out HL2.out hz1 (k + 1) HL1.out ?_; intro A7 c7 w7 O7 g7 h7)
      go_roundw
      case rel =>
        refine ⟨k + 1, by omega, by go_num, ?_, A7, c7, rfl, ?_, hb1.trans g7⟩
        · rw [HX.out, Nat.pow_succ, ← Nat.div_div_eq_div_mul]; go_num
        · rw [numB_snoc, ← HX.out, HY.out]; exact O7
      case measure => simp [intOf]; omega
    · obtain rfl : k = K := by omega
      go_wp2
      go_ret
      exact ⟨A, c, rfl, hO, hbr⟩

theorem num_set (k K n : Nat) (h : k < K) : (numB k n ++ List.replicate (K - k) 0).set k (UInt8.ofNat (n / 256 ^ k)) = numB (k + 1) n ++ List.replicate (K - (k + 1)) 0 := by
  rw [List.set_append_right _ _ (by rw [numB_length]; omega), numB_length, Nat.sub_self, show K - k = (K - (k + 1)) + 1 by omega, List.replicate_succ, List.set_cons_zero, numB_snoc, List.append_assoc]
  rfl

theorem num_shift (n k : Nat) : ((n : Int) / 2 ^ (8 * k) % 256) = ((UInt8.ofNat (n / 256 ^ k)).toNat : Int) := by
  have e : (2 : Int) ^ (8 * k) = ((256 ^ k : Nat) : Int) := by
    rw [Int.pow_mul]
    simp
  rw [e, UInt8.toNat_ofNat']
  simp

set_option maxHeartbeats 1000000 in
theorem num_any (s : Int) (n : Nat) (w : World) :
    Calls Try.prog 35 #[.int .i64 s, .int .u64 (n : Int)] w fun e w' => ∃ A c, e = .returned (.slice A (wid s) c) ∧ Own 5 w' w.heap.size (.slice A (wid s) c) (numB (wid s) n) ∧ Below w.heap.size w w' := by
  obtain ⟨K, hK⟩ : ∃ K, K = wid s := ⟨_, rfl⟩
  have hK8 : K ≤ 8 := by rw [hK]; exact wid_le s
  rw [← hK]
  have HK := Lib.hid hK
  clear hK
  go_enter Try.func35, Try.ntmps35
  go_wp2_with fail
  ((with_reducible refine (width_any s _).mono ?_); rintro e w' ⟨rfl, hw⟩; rw [← hw]; clear hw w')
  rw [← HK.out]
  go_wp2_with (at_make; refine wpl_make_bytes byteTys rfl (.tmp 8) (.tmp 8) rfl _ _ _ _ K rfl rfl rfl rfl (by omega) (Nat.le_refl w.heap.size) ?_; intro w1 O1 hb1)
  go_loopw [12] (fun i wr => ∃ k : Nat, k ≤ K ∧ i = .int .i64 k ∧ Own 5 wr w.heap.size (.slice (some ⟨w.heap.size, 0, none⟩) K K) (numB k n ++ List.replicate (K - k) 0) ∧ Below w.heap.size w wr) (fun i _ => K - (intOf i).toNat)
  case atStart => exact ⟨0, Nat.zero_le _, rfl, by simpa [numB] using O1, hb1⟩
  case round =>
    rename_i wr
    obtain ⟨k, hk, rfl, hO, hbr⟩ := hrel
    clear O1 hb1
    by_cases hlt : k < K
    · have hg : (numB k n ++ List.replicate (K - k) (0 : UInt8))[k]? = some 0 := by
        rw [List.getElem?_append_right (by rw [numB_length]; omega), numB_length, Nat.sub_self, List.getElem?_replicate, if_pos (by omega)]
      have cc := hO.cell hg
      have cf := hO.free k
      clear hg
      go_wp2
      clear cc cf
      go_roundw
      case rel =>
        refine ⟨k + 1, by omega, by go_num, ?_, hbr.setCell (Nat.le_refl _) _⟩
        rw [num_shift n k, ← num_set k K n hlt]
        exact hO.set k _
      case measure => simp [intOf]; omega
    · obtain rfl : k = K := by omega
      go_wp2
      go_ret
      exact ⟨_, _, rfl, by simpa using hO, hbr⟩
end Go.Proofs.Ytdmganpblkepfaa
