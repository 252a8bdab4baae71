/- The contracts of node's Read, and of the document's Read. No condition but that the bytes are there. -/
import Derived.Test.YticigjkaangkmaaQNodeRef
import Derived.Test.YticigjkaangkmaaQCore
namespace Go.Proofs.Yticigjkaangkmaa
open Go.RowKit
def nkey (l : List UInt8) : Nat := le (l.take 1)
def nepoch (l : List UInt8) : Nat := le ((l.drop 1).take 8)
theorem nkey_lt (l : List UInt8) : nkey l < 256 := by
  have h := le_lt (l.take 1)
  have h2 : 256 ^ (l.take 1).length ≤ 256 ^ 1 := Nat.pow_le_pow_right (by omega) (by rw [List.length_take]; omega)
  unfold nkey
  omega
theorem nepoch_lt (l : List UInt8) : nepoch l < 18446744073709551616 := by
  have h := le_lt ((l.drop 1).take 8)
  have h2 : 256 ^ ((l.drop 1).take 8).length ≤ 256 ^ 8 := Nat.pow_le_pow_right (by omega) (by rw [List.length_take]; omega)
  unfold nepoch
  omega
theorem numB_le (l : List UInt8) : numB l.length (le l) = l := by
  induction l with
  | nil => rfl
  | cons b l ih =>
    have h1 : (b.toNat + 256 * le l) / 256 = le l := by
      have := b.toNat_lt
      omega
    have h2 : UInt8.ofNat (b.toNat + 256 * le l) = b := by
      apply UInt8.toNat_inj.1
      rw [UInt8.toNat_ofNat']
      have := b.toNat_lt
      omega
    simp only [List.length_cons, le, numB, h1, h2, ih]
/-- what was read is written as the same bytes -/
theorem nb_read (l : List UInt8) (h : 9 ≤ l.length) : nb (nkey l) (nepoch l) (l.drop 9) = l := by
  unfold nb nkey nepoch
  have h1 := numB_le (l.take 1)
  have h2 := numB_le ((l.drop 1).take 8)
  rw [List.length_take, show min 1 l.length = 1 by omega] at h1
  rw [List.length_take, List.length_drop, show min 8 (l.length - 1) = 8 by omega] at h2
  rw [h1, h2]
  have e : l.drop 9 = (l.drop 1).drop 8 := by rw [List.drop_drop]
  rw [e, List.take_append_drop, List.take_append_drop]
/-- .. and what was written is read as it was -/
theorem read_nb (k e : Nat) (l : List UInt8) (hk : k < 256) (he : e < 18446744073709551616) : nkey (nb k e l) = k ∧ nepoch (nb k e l) = e ∧ (nb k e l).drop 9 = l := by
  have t1 : (nb k e l).take 1 = numB 1 k := by unfold nb; rw [List.take_append_of_le_length (by rw [numB_length]; omega), List.take_of_length_le (by rw [numB_length]; omega)]
  have d1 : (nb k e l).drop 1 = numB 8 e ++ l := by unfold nb; rw [List.drop_append_of_le_length (by rw [numB_length]; omega), List.drop_of_length_le (by rw [numB_length]; omega), List.nil_append]
  refine ⟨?_, ?_, ?_⟩
  · unfold nkey; rw [t1, le_numB]; omega
  · unfold nepoch; rw [d1, List.take_append_of_le_length (by rw [numB_length]; omega), List.take_of_length_le (by rw [numB_length]; omega), le_numB]; omega
  · rw [show 9 = 1 + 8 by rfl, ← List.drop_drop, d1, List.drop_append_of_le_length (by rw [numB_length]; omega), List.drop_of_length_le (by rw [numB_length]; omega), List.nil_append]
end Go.Proofs.Yticigjkaangkmaa

