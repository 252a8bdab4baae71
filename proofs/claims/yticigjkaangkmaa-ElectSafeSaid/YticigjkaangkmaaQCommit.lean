/- The contracts of node's WriteCommit. No condition but that the set has 32 bytes. -/
import Derived.Test.YticigjkaangkmaaQNodeRead
import Derived.Test.YticigjkaangkmaaQCore
namespace Go.Proofs.Yticigjkaangkmaa
open Go.RowKit
/-- a commit's cells, and its bytes -/
def ccs (e : Nat) (L : List UInt8) (s : Nat) : List Value := .int .u64 (e : Int) :: (bv L ++ [.int .u32 (s : Int)])
def cb (e : Nat) (L : List UInt8) (s : Nat) : List UInt8 := numB 8 e ++ (numB 4 s ++ L)
theorem ccs_length {e : Nat} {L : List UInt8} {s : Nat} (hL : L.length = 32) : (ccs e L s).length = 34 := by simp [ccs, bv, hL]
theorem cb_length {e : Nat} {L : List UInt8} {s : Nat} (hL : L.length = 32) : (cb e L s).length = 44 := by simp only [cb, List.length_append, numB_length, hL]
theorem ccs_last {e : Nat} {L : List UInt8} {s : Nat} (hL : L.length = 32) : (ccs e L s)[33]? = some (.int .u32 (s : Int)) := by
  unfold ccs
  rw [List.getElem?_cons_succ, List.getElem?_append_right (by rw [bv_length]; omega), bv_length, hL]
  rfl
theorem ccs_mid {e : Nat} {L : List UInt8} {s : Nat} {j : Nat} {u : Value} (h : (bv L)[j]? = some u) : (ccs e L s)[1 + j]? = some u := by
  unfold ccs
  rw [Nat.add_comm, List.getElem?_cons_succ, List.getElem?_append_left (get_lt h), h]
theorem Blk.live {w : World} {g : Nat} {t : TypeId} {e s : Nat} {L : List UInt8} (h : Blk w g t (ccs e L s)) (hL : L.length = 32) : Bytes w w.heap.size (.slice (some ⟨g, 1, none⟩) 32 32) L :=
  ⟨_, 32, by rw [hL], by omega, by simp [maxLen], fun j u hu => ⟨_, rfl, h.lt, by
    have ha : (⟨g, 1, none⟩ : Addr).add j = ⟨g, 1 + j, none⟩ := by unfold Addr.add; split <;> simp_all
    rw [ha, h.cell]
    exact ccs_mid hu⟩⟩
end Go.Proofs.Yticigjkaangkmaa

