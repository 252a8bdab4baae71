/- A text's bytes, put into memory. No condition. -/
import Derived.Test.YtppodbijdhcclaaQLogK
import Derived.Test.YtppodbijdhcclaaQCore
import Derived.WalkKit
import Derived.Lib.Strings
import Derived.Lib.Hide
import Derived.Laws.OwnMore
import Derived.Laws.IdiomStrings
namespace Go.Proofs.Ytppodbijdhcclaa
open Go.RowKit
/-- the bytes of a text, put into memory -/
theorem conv_bytes (w : World) (s : ByteArray) (c : Nat) (hc : s.size ≤ c) (hm : c ≤ maxLen) (t : TypeId) (fr : Nat × Nat) (B : Nat) (hB : w.heap.size < B) :
    Bytes (w.alloc (.cells (bytesRow s c) t fr)) B (.slice (some ⟨w.heap.size, 0, none⟩) s.data.toList.length c) s.data.toList := by
  refine ⟨_, c, rfl, by rw [← Lib.size_eq]; exact hc, hm, fun j u hu => ?_⟩
  refine (Row.new w (bytesRow s c) t fr w.heap.size rfl hB) j u ?_
  have hj := get_lt hu
  unfold bytesRow
  rw [Array.toList_append, List.getElem?_append_left (by simpa [bv] using hj)]
  simpa [bv] using hu
/-- a text's bytes: what the conversion leaves -/
theorem conv_any (s : ByteArray) (hs : s.size ≤ 1000000) (w : World) : ∃ c X, (convert 9 44 (.string s)).run Try.prog w = .ok (.slice (some ⟨w.heap.size, 0, none⟩) s.size c) X ∧ Below w.heap.size w X ∧ BytesS X (fun b => w.heap.size ≤ b ∧ b < X.heap.size) (.slice (some ⟨w.heap.size, 0, none⟩) s.size c) s.data.toList := by
  refine ⟨_, _, run_bytes_of_string w _ _ _ s Try.underlying9 Try.underlying44 Try.underlying5, (Below.refl _ _).drew.alloc (Nat.le_refl _) _, ?_⟩
  have h := conv_bytes w.drew s (grownCap w s.size 0 5) (grownCap_ge _ _ _ _) (grownCap_le_maxLen _ _ _ _ (by simp only [maxLen]; omega)) 5 ((bytesRow s (grownCap w s.size 0 5)).size, (bytesRow s (grownCap w s.size 0 5)).size + 1) (w.heap.size + 1) (Nat.lt_succ_self _)
  obtain ⟨A, c, e, h1, h2, h3⟩ := h
  refine ⟨A, c, by rw [← e, ← Lib.size_eq]; rfl, h1, h2, fun j u hu => ?_⟩
  obtain ⟨a, ea, hb, hc⟩ := h3 j u hu
  cases e
  cases ea
  exact ⟨_, rfl, ⟨Nat.le_refl _, by simp⟩, hc⟩
end Go.Proofs.Ytppodbijdhcclaa

