/- Slices of texts in memory. No condition. -/
import Derived.Test.YtkpojlnfagonbaaQCore
namespace Go.Proofs.Ytkpojlnfagonbaa
open Go.RowKit
/-- v is a slice of the texts xs -/
def Strs (w : World) (B : Nat) (v : Value) (xs : List ByteArray) : Prop :=
  ∃ A c, v = .slice A xs.length c ∧ xs.length ≤ c ∧ c ≤ maxLen ∧ Row w B A (xs.map Value.string)
section
variable {w w' : World} {B B' : Nat} {v : Value} {xs : List ByteArray}
theorem Strs.keep (h : Strs w B v xs) (hk : ∀ p : Addr, p.block < B → w'.cell? p = w.cell? p) : Strs w' B v xs := by
  obtain ⟨A, c, e, h1, h2, h3⟩ := h
  exact ⟨A, c, e, h1, h2, h3.keep hk⟩
theorem Strs.more (h : Strs w B v xs) (hB : B ≤ B') : Strs w B' v xs := by
  obtain ⟨A, c, e, h1, h2, h3⟩ := h
  exact ⟨A, c, e, h1, h2, h3.more hB⟩
theorem Strs.below (h : Strs w B v xs) (hb : Below B w w') : Strs w' B v xs := h.keep fun _ hp => hb.cell hp
theorem Strs.after (h : Strs w w.heap.size v xs) (hb : Below w.heap.size w w') : Strs w' w'.heap.size v xs := (h.below hb).more hb.size
theorem Strs.nil (c : Nat) (hc : c ≤ maxLen) : Strs w B (.slice none 0 c) [] := ⟨none, c, rfl, Nat.zero_le _, hc, Row.nil⟩
theorem Strs.none_ (A : Option Addr) (c : Nat) (hc : c ≤ maxLen) : Strs w B (.slice A 0 c) [] := ⟨A, c, rfl, Nat.zero_le _, hc, Row.nil⟩
end
end Go.Proofs.Ytkpojlnfagonbaa

