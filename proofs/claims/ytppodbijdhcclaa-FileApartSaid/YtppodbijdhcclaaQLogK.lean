/- Slices of bytes that a call has made and holds: in which blocks they lie. No condition. -/
import Derived.Test.YtppodbijdhcclaaQCore
namespace Go.Proofs.Ytppodbijdhcclaa
open Go.RowKit

theorem sliceTys : OneCell Try.prog 141 44 (.slice none 0 0) 24 := OneCell.mk' Try.underlying141 (by kernel_rfl) (by decide)

/-- bytes that lie in blocks of which S speaks -/
def BytesS (w : World) (S : Nat → Prop) (v : Value) (l : List UInt8) : Prop :=
  ∃ A c, v = .slice A l.length c ∧ l.length ≤ c ∧ c ≤ maxLen ∧ ∀ (j : Nat) (u : Value), (bv l)[j]? = some u → ∃ a, A = some a ∧ S a.block ∧ w.cell? (a.add j) = some u
def EachS (w : World) (S : Nat → Prop) (xs : List Value) (L : List (List UInt8)) : Prop :=
  xs.length = L.length ∧ ∀ (i : Nat) (v : Value), xs[i]? = some v → ∃ l, L[i]? = some l ∧ BytesS w S v l
theorem BytesS.keep {w w' : World} {S S' : Nat → Prop} {v : Value} {l : List UInt8} (h : BytesS w S v l) (hk : ∀ k, S k → S' k ∧ w'.heap[k]? = w.heap[k]?) : BytesS w' S' v l := by
  obtain ⟨A, c, h1, h2, h3, h4⟩ := h
  refine ⟨A, c, h1, h2, h3, fun j u hu => ?_⟩
  obtain ⟨a, e, hs, hc⟩ := h4 j u hu
  exact ⟨a, e, (hk _ hs).1, (World.cell?_of_block (w := w) (w' := w') (a := a.add j) (by rw [add_block]; exact (hk _ hs).2)).trans hc⟩
theorem EachS.keep {w w' : World} {S S' : Nat → Prop} {xs : List Value} {L : List (List UInt8)} (h : EachS w S xs L) (hk : ∀ k, S k → S' k ∧ w'.heap[k]? = w.heap[k]?) : EachS w' S' xs L :=
  ⟨h.1, fun i v hv => by obtain ⟨l, hl, hb⟩ := h.2 i v hv; exact ⟨l, hl, hb.keep hk⟩⟩
theorem EachS.snoc {w : World} {S : Nat → Prop} {xs : List Value} {L : List (List UInt8)} {v : Value} {l : List UInt8} (h : EachS w S xs L) (hv : BytesS w S v l) : EachS w S (xs ++ [v]) (L ++ [l]) := by
  refine ⟨by simp [h.1], fun i u hu => ?_⟩
  rcases Nat.lt_or_ge i xs.length with hi | hi
  · rw [List.getElem?_append_left hi] at hu
    obtain ⟨m, hm, hb⟩ := h.2 i u hu
    exact ⟨m, by rw [List.getElem?_append_left (by rw [← h.1]; exact hi)]; exact hm, hb⟩
  · rw [List.getElem?_append_right hi] at hu
    have hi0 : i - xs.length = 0 := by
      have := get_lt hu
      simp at this
      omega
    rw [hi0] at hu
    simp only [List.getElem?_cons_zero, Option.some.injEq] at hu
    subst hu
    exact ⟨l, by rw [List.getElem?_append_right (by rw [← h.1]; exact hi), ← h.1, hi0]; rfl, hv⟩
theorem BytesS.bytes {w : World} {S : Nat → Prop} {B : Nat} {v : Value} {l : List UInt8} (h : BytesS w S v l) (hS : ∀ k, S k → k < B) : Bytes w B v l := by
  obtain ⟨A, c, h1, h2, h3, h4⟩ := h
  refine ⟨A, c, h1, h2, h3, fun j u hu => ?_⟩
  obtain ⟨a, e, hs, hc⟩ := h4 j u hu
  exact ⟨a, e, hS _ hs, hc⟩
theorem EachS.each {w : World} {S : Nat → Prop} {B : Nat} {xs : List Value} {L : List (List UInt8)} (h : EachS w S xs L) (hS : ∀ k, S k → k < B) : Each w B xs L :=
  ⟨h.1, fun i v hv => by obtain ⟨l, hl, hb⟩ := h.2 i v hv; exact ⟨l, hl, hb.bytes hS⟩⟩
theorem Own.bytesS {e : TypeId} {w : World} {base : Nat} {v : Value} {l : List UInt8} (h : Own e w base v l) (hl : l.length ≤ maxLen) : BytesS w (fun k => v.ownBlock = some k) v l := by
  obtain ⟨A, c, h1, h2, h3, h4⟩ := h.bytes hl
  refine ⟨A, c, h1, h2, h3, fun j u hu => ?_⟩
  obtain ⟨a, e, _, hc⟩ := h4 j u hu
  refine ⟨a, e, ?_, hc⟩
  subst h1 e
  rfl
end Go.Proofs.Ytppodbijdhcclaa

