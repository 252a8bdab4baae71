/- Which nodes there are, as 32 bytes: has and put at a key, and their laws. No condition. -/
import Derived.Test.YtppodbijdhcclaaQLiveArr
namespace Go.Proofs.Ytppodbijdhcclaa
def hasB (L : List UInt8) (k : Nat) : Bool := (L.getD (k / 8) 0).toNat.testBit (k % 8)
def putB (L : List UInt8) (k : Nat) (b : Bool) : List UInt8 := if hasB L k = b then L else L.set (k / 8) (UInt8.ofNat ((L.getD (k / 8) 0).toNat ^^^ 2 ^ (k % 8)))
def lhas (L : List UInt8) (z : Int) : Bool := decide (0 ≤ z ∧ z < 256) && hasB L z.toNat
def lput (L : List UInt8) (b : Bool) (z : Int) : List UInt8 := if 0 ≤ z ∧ z < 256 then putB L z.toNat b else L
def lputs (L : List UInt8) (b : Bool) (zs : List Int) : List UInt8 := zs.foldl (fun L z => lput L b z) L
theorem putB_length (L : List UInt8) (k : Nat) (b : Bool) : (putB L k b).length = L.length := by unfold putB; split <;> simp
theorem lput_length (L : List UInt8) (b : Bool) (z : Int) : (lput L b z).length = L.length := by unfold lput; split; exact putB_length _ _ _; rfl
theorem lputs_length (b : Bool) : ∀ (zs : List Int) (L : List UInt8), (lputs L b zs).length = L.length
  | [], _ => rfl
  | z :: zs, L => by
    have := lputs_length b zs (lput L b z)
    unfold lputs at this ⊢
    rw [List.foldl_cons, this, lput_length]
theorem lputs_snoc (L : List UInt8) (b : Bool) (zs : List Int) (z : Int) : lputs L b (zs ++ [z]) = lput (lputs L b zs) b z := by
  unfold lputs
  rw [List.foldl_append, List.foldl_cons, List.foldl_nil]
theorem xor_lt {x r : Nat} (hx : x < 256) (hr : r < 8) : x ^^^ 2 ^ r < 256 := by
  have h2 : 2 ^ r < 2 ^ 8 := Nat.pow_lt_pow_right (by omega) hr
  exact Nat.xor_lt_two_pow (n := 8) hx h2
theorem getD_lt (L : List UInt8) (i : Nat) : (L.getD i 0).toNat < 256 := (L.getD i 0).toNat_lt
theorem hasB_putB {L : List UInt8} (hL : L.length = 32) {k j : Nat} (hk : k < 256) (b : Bool) : hasB (putB L k b) j = if j = k then b else hasB L j := by
  unfold putB
  by_cases h : hasB L k = b
  · rw [if_pos h]
    by_cases e : j = k
    · rw [if_pos e, e, h]
    · rw [if_neg e]
  · rw [if_neg h]
    have hi : k / 8 < L.length := by omega
    have hx := getD_lt L (k / 8)
    have hr : k % 8 < 8 := Nat.mod_lt _ (by omega)
    have hlt := xor_lt hx hr
    unfold hasB at h ⊢
    by_cases e : j / 8 = k / 8
    · have e1 : (L.set (k / 8) (UInt8.ofNat ((L.getD (k / 8) 0).toNat ^^^ 2 ^ (k % 8)))).getD (j / 8) 0 = UInt8.ofNat ((L.getD (k / 8) 0).toNat ^^^ 2 ^ (k % 8)) := by
        rw [e, List.getD_eq_getElem?_getD, List.getElem?_set_self hi, Option.getD_some]
      rw [e1, UInt8.toNat_ofNat', Nat.mod_eq_of_lt hlt, Nat.testBit_xor, Nat.testBit_two_pow, e]
      by_cases e2 : j % 8 = k % 8
      · have : j = k := by omega
        rw [if_pos this, e2]
        have h' : (L.getD (k / 8) 0).toNat.testBit (k % 8) = !b := by
          revert h
          cases (L.getD (k / 8) 0).toNat.testBit (k % 8) <;> cases b <;> simp
        rw [h']
        cases b <;> simp
      · have : j ≠ k := fun h => e2 (by rw [h])
        rw [if_neg this]
        simp [Ne.symm e2]
    · have e1 : (L.set (k / 8) (UInt8.ofNat ((L.getD (k / 8) 0).toNat ^^^ 2 ^ (k % 8)))).getD (j / 8) 0 = L.getD (j / 8) 0 := by
        rw [List.getD_eq_getElem?_getD, List.getElem?_set_ne (Ne.symm e), ← List.getD_eq_getElem?_getD]
      have : j ≠ k := fun h => e (by rw [h])
      rw [e1, if_neg this]
theorem lhas_lput {L : List UInt8} (hL : L.length = 32) (b : Bool) (z y : Int) : lhas (lput L b z) y = if y = z ∧ 0 ≤ z ∧ z < 256 then b else lhas L y := by
  unfold lhas lput
  by_cases hz : 0 ≤ z ∧ z < 256
  · rw [if_pos hz, hasB_putB hL (by omega)]
    by_cases e : y = z
    · subst e
      rw [if_pos rfl, if_pos ⟨rfl, hz⟩, decide_eq_true hz, Bool.true_and]
    · rw [if_neg (show ¬ (y = z ∧ 0 ≤ z ∧ z < 256) from fun h => e h.1)]
      by_cases hy : 0 ≤ y ∧ y < 256
      · rw [if_neg (by omega)]
      · rw [decide_eq_false hy, Bool.false_and, Bool.false_and]
  · rw [if_neg hz, if_neg (fun h => hz h.2)]
/-- a key put in is there -/
theorem lhas_lputs : ∀ (zs : List Int) {L : List UInt8}, L.length = 32 → ∀ {y : Int}, (y ∈ zs ∨ lhas L y = true) → (0 ≤ y ∧ y < 256) → lhas (lputs L true zs) y = true
  | [], _, _, _, hy, _ => by
    rcases hy with hy | hy
    · cases hy
    · exact hy
  | z :: zs, L, hL, y, hy, h => by
    unfold lputs
    rw [List.foldl_cons]
    refine lhas_lputs zs (by rw [lput_length]; exact hL) (y := y) ?_ h
    rw [lhas_lput hL]
    by_cases e : y = z
    · exact .inr (by rw [if_pos ⟨e, by omega⟩])
    · rw [if_neg (fun k => e k.1)]
      rcases hy with hy | hy
      · rcases List.mem_cons.1 hy with hy | hy
        · exact absurd hy e
        · exact .inl hy
      · exact .inr hy
theorem lhas_mem {L : List UInt8} (hL : L.length = 32) {zs : List Int} {y : Int} (hy : y ∈ zs) : lhas (lputs L true zs) y = decide (0 ≤ y ∧ y < 256) := by
  by_cases h : 0 ≤ y ∧ y < 256
  · rw [decide_eq_true h]
    exact lhas_lputs zs hL (.inl hy) h
  · unfold lhas
    rw [decide_eq_false h, Bool.false_and]
/-- a bit set by or, and taken by and-not -/
theorem or_bit {x r : Nat} (hx : x < 256) (hr : r < 8) : x ||| 2 ^ r = if x.testBit r = true then x else x ^^^ 2 ^ r := by
  have : ∀ r < 8, ∀ x < 256, x ||| 2 ^ r = if x.testBit r = true then x else x ^^^ 2 ^ r := by decide +kernel
  exact this r hr x hx
theorem andNot_bit {x r : Nat} (hx : x < 256) (hr : r < 8) : x &&& (255 - 2 ^ r) = if x.testBit r = false then x else x ^^^ 2 ^ r := by
  have : ∀ r < 8, ∀ x < 256, x &&& (255 - 2 ^ r) = if x.testBit r = false then x else x ^^^ 2 ^ r := by decide +kernel
  exact this r hr x hx
theorem and_bit {x r : Nat} (hx : x < 256) (hr : r < 8) : x &&& 2 ^ r ≠ 0 ↔ x.testBit r = true := by
  have : ∀ r < 8, ∀ x < 256, (x &&& 2 ^ r ≠ 0 ↔ x.testBit r = true) := by decide +kernel
  exact this r hr x hx
theorem shr_bit {x r : Nat} (hx : x < 256) (hr : r < 8) : x >>> r % 2 = 1 ↔ x.testBit r = true := by
  have : ∀ r < 8, ∀ x < 256, (x >>> r % 2 = 1 ↔ x.testBit r = true) := by decide +kernel
  exact this r hr x hx
/-- the keys there are, up to k -/
def keysTo (L : List UInt8) (k : Nat) : List Nat := (List.range k).filter (hasB L)
theorem keysTo_succ (L : List UInt8) (k : Nat) : keysTo L (k + 1) = keysTo L k ++ if hasB L k = true then [k] else [] := by
  unfold keysTo
  rw [List.range_succ, List.filter_append]
  congr 1
  by_cases h : hasB L k = true
  · rw [if_pos h, List.filter_cons_of_pos h, List.filter_nil]
  · rw [if_neg h, List.filter_cons_of_neg h, List.filter_nil]
theorem keysTo_length_le (L : List UInt8) (k : Nat) : (keysTo L k).length ≤ k := by
  have := List.length_filter_le (hasB L) (List.range k)
  rwa [List.length_range] at this
theorem keysTo_pre (L : List UInt8) {k n : Nat} (h : k ≤ n) : ∃ r, keysTo L n = keysTo L k ++ r := by
  induction n with
  | zero => exact ⟨[], by rw [show k = 0 by omega, List.append_nil]⟩
  | succ n ih =>
    by_cases e : k = n + 1
    · exact ⟨[], by rw [e, List.append_nil]⟩
    · obtain ⟨r, hr⟩ := ih (by omega)
      exact ⟨r ++ if hasB L n = true then [n] else [], by rw [keysTo_succ, hr, List.append_assoc]⟩
theorem keysTo_at {L : List UInt8} {k n : Nat} (h : k < n) (hk : hasB L k = true) : (keysTo L k).length < (keysTo L n).length ∧ (keysTo L n)[(keysTo L k).length]? = some k := by
  obtain ⟨r, hr⟩ := keysTo_pre L (show k + 1 ≤ n by omega)
  rw [hr, keysTo_succ, if_pos hk]
  refine ⟨by simp only [List.length_append, List.length_cons]; omega, ?_⟩
  rw [List.append_assoc, List.getElem?_append_right (Nat.le_refl _), Nat.sub_self]
  rfl
end Go.Proofs.Ytppodbijdhcclaa

