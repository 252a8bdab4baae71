/- The walk of PackNums: it answers true, and changes nothing that was there. No condition. -/
import Derived.Test.YtdmganpblkepfaaPackReader
import Derived.Test.YtdmganpblkepfaaPackSpeaks
import Derived.Test.YtdmganpblkepfaaOpen
import Derived.Deep.RegionWith
namespace Go.Proofs.Ytdmganpblkepfaa
open Go.RowKit

theorem mask_k (x K : Nat) (hx : x < 18446744073709551616) (hK : K < 8) : bits .and .u64 (x : Int) (IntKind.u64.wrap (IntKind.u64.wrap (2 ^ (8 * K)) - 1)) = ((x % 256 ^ K : Nat) : Int) := by
  have h1 : ∀ K, K < 8 → IntKind.u64.wrap (IntKind.u64.wrap (2 ^ (8 * K)) - 1) = ((2 ^ (8 * K) - 1 : Nat) : Int) := by decide
  have h2 : 2 ^ (8 * K) ≤ 2 ^ 56 := Nat.pow_le_pow_right (by omega) (by omega)
  rw [h1 K hK, u64_and_nat x (2 ^ (8 * K) - 1) (by omega) (by omega), Nat.and_two_pow_sub_one_eq_mod, pow256]
/-- a number is read back -/
theorem rnum_back (g h : Nat) (s : Int) (K x : Nat) (hK : K = wid s) (r : List UInt8) (w : World) (hr : Rd w g h (numB K x ++ r) false) :
    Calls Try.prog 37 #[.pointer (some ⟨g, 0, none⟩), .int .i64 s] w fun e w' => e = .returned (.int .u64 ((x % 256 ^ K : Nat) : Int)) ∧ Rd w' g h r false ∧ w.grownBy w' (some g) := by
  subst hK
  have hl : (numB (wid s) x).length = wid s := numB_length _ _
  have h := rnum_yes g h _ false s w hr (by rw [List.length_append, hl]; omega)
  rw [List.take_append_of_le_length (by rw [hl]; exact Nat.le_refl _), List.take_of_length_le (by rw [hl]; exact Nat.le_refl _), List.drop_append_of_le_length (by rw [hl]; exact Nat.le_refl _), List.drop_of_length_le (by rw [hl]; exact Nat.le_refl _), List.nil_append, le_numB] at h
  exact h
theorem Below.only {B : Nat} {a b c : World} {g : Nat} (h : Below B a b) (hg : b.grownBy c (some g)) (hb : B ≤ b.heap.size) (hB : B ≤ g) : Below B a c :=
  h.grown hg hb fun k hk => by cases hk; exact hB

theorem nums_nat {w : World} {B : Nat} {v : Value} (h : ∃ zs, Nums w B .u64 v zs) : ∃ A c, ∃ zs : List Nat, v = .slice A zs.length c ∧ Row w B A (uv zs) ∧ ∀ n ∈ zs, n < 18446744073709551616 := by
  obtain ⟨zs, A, c, rfl, hl, hc, hr, hw⟩ := h
  have hb : ∀ z ∈ zs, 0 ≤ z ∧ z < 18446744073709551616 := fun z hz => by
    have h := hw z hz
    simp only [Lit.wf, Bool.and_eq_true, IntKind.min, IntKind.max, IntKind.signed, IntKind.bits] at h
    simp at h
    omega
  refine ⟨A, c, zs.map Int.toNat, by simp, ?_, ?_⟩
  · have : uv (zs.map Int.toNat) = zs.map (Value.int .u64) := by
      unfold uv
      rw [List.map_map]
      refine List.map_congr_left fun z hz => ?_
      have := hb z hz
      simp only [Function.comp_apply]
      congr 1
      omega
    rw [this]
    exact hr
  · intro n hn
    simp only [List.mem_map] at hn
    obtain ⟨z, hz, rfl⟩ := hn
    have := hb z hz
    omega
end Go.Proofs.Ytdmganpblkepfaa
