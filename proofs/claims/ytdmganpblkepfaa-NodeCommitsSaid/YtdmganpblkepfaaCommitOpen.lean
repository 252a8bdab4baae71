/- The argument that is a commit: what it reads as. No condition. -/
import Derived.Test.YtdmganpblkepfaaCommitEq
import Derived.Test.YtdmganpblkepfaaNodeOpen
namespace Go.Proofs.Ytdmganpblkepfaa
open Go.RowKit
theorem cellsCommit : Try.prog.cellsOf 43 = 34 := by kernel_rfl
theorem typesCommit : Try.prog.cellTypes Try.prog.depth 43 = some (22 :: (List.replicate 32 5 ++ [41])) := by kernel_rfl
theorem cell_int {k : IntKind} {e : TypeId} {w : World} {r : Reach} {b0 : Nat} {x : Value} (he : Try.prog.underlying e = some (.int k)) (hk : Cell.okWide Try.prog w r b0 e x) : ∃ n, x = .int k n ∧ (Lit.int k n).wf = true := by
  simp only [Cell.okWide, Cell.ok, he] at hk
  cases x with
  | int k' n =>
    obtain ⟨rfl, hn⟩ := hk
    exact ⟨n, rfl, by simpa [IntKind.has, Lit.wf] using hn⟩
  | _ => exact hk.elim
/-- a commit as an argument -/
def IsCommit (v : Value) (e : Nat) (L : List UInt8) (s : Nat) : Prop := v = .agg (ccs e L s).toArray ∧ e < 18446744073709551616 ∧ L.length = 32 ∧ s < 4294967296
set_option maxRecDepth 100000 in
theorem open_commit {w : World} {r : Reach} {b0 : Nat} {v : Value} (h : Value.okWide Try.prog w r b0 43 v) : ∃ e L s, IsCommit v e L s := by
  simp only [Value.okWide, Try.underlying43] at h
  obtain ⟨cs, rfl, hs, ts, ht, _, hc⟩ := h
  rw [cellsCommit] at hs
  rw [typesCommit] at ht
  obtain rfl := Option.some.inj ht
  have hlen : (22 :: (List.replicate 32 5 ++ [41])).length = 34 := by decide
  have at_ : ∀ i (hi : i < 34), ∃ u, (22 :: (List.replicate 32 5 ++ [41]))[i]? = some u ∧ Cell.okWide Try.prog w r b0 u (cs[i]'(by omega)) := by
    intro i hi
    obtain ⟨u, hu, hk⟩ := hc i _ (Array.getElem?_eq_getElem (by omega))
    rw [hlen, Nat.mod_eq_of_lt hi] at hu
    exact ⟨u, hu, hk⟩
  obtain ⟨u0, h0, k0⟩ := at_ 0 (by omega)
  obtain ⟨u33, h33, k33⟩ := at_ 33 (by omega)
  obtain rfl : 22 = u0 := by simpa using h0
  obtain rfl : 41 = u33 := by simpa using h33
  obtain ⟨z0, e0, w0⟩ := cell_int Try.underlying22 k0
  obtain ⟨z33, e33, w33⟩ := cell_int Try.underlying41 k33
  obtain ⟨n0, rfl, l0⟩ := u64_wf w0
  obtain ⟨n33, rfl, l33⟩ := u32_of_wf w33
  have mid : ∀ i (hi : i < 32), ∃ b : UInt8, cs[1 + i]'(by omega) = .int .u8 ((b.toNat : Nat) : Int) := by
    intro i hi
    obtain ⟨u, hu, hk⟩ := at_ (1 + i) (by omega)
    rw [Nat.add_comm, List.getElem?_cons_succ, List.getElem?_append_left (by simpa using hi), List.getElem?_replicate, if_pos hi] at hu
    obtain rfl := Option.some.inj hu
    obtain ⟨n, en, wn⟩ := cell_int Try.underlying5 hk
    refine ⟨UInt8.ofNat n.toNat, ?_⟩
    rw [en]
    simp only [Lit.wf, Bool.and_eq_true, IntKind.min, IntKind.max, IntKind.signed, IntKind.bits] at wn
    simp at wn
    congr 1
    simp only [UInt8.toNat_ofNat']
    omega
  obtain ⟨f, hf⟩ := Deep.choose_lt (α := UInt8) (n := 32) (p := fun i b => ∀ hi : i < 32, cs[1 + i]'(by omega) = .int .u8 ((b.toNat : Nat) : Int)) (fun i hi => by obtain ⟨b, hb⟩ := mid i hi; exact ⟨b, fun _ => hb⟩)
  refine ⟨n0, (List.range 32).map f, n33, ?_, l0, by simp, l33⟩
  congr 1
  apply Array.ext_getElem?
  intro i
  have hr : (ccs n0 ((List.range 32).map f) n33).toArray[i]? = (ccs n0 ((List.range 32).map f) n33)[i]? := by simp
  rw [hr]
  rcases Nat.lt_or_ge i 34 with hi | hi
  · rw [Array.getElem?_eq_getElem (by omega)]
    rcases (show i = 0 ∨ (∃ j, i = 1 + j ∧ j < 32) ∨ i = 33 by
      rcases Nat.eq_zero_or_pos i with h | h
      · exact .inl h
      · rcases Nat.lt_or_ge i 33 with h' | h'
        · exact .inr (.inl ⟨i - 1, by omega, by omega⟩)
        · exact .inr (.inr (by omega))) with rfl | ⟨j, rfl, hj⟩ | rfl
    · rw [e0]; rfl
    · rw [hf j hj hj]
      refine (ccs_mid ?_).symm
      rw [bv, List.map_map, List.getElem?_map, List.getElem?_range hj]
      rfl
    · rw [e33, ccs_last (by simp)]
  · rw [Array.getElem?_eq_none (by omega), List.getElem?_eq_none (by rw [ccs_length (by simp)]; omega)]
end Go.Proofs.Ytdmganpblkepfaa
