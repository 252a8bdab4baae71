/- What an argument that came in reads as: a slice of bytes, of integers, of slices of bytes. No condition. -/
import Derived.Test.YtdmganpblkepfaaBase
import Derived.ProofKit
import Derived.OpenShut
import Derived.Deep.Slices
namespace Go.Proofs.Ytdmganpblkepfaa
open Go.RowKit Go.ChangeShapes Go.WideShapes Go.ChangeAt

/-- v is a slice of the integers zs of kind k -/
def Nums (w : World) (B : Nat) (k : IntKind) (v : Value) (zs : List Int) : Prop :=
  ∃ A c, v = .slice A zs.length c ∧ zs.length ≤ c ∧ c ≤ maxLen ∧ Row w B A (zs.map (Value.int k)) ∧ ∀ z ∈ zs, (Lit.int k z).wf = true

section
variable {H : Type} {enc : TypeId × Value → H} {P : Program} {w : World} {r : Reach} {base b0 : Nat} {spare : Nat → Bool} {held : Bool} {t e e2 : TypeId} {v : Value} {d : DataW H} {ps : List MemPlace} {k : IntKind}

theorem nums_cells {fuel : Nat} {x : DataW H × List MemPlace} (ht : P.underlying t = some (.slice e)) (he : P.underlying e = some (.int k)) (hc : P.cellsOf e = 1) (h : DataW.trod enc P w base spare held fuel t [v] = some x) :
    ∃ zs, Nums w w.heap.size k v zs := by
  rcases open_ints ht he hc h with ⟨hcs, _⟩ | ⟨a, len, cap, zs, hcs, _, hl, hm, hz, _, hcell, hwz⟩
  · simp only [List.cons.injEq, and_true] at hcs
    subst hcs
    exact ⟨[], none, 0, rfl, by simp, by simp [maxLen], Row.nil, by simp⟩
  · simp only [List.cons.injEq, and_true] at hcs
    subst hcs
    have hle : len ≤ zs.length := by rw [hz]; split <;> omega
    refine ⟨zs.take len, some a, cap, by rw [List.length_take_of_le hle], by rw [List.length_take_of_le hle]; exact hl, hm, ?_, fun z hzm => hwz z (List.mem_of_mem_take hzm)⟩
    intro j u hu
    have hj : j < (zs.take len).length := by
      have := get_lt hu
      simpa using this
    have hjl : j < zs.length := by
      rw [List.length_take] at hj
      omega
    have hc' := hcell j hjl
    refine ⟨a, rfl, ?_, ?_⟩
    · have := World.block_lt_of_cell? w _ hc'
      rwa [add_block] at this
    · rw [hc']
      rw [List.length_take] at hj
      have hjn : j < len := by omega
      simp only [List.getElem?_map, List.getElem?_take, hjn, if_true, List.getElem?_eq_getElem hjl, Option.map_some, Option.some.injEq] at hu
      rw [← hu]
      simp [List.getD, List.getElem?_eq_getElem hjl]
theorem bytes_nums (h : ∃ zs, Nums w w.heap.size .u8 v zs) : ∃ l, Bytes w w.heap.size v l := by
  obtain ⟨zs, A, c, rfl, hl, hm, hr, hw⟩ := h
  refine ⟨zs.map fun z => UInt8.ofNat z.toNat, A, c, by simp, by simpa using hl, hm, ?_⟩
  have : bv (zs.map fun z => UInt8.ofNat z.toNat) = zs.map (Value.int .u8) := by
    unfold bv
    rw [List.map_map]
    refine List.map_congr_left fun z hz => ?_
    have hwz := hw z hz
    simp only [Lit.wf, Bool.and_eq_true, IntKind.min, IntKind.max, IntKind.signed, IntKind.bits] at hwz
    simp only [Function.comp_apply, UInt8.toNat_ofNat']
    congr 1
    simp at hwz
    omega
  rw [this]
  exact hr

theorem open_nums (ht : P.underlying t = some (.slice e)) (he : P.underlying e = some (.int k)) (hc : P.cellsOf e = 1) (hval : Value.okWide P w r b0 t v) (h : DataW.Trod enc P w base spare held t v d ps) : ∃ zs, Nums w w.heap.size k v zs := by
  obtain ⟨a, len, cap, rfl⟩ := okWide_slice ht hval
  obtain ⟨fuel, hf⟩ := h
  exact nums_cells ht he hc hf
theorem open_bytes (ht : P.underlying t = some (.slice e)) (he : P.underlying e = some (.int .u8)) (hc : P.cellsOf e = 1) (hval : Value.okWide P w r b0 t v) (h : DataW.Trod enc P w base spare held t v d ps) : ∃ l, Bytes w w.heap.size v l :=
  bytes_nums (open_nums ht he hc hval h)
theorem open_parts (ht : P.underlying t = some (.slice e)) (he : P.underlying e = some (.slice e2)) (he2 : P.underlying e2 = some (.int .u8)) (hc : P.cellsOf e = 1) (hc2 : P.cellsOf e2 = 1) (hval : Value.okWide P w r b0 t v)
    (h : DataW.Trod enc P w base spare held t v d ps) : ∃ L, Parts w w.heap.size v L := by
  obtain ⟨a, len, cap, rfl⟩ := okWide_slice ht hval
  obtain ⟨fuel, hf⟩ := h
  have hf' : DataW.trod enc P w base spare held fuel t [.slice a len cap] = some (d, ps) := hf
  rcases Deep.open_slice1 ht hc hf' with ⟨hcs, _⟩ | ⟨a', len', cap', m, n, V, D, Pl, hcs, _, hl, hm, hmm, _, hel⟩
  · simp only [List.cons.injEq, and_true] at hcs
    rw [hcs]
    exact ⟨[], Parts.nil 0⟩
  · simp only [List.cons.injEq, and_true, Value.slice.injEq] at hcs
    obtain ⟨rfl, rfl, rfl⟩ := hcs
    have hle : len ≤ m := by rw [hmm]; split <;> omega
    obtain ⟨f, hfb⟩ := Deep.choose_lt (α := List UInt8) (n := len) (p := fun i l => Bytes w w.heap.size (V i) l) fun i hi => bytes_nums (nums_cells he he2 hc2 (hel i (by omega)).2)
    refine ⟨(List.range len).map f, some a', cap, (List.range len).map V, by simp, ?_, ⟨by simp, ?_⟩, by simp; omega⟩
    · intro j u hu
      have hj : j < len := by have := get_lt hu; simpa using this
      have hc' := (hel j (by omega)).1
      refine ⟨a', rfl, ?_, ?_⟩
      · have := World.block_lt_of_cell? w _ hc'
        rwa [add_block] at this
      · rw [hc', ← hu]
        simp [hj]
    · intro i u hu
      have hj : i < len := by have := get_lt hu; simpa using this
      refine ⟨f i, by simp [hj], ?_⟩
      have : V i = u := by simpa [hj] using hu
      rw [← this]
      exact hfb i hj
end
end Go.Proofs.Ytdmganpblkepfaa
