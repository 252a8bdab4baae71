/- The document's nodes (a State): what lies in memory, how many there are. No condition. -/
import Derived.Test.YtppodbijdhcclaaQCacheSt
namespace Go.Proofs.Ytppodbijdhcclaa
open Go Go.RowKit
/-- a state's cells -/
def stCells (bs : List ByteArray) (th : List Bool) : List Value := bs.map Value.string ++ th.map Value.bool
/-- block g begins, at o, with a state's cells -/
def RSt (w : World) (g : Nat) (t : TypeId) (rest : List Value) (bs : List ByteArray) (th : List Bool) : Prop := Blk w g t (stCells bs th ++ rest) ∧ bs.length = 256 ∧ th.length = 256
section
variable {w w' : World} {g B : Nat} {t : TypeId} {rest : List Value} {bs : List ByteArray} {th : List Bool}
theorem stCells_length (hb : bs.length = 256) (ht : th.length = 256) : (stCells bs th).length = 512 := by simp [stCells, hb, ht]
theorem RSt.lt (h : RSt w g t rest bs th) : g < w.heap.size := h.1.lt
theorem RSt.after (h : RSt w g t rest bs th) (hb : Below w.heap.size w w') : RSt w' g t rest bs th := ⟨h.1.after hb, h.2⟩
theorem RSt.grown {row : Option Nat} (h : RSt w g t rest bs th) (hg : w.grownBy w' row) (hk : some g ≠ row) : RSt w' g t rest bs th := ⟨h.1.grown hg hk, h.2⟩
theorem RSt.there (h : RSt w g t rest bs th) {k : Nat} (hk : k < 256) : w.cell? ⟨g, 256 + k, none⟩ = some (.bool (th.getD k false)) := by
  rw [h.1.cell, stCells, List.append_assoc, List.getElem?_append_right (by rw [List.length_map, h.2.1]; omega), List.length_map, h.2.1, List.getElem?_append_left (by rw [List.length_map, h.2.2]; omega), List.getElem?_map, show 256 + k - 256 = k by omega, List.getD_eq_getElem?_getD, List.getElem?_eq_getElem (by rw [h.2.2]; exact hk)]
  rfl
theorem RSt.body (h : RSt w g t rest bs th) {k : Nat} (hk : k < 256) : w.cell? ⟨g, k, none⟩ = some (.string (bs.getD k ByteArray.empty)) := by
  rw [h.1.cell, stCells, List.append_assoc, List.getElem?_append_left (by rw [List.length_map, h.2.1]; exact hk), List.getElem?_map, List.getD_eq_getElem?_getD, List.getElem?_eq_getElem (by rw [h.2.1]; exact hk)]
  rfl
theorem RSt.setThere (h : RSt w g t rest bs th) {k : Nat} (hk : k < 256) (b : Bool) : RSt (w.setCell ⟨g, 256 + k, none⟩ (.bool b)) g t rest bs (th.set k b) := by
  refine ⟨?_, h.2.1, by rw [List.length_set]; exact h.2.2⟩
  have h1 := h.1.set (256 + k) (.bool b)
  unfold stCells at h1
  rw [List.append_assoc, List.set_append_right _ _ (by rw [List.length_map, h.2.1]; omega), List.length_map, h.2.1, List.set_append_left _ _ (by rw [List.length_map, h.2.2]; omega), show 256 + k - 256 = k by omega, ← List.map_set, ← List.append_assoc] at h1
  exact h1
theorem RSt.setBody (h : RSt w g t rest bs th) {k : Nat} (hk : k < 256) (b : ByteArray) : RSt (w.setCell ⟨g, k, none⟩ (.string b)) g t rest (bs.set k b) th := by
  refine ⟨?_, by rw [List.length_set]; exact h.2.1, h.2.2⟩
  have h1 := h.1.set k (.string b)
  unfold stCells at h1
  rw [List.append_assoc, List.set_append_left _ _ (by rw [List.length_map, h.2.1]; exact hk), ← List.map_set, ← List.append_assoc] at h1
  exact h1
theorem RSt.free (h : RSt w g t rest bs th) (k : Nat) : w.frozen? ⟨g, k, none⟩ = false := h.1.free k
theorem Src.st {mo : Int} : Src w g bs th mo ↔ RSt w g 32 [.int .i64 mo] bs th := by
  unfold Src RSt Blk stCells
  rw [List.append_assoc]
end
/-- at o of block g lies a state -/
def StAt (w : World) (g o : Nat) (bs : List ByteArray) (th : List Bool) : Prop := ∃ t cs, Blk w g t cs ∧ (cs.drop o).take 512 = stCells bs th ∧ bs.length = 256 ∧ th.length = 256
theorem RSt.at0 {w : World} {g : Nat} {t : TypeId} {rest : List Value} {bs : List ByteArray} {th : List Bool} (h : RSt w g t rest bs th) : StAt w g 0 bs th :=
  ⟨t, _, h.1, by rw [List.drop_zero, List.take_left' (stCells_length h.2.1 h.2.2)], h.2⟩
section
variable {w w' : World} {g o : Nat} {bs : List ByteArray} {th : List Bool}
theorem StAt.lt (h : StAt w g o bs th) : g < w.heap.size := by
  obtain ⟨t, cs, hb, _⟩ := h
  exact hb.lt
theorem StAt.after (h : StAt w g o bs th) (hb : Below w.heap.size w w') : StAt w' g o bs th := by
  obtain ⟨t, cs, h1, h2⟩ := h
  exact ⟨t, cs, h1.after hb, h2⟩
theorem StAt.grown {row : Option Nat} (h : StAt w g o bs th) (hg : w.grownBy w' row) (hk : some g ≠ row) : StAt w' g o bs th := by
  obtain ⟨t, cs, h1, h2⟩ := h
  exact ⟨t, cs, h1.grown hg hk, h2⟩
theorem StAt.get (h : StAt w g o bs th) {k : Nat} (hk : k < 512) : w.cell? ⟨g, o + k, none⟩ = (stCells bs th)[k]? := by
  obtain ⟨t, cs, h1, h2, _⟩ := h
  rw [h1.cell, ← h2, List.getElem?_take, if_pos hk, List.getElem?_drop]
theorem StAt.there (h : StAt w g o bs th) {k : Nat} (hk : k < 256) : w.cell? ⟨g, o + 256 + k, none⟩ = some (.bool (th.getD k false)) := by
  have hl := h
  obtain ⟨_, _, _, _, hb, ht⟩ := hl
  rw [Nat.add_assoc, h.get (by omega), stCells, List.getElem?_append_right (by rw [List.length_map, hb]; omega), List.length_map, hb, List.getElem?_map, show 256 + k - 256 = k by omega, List.getD_eq_getElem?_getD, List.getElem?_eq_getElem (by rw [ht]; exact hk)]
  rfl
theorem StAt.body (h : StAt w g o bs th) {k : Nat} (hk : k < 256) : w.cell? ⟨g, o + k, none⟩ = some (.string (bs.getD k ByteArray.empty)) := by
  have hl := h
  obtain ⟨_, _, _, _, hb, ht⟩ := hl
  rw [h.get (by omega), stCells, List.getElem?_append_left (by rw [List.length_map, hb]; exact hk), List.getElem?_map, List.getD_eq_getElem?_getD, List.getElem?_eq_getElem (by rw [hb]; exact hk)]
  rfl
end
theorem stCells_one {bs : List ByteArray} {th : List Bool} : ∀ u ∈ stCells bs th, u.oneCell' = true := by
  intro u hu
  unfold stCells at hu
  rcases List.mem_append.1 hu with h | h
  · obtain ⟨b, _, rfl⟩ := List.mem_map.1 h; rfl
  · obtain ⟨b, _, rfl⟩ := List.mem_map.1 h; rfl
theorem aggSt : ∀ w, (isAgg 30).run Try.prog w = .ok true w := fun _ => by kernel_rfl
theorem sizeSt : ∀ w, (sizeOf 30).run Try.prog w = .ok 512 w := fun _ => by kernel_rfl
def cntTo (th : List Bool) (k : Nat) : Nat := ((List.range k).filter (fun j => th.getD j false)).length
theorem cntTo_succ (th : List Bool) (k : Nat) : cntTo th (k + 1) = cntTo th k + if th.getD k false = true then 1 else 0 := by
  unfold cntTo
  rw [List.range_succ, List.filter_append, List.length_append]
  congr 1
  by_cases h : th.getD k false = true
  · rw [if_pos h, List.filter_cons, if_pos h]; rfl
  · rw [if_neg h, List.filter_cons, if_neg h]; rfl
theorem cntTo_le (th : List Bool) (k : Nat) : cntTo th k ≤ k := by
  have := List.length_filter_le (fun j => th.getD j false) (List.range k)
  rwa [List.length_range] at this
set_option maxRecDepth 100000 in
set_option maxHeartbeats 4000000 in
/-- Count -/
theorem count_any (g o : Nat) (bs : List ByteArray) (th : List Bool) (w : World) (h : StAt w g o bs th) :
    Calls Try.prog 36 #[.pointer (some ⟨g, o, none⟩)] w fun e w' => e = .returned (.int .i64 (cntTo th 256 : Nat)) ∧ w = w' := by
  have HS := Lib.hid h
  clear h
  go_enter Try.func36, Try.ntmps36
  go_wp2_with fail
  go_loop [3, 4] (fun n i => ∃ k : Nat, k ≤ 256 ∧ n = .int .i64 (cntTo th k : Nat) ∧ i = .int .i64 k) (fun _ i => 256 - (intOf i).toNat)
  case atStart => exact ⟨0, Nat.zero_le _, rfl, rfl⟩
  case round =>
    obtain ⟨k, hk, rfl, rfl⟩ := hrel
    by_cases hlt : k < 256
    · have d1 : decide ((k : Int) < 256) = true := by simp; omega
      have d3 : (k : Int) < 256 := by omega
      have d4 : ¬ 256 ≤ k := by omega
      have c1 := HS.out.there hlt
      have HC := Lib.hid (cntTo_succ th k)
      have hle := cntTo_le th k
      obtain ⟨n, hn⟩ : ∃ n, n = cntTo th k := ⟨_, rfl⟩
      rw [← hn] at HC hle ⊢
      clear hn
      obtain ⟨b, hb⟩ : ∃ b, b = th.getD k false := ⟨_, rfl⟩
      rw [← hb] at c1 HC
      clear hb
      cases b with
      | true =>
        have hnn : Hid (cntTo th (k + 1) = n + 1) := Lib.hid HC.out
        clear HC
        go_wp2_with fail
        exact ⟨⟨k + 1, by omega, by rw [hnn.out]; go_num, by go_num⟩, by simp [intOf]; omega⟩
      | false =>
        have hnn : Hid (cntTo th (k + 1) = n) := Lib.hid HC.out
        clear HC
        go_wp2_with fail
        exact ⟨⟨k + 1, by omega, by rw [hnn.out], by go_num⟩, by simp [intOf]; omega⟩
    · obtain rfl : k = 256 := by omega
      go_wp2_with fail
      go_ret
      exact ⟨rfl, rfl⟩
end Go.Proofs.Ytppodbijdhcclaa

