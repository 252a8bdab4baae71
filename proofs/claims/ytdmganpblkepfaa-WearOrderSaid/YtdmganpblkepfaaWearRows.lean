/- Layer 10: rows of loads of the call's own, in which cells are stored. No condition. -/
import Derived.Test.YtdmganpblkepfaaWearOpen
namespace Go.Proofs.Ytdmganpblkepfaa
open Go.RowKit WM
theorem infoR : (Try.prog.info? 65).map (fun i => (i.zero, i.size, i.bytes)) = some (some (.agg #[.int .u64 0, .int .u64 0, .int .i64 0, .int .i64 0]), 4, 32) := by kernel_rfl
/-- the cells of M, those of the load at k being r -/
def seg4 (M : List LV) (k : Nat) (r : List Value) : List Value := (M.take k).flatMap rrow ++ (r ++ (M.drop (k + 1)).flatMap rrow)
theorem seg4_of {M : List LV} {k : Nat} (hk : k < M.length) : M.flatMap rrow = seg4 M k (rrow (at_ M k)) := by
  unfold seg4
  have h1 : M = M.take k ++ (at_ M k :: M.drop (k + 1)) := by
    have e : M[k]? = some (at_ M k) := at_get hk
    rw [List.getElem?_eq_getElem hk] at e
    conv => lhs; rw [← List.take_append_drop k M, List.drop_eq_getElem_cons hk, Option.some.inj e]
  conv => lhs; rw [h1]
  rw [List.flatMap_append, List.flatMap_cons]
theorem seg4_set {M : List LV} {k j : Nat} {r : List Value} (hk : k < M.length) (hr : r.length = 4) (hj : j < 4) (u : Value) : (seg4 M k r).set (k * 4 + j) u = seg4 M k (r.set j u) := by
  unfold seg4
  have hl : ((M.take k).flatMap rrow).length = k * 4 := by rw [flat_length rrow_len, List.length_take]; congr 1; omega
  rw [List.set_append_right _ _ (by omega), hl, show k * 4 + j - k * 4 = j by omega, List.set_append_left _ _ (by omega)]
theorem seg4_set0 {M : List LV} {k : Nat} {r : List Value} (hk : k < M.length) (hr : r.length = 4) (u : Value) : (seg4 M k r).set (k * 4) u = seg4 M k (r.set 0 u) := seg4_set (j := 0) hk hr (by omega) u
theorem rows_lower {w : World} {base base' s : Nat} {e : TypeId} {v : Value} {n : Nat} {xs : List Value} (h : w.ownsRow base e s v n xs) (hb : base' ≤ base) : w.ownsRow base' e s v n xs := by
  obtain ⟨x1, x2⟩ := h
  refine ⟨x1, ?_⟩
  rcases x2 with x2 | ⟨g, cap, cur, y1, y2, y3⟩
  · exact .inl x2
  · exact .inr ⟨g, cap, cur, y1, Nat.le_trans hb y2, y3⟩
theorem seg4_to {M : List LV} {k : Nat} (hk : k < M.length) (l : LV) : seg4 M k (rrow l) = (M.set k l).flatMap rrow := by
  rw [seg4_of (M := M.set k l) (k := k) (by simpa using hk)]
  unfold seg4
  have e : at_ (M.set k l) k = l := by
    unfold at_
    rw [List.getD_eq_getElem?_getD, List.getElem?_set_self hk]
    rfl
  rw [e, List.take_set_of_le (Nat.le_refl k), List.drop_set_of_lt (Nat.lt_succ_self k)]
section
variable {w : World} {base g n c : Nat} {xs : List Value}
theorem rowR_cell (h : w.ownsRow base 65 4 (.slice (some ⟨g, 0, none⟩) n c) n xs) {j : Nat} (hj : j < n * 4) : ∃ u, w.cell? ⟨g, j, none⟩ = some u := by
  have := World.ownsRow.cellAt h j hj
  rw [this]
  exact ⟨_, List.getElem?_eq_getElem (by rw [h.1]; exact hj)⟩
theorem rowR_set (h : w.ownsRow base 65 4 (.slice (some ⟨g, 0, none⟩) n c) n xs) (j : Nat) (u : Value) : (w.setCell ⟨g, j, none⟩ u).ownsRow base 65 4 (.slice (some ⟨g, 0, none⟩) n c) n (xs.set j u) :=
  (World.ownsRow.stored h j u).1
theorem rowR_addr {A : Option Addr} {w : World} (h : w.ownsRow base 65 4 (.slice A n c) n xs) (hn : 0 < n) : ∃ g, A = some ⟨g, 0, none⟩ ∧ base ≤ g := by
  rcases h.2 with ⟨hv, h0⟩ | ⟨g, cap, cur, hv, hb, _⟩
  · omega
  · cases hv
    exact ⟨g, rfl, hb⟩
end
end Go.Proofs.Ytdmganpblkepfaa
