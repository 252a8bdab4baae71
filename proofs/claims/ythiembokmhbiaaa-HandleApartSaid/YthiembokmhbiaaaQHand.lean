/- Layer 22: handles as a list of six slots; the contracts of has, Get, Close, New. No condition. -/
import Derived.Test.YthiembokmhbiaaaRows
import Derived.Test.YthiembokmhbiaaaQCore
namespace Go.Proofs.Ythiembokmhbiaaa
open Go.RowKit
/-- a slot's cells -/
def slotV (s : Bool × Int) : List Value := [.bool s.1, .int .i64 s.2]
/-- a table's cells -/
def hcells (S : List (Bool × Int)) : List Value := S.flatMap slotV
theorem hcells_length (S : List (Bool × Int)) : (hcells S).length = 2 * S.length := by
  induction S with
  | nil => rfl
  | cons s S ih => unfold hcells at ih ⊢; rw [List.flatMap_cons, List.length_append, ih, List.length_cons]; simp only [slotV, List.length_cons, List.length_nil]; omega
theorem hcells_six {S : List (Bool × Int)} (h : S.length = 6) : ∃ a b c d e f : Bool × Int, S = [a, b, c, d, e, f] := by
  match S, h with
  | [a, b, c, d, e, f], _ => exact ⟨a, b, c, d, e, f, rfl⟩
theorem hcells_at {S : List (Bool × Int)} (h : S.length = 6) {k : Nat} {s : Bool × Int} (hs : S[k]? = some s) : ((hcells S).drop (k * 2)).take 2 = slotV s := by
  obtain ⟨a, b, c, d, e, f, rfl⟩ := hcells_six h
  have hk : k < 6 := by have := (List.getElem?_eq_some_iff.1 hs).1; simpa using this
  rcases (show k = 0 ∨ k = 1 ∨ k = 2 ∨ k = 3 ∨ k = 4 ∨ k = 5 by omega) with rfl | rfl | rfl | rfl | rfl | rfl <;> (simp at hs; subst hs; rfl)
theorem hcells_set {S : List (Bool × Int)} (h : S.length = 6) {k : Nat} (hk : k < 6) (s : Bool × Int) : segSet (hcells S) (k * 2) (slotV s) = hcells (S.set k s) := by
  obtain ⟨a, b, c, d, e, f, rfl⟩ := hcells_six h
  rcases (show k = 0 ∨ k = 1 ∨ k = 2 ∨ k = 3 ∨ k = 4 ∨ k = 5 by omega) with rfl | rfl | rfl | rfl | rfl | rfl <;> rfl
theorem hcells_one (S : List (Bool × Int)) : ∀ v ∈ hcells S, v.oneCell' = true := by
  intro v hv
  obtain ⟨s, _, h⟩ := List.mem_flatMap.1 hv
  simp only [slotV, List.mem_cons, List.not_mem_nil, or_false] at h
  rcases h with rfl | rfl <;> rfl
theorem slotV_one (s : Bool × Int) : ∀ v ∈ slotV s, v.oneCell' = true := by
  intro v h
  simp only [slotV, List.mem_cons, List.not_mem_nil, or_false] at h
  rcases h with rfl | rfl <;> rfl
theorem aggSl (w : World) : (isAgg 48).run Try.prog w = .ok true w := by kernel_rfl
theorem sizeSl (w : World) : (sizeOf 48).run Try.prog w = .ok 2 w := by kernel_rfl
theorem aggTb (w : World) : (isAgg 49).run Try.prog w = .ok true w := by kernel_rfl
theorem sizeTb (w : World) : (sizeOf 49).run Try.prog w = .ok 12 w := by kernel_rfl
/-- in block g lies the table of the slots S: six; one that isn't open is the zero one -/
structure HT (w : World) (g : Nat) (S : List (Bool × Int)) : Prop where
  blk : Blk w g 51 (hcells S)
  six : S.length = 6
  zero : ∀ s ∈ S, s.1 = false → s.2 = 0
section
variable {w w' : World} {g B : Nat} {S : List (Bool × Int)}
theorem HT.cells (h : HT w g S) {k : Nat} {b : Bool} {n : Int} (hs : S[k]? = some (b, n)) : w.cell? ⟨g, k * 2, none⟩ = some (.bool b) ∧ w.cell? ⟨g, k * 2 + 1, none⟩ = some (.int .i64 n) := by
  have hv := hcells_at h.six hs
  have e : ∀ j, j < 2 → (hcells S)[k * 2 + j]? = (slotV (b, n))[j]? := by
    intro j hj
    rw [← hv, List.getElem?_take, if_pos hj, List.getElem?_drop]
  exact ⟨(h.blk.cell _).trans (e 0 (by omega)), (h.blk.cell _).trans (e 1 (by omega))⟩
theorem HT.lt (h : HT w g S) : g < w.heap.size := h.blk.lt
theorem HT.below (h : HT w g S) (hb : Below B w w') (hg : g < B) : HT w' g S := ⟨h.blk.below hb hg, h.six, h.zero⟩
theorem HT.after (h : HT w g S) (hb : Below w.heap.size w w') : HT w' g S := h.below hb h.lt
theorem HT.grown {row : Option Nat} (h : HT w g S) (hg : w.grownBy w' row) (hk : some g ≠ row) : HT w' g S := ⟨h.blk.grown hg hk, h.six, h.zero⟩
end
/-- the slot of a handle -/
def slotOf (S : List (Bool × Int)) (h : Int) : Bool × Int := if 1 ≤ h ∧ h ≤ 6 then S.getD (h - 1).toNat (false, 0) else (false, 0)
theorem slotOf_in {S : List (Bool × Int)} {k : Nat} (hk : k < 6) : slotOf S ((k : Int) + 1) = S.getD k (false, 0) := by
  unfold slotOf
  rw [if_pos (by omega)]
  simp
theorem slotOf_out {S : List (Bool × Int)} {h : Int} (hh : h < 1 ∨ 6 < h) : slotOf S h = (false, 0) := by
  unfold slotOf
  rw [if_neg (by omega)]
theorem slot_ne {s : Bool × Int} (hz : s.1 = false → s.2 = 0) : (!(s.1 == false && s.2 == 0)) = s.1 := by
  obtain ⟨b, n⟩ := s
  cases b with
  | false => simp at hz; subst hz; rfl
  | true => rfl
set_option maxHeartbeats 4000000 in
theorem has_any (g : Nat) (S : List (Bool × Int)) (h : Int) (w : World) (H : HT w g S) :
    Calls Try.prog 16 #[.pointer (some ⟨g, 0, none⟩), .int .i64 h] w fun e w' => e = .returned (.bool (slotOf S h).1) ∧ w = w' := by
  have h6 := H.six
  have hz := H.zero
  by_cases h1 : h < 1
  · rw [slotOf_out (.inl h1)]
    have d1 : decide ((1 : Int) ≤ h) = false := by simp; omega
    go_enter Try.func16, Try.ntmps16
    go_wp2_with fail
    go_ret
    exact ⟨rfl, rfl⟩
  by_cases h2 : 6 < h
  · rw [slotOf_out (.inr h2)]
    have d1 : decide ((1 : Int) ≤ h) = true := by simp; omega
    have d2 : decide (h ≤ 6) = false := by simp; omega
    go_enter Try.func16, Try.ntmps16
    go_wp2_with fail
    go_ret
    exact ⟨rfl, rfl⟩
  obtain ⟨k, rfl, hk⟩ : ∃ k : Nat, h = (k : Int) + 1 ∧ k < 6 := ⟨(h - 1).toNat, by omega, by omega⟩
  obtain ⟨s, hs⟩ : ∃ s, S[k]? = some s := ⟨_, List.getElem?_eq_getElem (by omega)⟩
  have hz' := hz s (List.mem_of_getElem? hs)
  rw [slotOf_in hk, List.getD_eq_getElem?_getD, hs, Option.getD_some]
  have HE := Lib.hid (slot_ne hz')
  obtain ⟨b, n⟩ := s
  obtain ⟨c0, c1⟩ := H.cells hs
  clear H hz hs h6
  have d1 : decide ((1 : Int) ≤ (k : Int) + 1) = true := by simp; omega
  have d2 : decide ((k : Int) + 1 ≤ 6) = true := by simp; omega
  cases b with
  | false =>
    obtain rfl := hz' rfl
    go_enter Try.func16, Try.ntmps16
    go_wp2_with fail
    go_ret
    exact ⟨rfl, rfl⟩
  | true =>
    go_enter Try.func16, Try.ntmps16
    go_wp2_with fail
    go_ret
    exact ⟨rfl, rfl⟩
set_option maxHeartbeats 4000000 in
theorem get_any (g : Nat) (S : List (Bool × Int)) (h : Int) (w : World) (H : HT w g S) :
    Calls Try.prog 12 #[.pointer (some ⟨g, 0, none⟩), .int .i64 h] w fun e w' => e = .returned (.tuple (if (slotOf S h).1 then #[.int .i64 (slotOf S h).2, .int .i64 0] else #[.int .i64 0, .int .i64 66])) ∧ w = w' := by
  have KH := Lib.hid (has_any g S h w H)
  obtain ⟨q, hq⟩ : ∃ q, q = slotOf S h := ⟨_, rfl⟩
  rw [← hq] at KH ⊢
  obtain ⟨b, n⟩ := q
  cases b with
  | false =>
    clear hq
    go_enter Try.func12, Try.ntmps12
    go_wp2_with ((with_reducible refine KH.out.mono ?_); rintro e w1 ⟨rfl, rfl⟩)
    go_ret2
    exact ⟨rfl, rfl⟩
  | true =>
    obtain ⟨k, rfl, hk⟩ : ∃ k : Nat, h = (k : Int) + 1 ∧ k < 6 := by
      by_cases hh : 1 ≤ h ∧ h ≤ 6
      · exact ⟨(h - 1).toNat, by omega, by omega⟩
      · rw [slotOf_out (by omega)] at hq
        cases hq
    obtain ⟨s, hs⟩ : ∃ s, S[k]? = some s := ⟨_, List.getElem?_eq_getElem (by have := H.six; omega)⟩
    rw [slotOf_in hk, List.getD_eq_getElem?_getD, hs, Option.getD_some] at hq
    subst hq
    obtain ⟨c0, c1⟩ := H.cells hs
    clear H hs
    go_enter Try.func12, Try.ntmps12
    go_wp2_with ((with_reducible refine KH.out.mono ?_); rintro e w1 ⟨rfl, rfl⟩)
    go_ret2
    exact ⟨rfl, rfl⟩
/-- a slot stored -/
theorem HT.set {w w' : World} {g : Nat} {S : List (Bool × Int)} (h : HT w g S) {k : Nat} (s : Bool × Int) (hs : s.1 = false → s.2 = 0) (hb : Blk w' g 51 (hcells (S.set k s))) : HT w' g (S.set k s) :=
  ⟨hb, by rw [List.length_set]; exact h.six, fun x hx => by
    rcases List.mem_or_eq_of_mem_set hx with h' | rfl
    · exact h.zero x h'
    · exact hs⟩
set_option maxHeartbeats 4000000 in
theorem close_any (g : Nat) (S : List (Bool × Int)) (h : Int) (w : World) (H : HT w g S) :
    Calls Try.prog 8 #[.pointer (some ⟨g, 0, none⟩), .int .i64 h] w fun e w' => e = .returned (.int .i64 (if (slotOf S h).1 then 0 else 66)) ∧ HT w' g (if (slotOf S h).1 then S.set (h - 1).toNat (false, 0) else S) ∧ w.grownBy w' (some g) := by
  have KH := Lib.hid (has_any g S h w H)
  obtain ⟨q, hq⟩ : ∃ q, q = slotOf S h := ⟨_, rfl⟩
  rw [← hq] at KH ⊢
  obtain ⟨b, n⟩ := q
  cases b with
  | false =>
    clear hq
    go_enter Try.func8, Try.ntmps8
    go_wp2_with ((with_reducible refine KH.out.mono ?_); rintro e w1 ⟨rfl, rfl⟩)
    go_ret
    exact ⟨rfl, H, World.grownBy.refl _ _⟩
  | true =>
    obtain ⟨k, rfl, hk⟩ : ∃ k : Nat, h = (k : Int) + 1 ∧ k < 6 := by
      by_cases hh : 1 ≤ h ∧ h ≤ 6
      · exact ⟨(h - 1).toNat, by omega, by omega⟩
      · rw [slotOf_out (by omega)] at hq
        cases hq
    clear hq
    have HS := Lib.hid (show segSet (hcells S) (k * 2) [.bool false, .int .i64 0] = hcells (S.set k (false, 0)) from hcells_set H.six hk (false, 0))
    have H1 := Lib.hid (show ∀ v ∈ [Value.bool false, .int .i64 0], v.oneCell' = true from slotV_one (false, 0))
    have HH := Lib.hid H
    have HB := H.blk
    have hl : k * 2 + 2 ≤ (hcells S).length := by rw [hcells_length, H.six]; omega
    clear H
    go_enter Try.func8, Try.ntmps8
    go_wp2_with (first | ((with_reducible refine KH.out.mono ?_); rintro e w1 ⟨rfl, rfl⟩) | ((with_reducible refine wpl_seg_store sizeSl (.tmp 15) (.tmp 12) rfl rfl HB (k * 2) [.bool false, .int .i64 0] rfl hl H1.out rfl rfl _ HS.out ?_); intro w2 B2 g2 e2))
    go_ret
    exact ⟨rfl, by simpa using HH.out.set (false, 0) (fun _ => rfl) B2, g2⟩
/-- no handles -/
def hS0 : List (Bool × Int) := List.replicate 6 (false, 0)
set_option maxHeartbeats 4000000 in
theorem new_any (w : World) : Calls Try.prog 7 #[] w fun e w' => ∃ g, e = .returned (.pointer (some ⟨g, 0, none⟩)) ∧ w.heap.size ≤ g ∧ HT w' g hS0 ∧ Below w.heap.size w w' := by
  go_enter Try.func7, Try.ntmps7
  go_wp2_with fail
  go_ret
  refine ⟨_, rfl, Nat.le_refl _, ⟨?_, rfl, ?_⟩, (Below.refl _ _).alloc (Nat.le_refl _) _⟩
  · exact Blk.new w _ (hcells (List.replicate 6 (false, 0)))
  · intro s hs _
    rw [(List.mem_replicate.1 hs).2]
end Go.Proofs.Ythiembokmhbiaaa

