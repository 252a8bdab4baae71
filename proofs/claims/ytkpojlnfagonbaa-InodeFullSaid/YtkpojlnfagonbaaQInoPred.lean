/- Whether a name is among some; the first entry of which the name is. No condition but that the names and entries are there. -/
import Derived.Test.YtkpojlnfagonbaaQInoStep
import Derived.Test.YtkpojlnfagonbaaQStrs
import Derived.Test.YtkpojlnfagonbaaQWearCells
import Derived.Test.YtkpojlnfagonbaaQInoFind
namespace Go.Proofs.Ytkpojlnfagonbaa
open Go Go.RowKit
/-- is the text among these? -/
def hasS (xs : List ByteArray) (s : ByteArray) : Bool := xs.any fun t => s.toList == t.toList
theorem Strs.at_ {w : World} {B : Nat} {A : Option Addr} {n c : Nat} {xs : List ByteArray} (h : Strs w B (.slice A n c) xs) {k : Nat} {x : ByteArray} (hk : xs[k]? = some x) : ∃ a, A = some a ∧ a.block < B ∧ w.cell? (a.add k) = some (.string x) := by
  obtain ⟨_, _, e1, _, _, hr⟩ := h
  cases e1
  exact hr k (.string x) (by rw [List.getElem?_map, hk]; rfl)
theorem Strs.shape {w : World} {B : Nat} {v : Value} {xs : List ByteArray} (h : Strs w B v xs) : ∃ A c, v = .slice A xs.length c ∧ xs.length ≤ c ∧ c ≤ 9223372036854775807 := by
  obtain ⟨A, c, e, h1, h2, _⟩ := h
  exact ⟨A, c, e, h1, h2⟩
set_option maxHeartbeats 4000000 in
theorem index_any (v : Value) (xs : List ByteArray) (s : ByteArray) (w : World) (hv : Strs w w.heap.size v xs) (hl : xs.length ≤ 1000) :
    Calls Try.prog 64 #[v, .string s] w fun e w' => ∃ z : Int, Hid (decide (0 ≤ z) = hasS xs s) ∧ e = .returned (.int .i64 z) ∧ w = w' := by
  obtain ⟨A, c, rfl, hc, hm⟩ := hv.shape
  have HV := Lib.hid hv
  obtain ⟨N, hN⟩ : ∃ N, xs.length = N := ⟨_, rfl⟩
  have HN := Lib.hid hN
  rw [hN] at HV hc hl ⊢
  clear hv hN
  go_enter Try.func64, Try.ntmps64
  go_wp2_with fail
  go_loopw [8] (fun i wr => ∃ j : Nat, j ≤ N ∧ i = .int .i64 j ∧ Hid (w = wr) ∧ Hid (∀ k x, k < j → xs[k]? = some x → (s.toList == x.toList) = false)) (fun i _ => N - (intOf i).toNat)
  case atStart => exact ⟨0, by omega, rfl, Lib.hid rfl, Lib.hid (fun k x hk => by omega)⟩
  case round =>
    obtain ⟨j, hj, rfl, hw, hn⟩ := hrel
    by_cases hlt : j < N
    · obtain ⟨x, hx⟩ : ∃ x, xs[j]? = some x := ⟨_, List.getElem?_eq_getElem (by rw [HN.out]; exact hlt)⟩
      obtain ⟨a, rfl, hab, hck⟩ := HV.out.at_ hx
      rw [hw.out] at hck
      have HX := Lib.hid hx
      clear hx
      cases hb : (s.toList == x.toList) with
      | true =>
        have HB := Lib.hid hb
        go_wp2_with fail
        go_ret
        refine ⟨(j : Int), Lib.hid ?_, rfl, hw.out⟩
        rw [decide_eq_true (by omega)]
        unfold hasS
        exact (List.any_eq_true.2 ⟨x, List.mem_of_getElem? HX.out, HB.out⟩).symm
      | false =>
        have HB := Lib.hid hb
        go_wp2_with fail
        exact ⟨⟨j + 1, by omega, by go_num, hw, Lib.hid (fun k y hk hy => by
          rcases Nat.lt_or_ge k j with h | h
          · exact hn.out k y h hy
          · have e : k = j := by omega
            rw [e, HX.out] at hy
            cases hy
            exact HB.out)⟩, by simp [intOf]; omega⟩
    · obtain rfl : j = N := by omega
      go_wp2_with fail
      go_ret
      refine ⟨-1, Lib.hid ?_, rfl, hw.out⟩
      have : hasS xs s = false := by
        unfold hasS
        rw [List.any_eq_false]
        intro x hx
        obtain ⟨k, hk⟩ := List.getElem?_of_mem hx
        rw [hn.out k x (by have := (List.getElem?_eq_some_iff.1 hk).1; have := HN.out; omega) hk]
        simp
      rw [this]
      rfl
set_option maxHeartbeats 4000000 in
theorem contains_any (v : Value) (xs : List ByteArray) (s : ByteArray) (w : World) (hv : Strs w w.heap.size v xs) (hl : xs.length ≤ 1000) :
    Calls Try.prog 43 #[v, .string s] w fun e w' => e = .returned (.bool (hasS xs s)) ∧ w = w' := by
  have KI := Lib.hid (index_any v xs s w hv hl)
  obtain ⟨b, hb⟩ : ∃ b, b = hasS xs s := ⟨_, rfl⟩
  rw [← hb] at KI ⊢
  clear hb hv
  go_enter Try.func43, Try.ntmps43
  go_wp2_with ((with_reducible refine KI.out.mono ?_); rintro e w1 ⟨z, hz, rfl, rfl⟩)
  go_ret
  exact ⟨by rw [← hz.out]; rfl, rfl⟩
set_option maxHeartbeats 4000000 in
theorem pred_any (gn : Nat) (v : Value) (xs : List ByteArray) (x : EN) (w : World) (hg : w.cell? ⟨gn, 0, none⟩ = some v) (hv : Strs w w.heap.size v xs) (hl : xs.length ≤ 1000) :
    Calls Try.prog 42 #[.agg #[.string x.n, .int .i64 x.i], .pointer (some ⟨gn, 0, none⟩)] w fun e w' => e = .returned (.bool (hasS xs x.n)) ∧ Below w.heap.size w w' := by
  have b1 := (Below.refl w.heap.size w).alloc (Nat.le_refl _) (.cells #[.string x.n, .int .i64 x.i] 32)
  have HB := Lib.hid b1
  have KC := Lib.hid (contains_any v xs x.n _ (hv.after b1) hl)
  have hlt : gn < w.heap.size := World.block_lt_of_cell? w _ hg
  have c1 := (b1.cell (p := ⟨gn, 0, none⟩) hlt).trans hg
  obtain ⟨b, hb⟩ : ∃ b, b = hasS xs x.n := ⟨_, rfl⟩
  rw [← hb] at KC ⊢
  obtain ⟨A, c, rfl, _, _⟩ := hv.shape
  clear b1 hv hb hg
  go_enter Try.func42, Try.ntmps42
  go_wp2_with ((with_reducible refine KC.out.mono ?_); rintro e w1 ⟨rfl, rfl⟩)
  go_ret
  exact ⟨rfl, HB.out⟩
end Go.Proofs.Ytkpojlnfagonbaa

