/- The contracts of pack's Reader that give what is left, and bytes. No condition. -/
import Derived.Test.YtdmganpblkepfaaPackRd
namespace Go.Proofs.Ytdmganpblkepfaa
open Go.RowKit

theorem left_any (g h : Nat) (l : List UInt8) (bad : Bool) (w : World) (hr : Rd w g h l bad) :
    Calls Try.prog 39 #[.pointer (some ⟨g, 0, none⟩)] w fun e w' => e = .returned (.int .i64 (l.length : Int)) ∧ w = w' := by
  obtain ⟨hgh, A, m, c, rfl, hmc, hcm, hblk, hrow⟩ := hr
  have c0 := blk_cell hblk 0
  clear hblk hrow
  simp at c0
  go_enter Try.func39, Try.ntmps39
  go_wp2
  go_ret
  exact ⟨rfl, rfl⟩
set_option maxHeartbeats 1000000 in
theorem rbytes_yes (g h : Nat) (l : List UInt8) (bad : Bool) (n : Int) (w : World) (hr : Rd w g h l bad) (hh : h < w.heap.size) (hn : (max n 0).toNat ≤ l.length) (hl : l.length ≤ 1000000) :
    Calls Try.prog 38 #[.pointer (some ⟨g, 0, none⟩), .int .i64 n] w fun e w' => ∃ g' k c', e = .returned (.slice (some ⟨g', 0, none⟩) k c') ∧ k = (l.take (max n 0).toNat).length ∧ w.heap.size ≤ g' ∧ Own 5 w' w.heap.size (.slice (some ⟨g', 0, none⟩) k c') (l.take (max n 0).toNat) ∧
      Rd w' g h (l.drop (max n 0).toNat) bad ∧ w.grownBy w' (some g) := by
  obtain ⟨K, hK⟩ : ∃ K, K = (max n 0).toNat := ⟨_, rfl⟩
  rw [← hK] at hn ⊢
  have HR := Lib.hid hr
  have HK : Hid (max n 0 = (K : Int)) := Lib.hid (by omega)
  clear hr hK
  have hi : (n < 0 ∧ (0 : Int) = (K : Int)) ∨ (0 ≤ n ∧ n = (K : Int)) := by have := HK.out; omega
  rcases hi with ⟨hs, hi⟩ | ⟨hs, hi⟩
  all_goals
    have HI := Lib.hid hi
    clear hi
    go_enter Try.func38, Try.ntmps38
    go_wp2_with fail
    ((with_reducible refine (take_yes' g h l bad _ K HI.out _ HR.out hn).mono ?_); rintro e w1 ⟨A, c, rfl, hKc, hcm, hrow, hrd, hgr⟩)
    have hlen : K = (l.take K).length := (List.length_take_of_le hn).symm
    have D1 := of_row hlen hKc hcm hrow
    have hz := hgr.size
    have hrd2 := (hrd.same ((Below.refl _ _).alloc (Nat.le_refl _) (.cells #[.slice A K c] 23)) (Nat.lt_of_lt_of_le hh hz))
    have hgr2 := only_alloc hgr (.cells #[.slice A K c] 23)
    have P2 : Parts (w1.alloc (.cells #[.slice A K c] 23)) (w1.heap.size + 1) (.slice (some ⟨w1.heap.size, 0, none⟩) 1 1) [l.take K] := Parts.new (Each.cons D1 Each.nil) (Nat.le_refl _) (by simp [maxLen]) 1 rfl _ rfl _ (by omega) _ _ rfl
    have HRD := Lib.hid hrd2
    have HGR := Lib.hid hgr2
    have HP2 := Lib.hid P2
    have HLEN := Lib.hid hlen
    clear hrd hgr hrow D1 P2 hrd2 hgr2 hlen
    go_wp2_with fail
    have hfl : [l.take K].flatten = l.take K := by simp
    have J := join_any _ _ _ _ (by simp) HP2.out (by rw [hfl, ← HLEN.out]; omega)
    rw [hfl] at J
    ((with_reducible refine J.mono ?_); rintro e w3 ⟨g3, c3, rfl, hg3, O3, hb3⟩)
    clear J
    have HRD3 := Lib.hid (HRD.out.same hb3 (by simp; omega))
    have HGR3 := Lib.hid (only_below HGR.out hb3)
    have O4 : Own 5 w3 w.heap.size (.slice (some ⟨g3, 0, none⟩) (l.take K).length c3) (l.take K) := by
      obtain ⟨x1, x2⟩ := O3
      refine ⟨x1, ?_⟩
      rcases x2 with x2 | ⟨y1, y2, y3, y4, y5, y6⟩
      · exact .inl x2
      · exact .inr ⟨y1, y2, y3, y4, Nat.le_trans (by simp; omega) y5, y6⟩
    have HO4 := Lib.hid O4
    have hg4 : w.heap.size ≤ g3 := Nat.le_trans (by simp; omega) hg3
    clear hb3 O3 O4 hfl hg3
    go_wp2
    go_ret
    have HO5 := HO4.out
    rw [← HLEN.out] at HO5
    exact ⟨g3, K, c3, rfl, HLEN.out, hg4, HO5, HRD3.out, HGR3.out⟩

set_option maxHeartbeats 1000000 in
theorem rbytes_no (g h : Nat) (l : List UInt8) (bad : Bool) (n : Int) (w : World) (hr : Rd w g h l bad) (hh : h < w.heap.size) (hn : l.length < (max n 0).toNat) :
    Calls Try.prog 38 #[.pointer (some ⟨g, 0, none⟩), .int .i64 n] w fun e w' => ∃ g' c', e = .returned (.slice (some ⟨g', 0, none⟩) 0 c') ∧ w.heap.size ≤ g' ∧ Own 5 w' w.heap.size (.slice (some ⟨g', 0, none⟩) 0 c') [] ∧
      Rd w' g h [] true ∧ w.grownBy w' (some g) := by
  obtain ⟨K, hK⟩ : ∃ K, K = (max n 0).toNat := ⟨_, rfl⟩
  rw [← hK] at hn
  have HR := Lib.hid hr
  have HK : Hid (max n 0 = (K : Int)) := Lib.hid (by omega)
  clear hr hK
  have hs : 0 ≤ n := by have := HK.out; omega
  have HI : Hid (n = (K : Int)) := Lib.hid (by have := HK.out; omega)
  go_enter Try.func38, Try.ntmps38
  go_wp2_with fail
  ((with_reducible refine (take_no' g h l bad _ K HI.out _ HR.out hn).mono ?_); rintro e w1 ⟨rfl, hrd, hgr⟩)
  have hz := hgr.size
  have hrd2 := (hrd.same ((Below.refl _ _).alloc (Nat.le_refl _) (.cells #[.slice none 0 0] 23)) (Nat.lt_of_lt_of_le hh hz))
  have hgr2 := only_alloc hgr (.cells #[.slice none 0 0] 23)
  have P2 : Parts (w1.alloc (.cells #[.slice none 0 0] 23)) (w1.heap.size + 1) (.slice (some ⟨w1.heap.size, 0, none⟩) 1 1) [[]] := Parts.new (B := w1.heap.size) (Each.cons ⟨none, 0, rfl, Nat.le_refl _, by simp [maxLen], Row.nil⟩ Each.nil) (Nat.le_refl _) (by simp [maxLen]) 1 rfl _ rfl _ (by omega) _ _ rfl
  have HRD := Lib.hid hrd2
  have HGR := Lib.hid hgr2
  have HP2 := Lib.hid P2
  clear hrd hgr P2 hrd2 hgr2
  go_wp2_with fail
  have J := join_any _ _ _ _ (by simp) HP2.out (by simp)
  have hfl : ([[]] : List (List UInt8)).flatten = [] := rfl
  rw [hfl] at J
  ((with_reducible refine J.mono ?_); rintro e w3 ⟨g3, c3, rfl, hg3, O3, hb3⟩)
  clear J
  have HRD3 := Lib.hid (HRD.out.same hb3 (by simp; omega))
  have HGR3 := Lib.hid (only_below HGR.out hb3)
  have O4 : Own 5 w3 w.heap.size (.slice (some ⟨g3, 0, none⟩) 0 c3) [] := by
    obtain ⟨x1, x2⟩ := O3
    refine ⟨x1, ?_⟩
    rcases x2 with x2 | ⟨y1, y2, y3, y4, y5, y6⟩
    · exact .inl x2
    · exact .inr ⟨y1, y2, y3, y4, Nat.le_trans (by simp; omega) y5, y6⟩
  have HO4 := Lib.hid O4
  have hg4 : w.heap.size ≤ g3 := Nat.le_trans (by simp; omega) hg3
  clear hb3 O3 O4 hfl hg3
  go_wp2
  go_ret
  exact ⟨g3, c3, rfl, hg4, HO4.out, HRD3.out, HGR3.out⟩

end Go.Proofs.Ytdmganpblkepfaa
