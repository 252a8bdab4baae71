/- The walk of PackBack: it answers true, and changes nothing that was there. No condition. -/
import Derived.Test.YtdmganpblkepfaaPackNums
namespace Go.Proofs.Ytdmganpblkepfaa
open Go.RowKit

/-- texts with their sizes ahead of them -/
def enc (L : List (List UInt8)) : List UInt8 := L.flatMap fun l => numB 2 l.length ++ l
theorem enc_snoc (L : List (List UInt8)) (k : Nat) (l : List UInt8) (h : L[k]? = some l) : enc (L.take (k + 1)) = enc (L.take k) ++ (numB 2 l.length ++ l) := by
  unfold enc
  rw [take_snoc L h, List.flatMap_append]
  simp
theorem enc_drop (L : List (List UInt8)) (k : Nat) (l : List UInt8) (h : L[k]? = some l) : enc (L.drop k) = numB 2 l.length ++ (l ++ enc (L.drop (k + 1))) := by
  have hk := get_lt h
  unfold enc
  rw [List.drop_eq_getElem_cons hk, List.flatMap_cons]
  rw [List.getElem?_eq_getElem hk] at h
  rw [Option.some.inj h, List.append_assoc]

theorem rbytes_back (g h : Nat) (l r : List UInt8) (w : World) (hr : Rd w g h (l ++ r) false) (hh : h < w.heap.size) (hl : (l ++ r).length ≤ 1000000) :
    Calls Try.prog 38 #[.pointer (some ⟨g, 0, none⟩), .int .i64 (l.length : Int)] w fun e w' => ∃ g' c', e = .returned (.slice (some ⟨g', 0, none⟩) l.length c') ∧ w.heap.size ≤ g' ∧ Own 5 w' w.heap.size (.slice (some ⟨g', 0, none⟩) l.length c') l ∧
      Rd w' g h r false ∧ w.grownBy w' (some g) := by
  have hm : (max (l.length : Int) 0).toNat = l.length := by omega
  have R := rbytes_yes g h (l ++ r) false (l.length : Int) w hr hh (by rw [hm, List.length_append]; omega) hl
  rw [hm] at R
  have e1 : (l ++ r).take l.length = l := by simp
  have e2 : (l ++ r).drop l.length = r := by simp
  rw [e1, e2] at R
  refine R.mono ?_
  rintro e w' ⟨g', k, c', rfl, rfl, h1, h2, h3, h4⟩
  exact ⟨g', c', rfl, h1, h2, h3, h4⟩

theorem rlen_back (g h : Nat) (l r : List UInt8) (hl : l.length ≤ 1000) (w : World) (hr : Rd w g h (numB 2 l.length ++ r) false) :
    Calls Try.prog 37 #[.pointer (some ⟨g, 0, none⟩), .int .i64 2] w fun e w' => e = .returned (.int .u64 (l.length : Int)) ∧ Rd w' g h r false ∧ w.grownBy w' (some g) := by
  have R := rnum_back g h 2 2 l.length (by decide) r w hr
  rw [Nat.mod_eq_of_lt (by omega)] at R
  exact R

end Go.Proofs.Ytdmganpblkepfaa
