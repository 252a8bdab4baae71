/- Slices of texts, and what fit of name answers. No condition but that the texts are there. -/
import Derived.Test.YteihffmenfobaaaDoorQNameRight
import Derived.Deep.LoopGhost
namespace Go.Proofs.YteihffmenfobaaaDoor
open Go.RowKit Go.Shelf
/-- v is a slice of the texts xs -/
def Strs (w : World) (B : Nat) (v : Value) (xs : List ByteArray) : Prop :=
  ∃ A c, v = .slice A xs.length c ∧ xs.length ≤ c ∧ c ≤ maxLen ∧ Row w B A (xs.map Value.string)
def dl (xs : List ByteArray) : List (List UInt8) := xs.map (·.data.toList)
theorem dl_length (xs : List ByteArray) : (dl xs).length = xs.length := by simp [dl]
section
variable {w w' : World} {B B' : Nat} {v : Value} {xs : List ByteArray}
theorem Strs.keep (h : Strs w B v xs) (hk : ∀ p : Addr, p.block < B → w'.cell? p = w.cell? p) : Strs w' B v xs := by
  obtain ⟨A, c, e, h1, h2, h3⟩ := h
  exact ⟨A, c, e, h1, h2, h3.keep hk⟩
theorem Strs.more (h : Strs w B v xs) (hB : B ≤ B') : Strs w B' v xs := by
  obtain ⟨A, c, e, h1, h2, h3⟩ := h
  exact ⟨A, c, e, h1, h2, h3.more hB⟩
theorem Strs.below (h : Strs w B v xs) (hb : Below B w w') : Strs w' B v xs := h.keep fun _ hp => hb.cell hp
theorem Strs.after (h : Strs w w.heap.size v xs) (hb : Below w.heap.size w w') : Strs w' w'.heap.size v xs := (h.below hb).more hb.size
theorem Strs.nil (c : Nat) (hc : c ≤ maxLen) : Strs w B (.slice none 0 c) [] := ⟨none, c, rfl, Nat.zero_le _, hc, Row.nil⟩
theorem Strs.none_ (A : Option Addr) (c : Nat) (hc : c ≤ maxLen) : Strs w B (.slice A 0 c) [] := ⟨A, c, rfl, Nat.zero_le _, hc, Row.nil⟩
end
theorem all_take {xs : List ByteArray} {k : Nat} {x : ByteArray} (h : ((dl xs).take k).all rightL = true) (hx : xs[k]? = some x) (hr : rightL x.data.toList = true) : ((dl xs).take (k + 1)).all rightL = true := by
  have : (dl xs)[k]? = some x.data.toList := by simp [dl, hx]
  rw [take_snoc _ this, List.all_append, h]
  simp [hr]
theorem all_not {xs : List ByteArray} {k : Nat} {x : ByteArray} (hx : xs[k]? = some x) (hr : rightL x.data.toList = false) : fitL (dl xs) = false := by
  have hm : x.data.toList ∈ dl xs := by
    have := List.mem_of_getElem? hx
    simp only [dl, List.mem_map]
    exact ⟨x, this, rfl⟩
  unfold fitL
  rw [Bool.and_eq_false_iff]
  refine .inr ?_
  rw [List.all_eq_false]
  exact ⟨_, hm, by rw [hr]; simp⟩
set_option maxHeartbeats 4000000 in
set_option maxRecDepth 100000 in
theorem fit_any (v : Value) (xs : List ByteArray) (w : World) (hv : Strs w w.heap.size v xs) :
    Calls Tryd.prog 17 #[v] w fun e w' => e = .returned (.bool (fitL (dl xs))) ∧ Below w.heap.size w w' := by
  obtain ⟨A, c, rfl, hc, hm, hr⟩ := hv
  have HR := Lib.hid hr
  clear hr
  by_cases h6 : 6 < xs.length
  · have i1 : (6 : Int) < (xs.length : Int) := by omega
    have d1 : fitL (dl xs) = false := by
      unfold fitL
      rw [decide_eq_false (by rw [dl_length]; omega)]
      rfl
    rw [d1]
    go_enter Tryd.func17, Tryd.ntmps17
    go_wp2
    go_ret
    exact ⟨rfl, Below.refl _ _⟩
  · have i1 : ¬ (6 : Int) < (xs.length : Int) := by omega
    obtain ⟨F, hF⟩ : ∃ F, fitL (dl xs) = F := ⟨_, rfl⟩
    rw [hF]
    have HF := Lib.hid hF
    clear hF
    go_enter Tryd.func17, Tryd.ntmps17
    go_wp2
    go_loopg [4, 10] xs.length (fun g _ i wx => ∃ k : Nat, k + g = xs.length ∧ i = .int .i64 k ∧ Below w.heap.size w wx ∧ Hid (((dl xs).take k).all rightL = true))
    case atStart => exact ⟨0, by omega, rfl, Below.refl _ _, Lib.hid rfl⟩
    case round =>
      obtain ⟨k, hk, rfl, hB, hal⟩ := hrel
      have HB := Lib.hid hB
      clear hB
      cases gk with
      | zero =>
        obtain rfl : k = xs.length := by omega
        have d1 : fitL (dl xs) = true := by
          unfold fitL
          have h := hal.out
          rw [List.take_of_length_le (by rw [dl_length]; exact Nat.le_refl _)] at h
          rw [h, decide_eq_true (by rw [dl_length]; omega)]
          rfl
        obtain rfl : F = true := HF.out.symm.trans d1
        clear hal d1
        have i2 : ¬ (xs.length : Int) < (xs.length : Int) := by omega
        go_wp2
        go_ret
        exact ⟨rfl, HB.out⟩
      | succ g =>
        have hlt : k < xs.length := by omega
        have i2 : (k : Int) < (xs.length : Int) := by omega
        obtain ⟨a, rfl, hab, hcell⟩ := (HR.out.below HB.out).at_ (k := k) (by rw [List.length_map]; exact hlt)
        rw [List.getElem_map] at hcell
        obtain ⟨x, hx⟩ : ∃ x, xs[k] = x := ⟨_, rfl⟩
        rw [hx] at hcell
        have hx' : xs[k]? = some x := by rw [List.getElem?_eq_getElem hlt, hx]
        have HX := Lib.hid hx'
        clear hx hx'
        obtain ⟨R, hR⟩ : ∃ R, rightL x.data.toList = R := ⟨_, rfl⟩
        have K := Lib.hid (right_any x wr)
        rw [hR] at K
        cases R with
        | true =>
          have HT := Lib.hid (all_take hal.out HX.out hR)
          clear hR
          go_wp2_with (go_at_call 10; refine K.out.mono ?_; rintro e w9 ⟨rfl, h9⟩)
          have HB9 := Lib.hid (HB.out.trans (h9.mono HB.out.size))
          clear h9
          go_roundg g
          case measure => omega
          case rel => exact ⟨k + 1, by omega, by go_num, HB9.out, HT⟩
        | false =>
          obtain rfl : F = false := HF.out.symm.trans (all_not HX.out hR)
          clear hR
          go_wp2_with (go_at_call 10; refine K.out.mono ?_; rintro e w9 ⟨rfl, h9⟩)
          go_ret
          exact ⟨rfl, HB.out.trans (h9.mono HB.out.size)⟩
end Go.Proofs.YteihffmenfobaaaDoor

