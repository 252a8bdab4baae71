/- What the document's Join of names answers. No condition but that the texts are there. -/
import Derived.Test.YteihffmenfobaaaDoorQNameRef
namespace Go.Proofs.YteihffmenfobaaaDoor
open Go.RowKit Go.Shelf
/-- what the document's Join answers -/
def RJoinOut (w : World) (ns : List (List UInt8)) (e : Ending) (w' : World) : Prop :=
  (∃ p : ByteArray, e = .returned (.tuple #[.string p, .bool true]) ∧ joinL ns = some p.data.toList ∧ w = w') ∨
  (e = .returned (.tuple #[.string ⟨#[]⟩, .bool false]) ∧ joinL ns = none ∧ w = w')
theorem glue_snoc (ns : List (List UInt8)) (l : List UInt8) : glue (ns ++ [l]) = glue ns ++ 47 :: l := by rw [glue_append]; simp [glue]
set_option maxHeartbeats 4000000 in
set_option maxRecDepth 100000 in
theorem refJoin_any (v : Value) (xs : List ByteArray) (w : World) (hv : Strs w w.heap.size v xs) :
    Calls Tryd.prog 13 #[v] w fun e w' => RJoinOut w (dl xs) e w' := by
  obtain ⟨A, c, rfl, hc, hm, hr⟩ := hv
  have HR := Lib.hid hr
  clear hr
  by_cases h6 : 6 < xs.length
  · have i1 : (6 : Int) < (xs.length : Int) := by omega
    have HNo : Hid (joinL (dl xs) = none) := Lib.hid (by rw [joinL_fit]; unfold fitL; rw [decide_eq_false (by rw [dl_length]; omega)]; rfl)
    go_enter Tryd.func13, Tryd.ntmps13
    go_wp2
    go_ret2
    exact .inr ⟨rfl, HNo.out, rfl⟩
  · have i1 : ¬ (6 : Int) < (xs.length : Int) := by omega
    go_enter Tryd.func13, Tryd.ntmps13
    go_wp2
    go_loop [4, 5] (fun o i => ∃ (k : Nat) (p : ByteArray), k ≤ xs.length ∧ i = .int .i64 k ∧ o = .string p ∧ Hid (p.data.toList = glue ((dl xs).take k)) ∧ p.size ≤ 13 * k ∧ Hid (((dl xs).take k).all rightL = true)) (fun _ i => xs.length - (intOf i).toNat)
    case atStart => exact ⟨0, ⟨#[]⟩, by omega, rfl, rfl, Lib.hid rfl, by decide, Lib.hid rfl⟩
    case round =>
      obtain ⟨k, p, hk, rfl, rfl, hp, hps, hal⟩ := hrel
      by_cases hlt : k < xs.length
      · have i2 : (k : Int) < (xs.length : Int) := by omega
        obtain ⟨a, rfl, hab, hcell⟩ := HR.out.at_ (k := k) (by rw [List.length_map]; exact hlt)
        rw [List.getElem_map] at hcell
        obtain ⟨x, hx⟩ : ∃ x, xs[k] = x := ⟨_, rfl⟩
        rw [hx] at hcell
        have hx' : xs[k]? = some x := by rw [List.getElem?_eq_getElem hlt, hx]
        have HX := Lib.hid hx'
        clear hx hx'
        obtain ⟨R, hR⟩ : ∃ R, rightL x.data.toList = R := ⟨_, rfl⟩
        have K := Lib.hid (refRight_any x w)
        rw [hR] at K
        cases R with
        | true =>
          have HT := Lib.hid (all_take hal.out HX.out hR)
          have hxs : x.size ≤ 12 := by
            have h := (of_decide_eq_true hR).2.1
            rw [Lib.size_eq]
            exact h
          have hgl : (p ++ ((⟨#[47]⟩ : ByteArray) ++ x)).data.toList = glue ((dl xs).take (k + 1)) := by
            have h2 : (dl xs)[k]? = some x.data.toList := by simp [dl, HX.out]
            rw [take_snoc _ h2, glue_snoc, ← hp.out]
            simp
          have HG := Lib.hid hgl
          have c1 : ¬ 9223372036854775807 < 1 + x.size := by omega
          have c2 : ¬ 9223372036854775807 < p.size + (1 + x.size) := by omega
          clear hR hgl
          go_wp2_with (go_at_call 11; refine K.out.mono ?_; rintro e w9 ⟨rfl, rfl⟩)
          go_round
          case rel => exact ⟨k + 1, _, by omega, by go_num, rfl, HG, by simp only [ByteArray.size_append]; have : (⟨#[47]⟩ : ByteArray).size = 1 := rfl; omega, HT⟩
          case measure => simp [intOf]; omega
        | false =>
          have HNo : Hid (joinL (dl xs) = none) := Lib.hid (by rw [joinL_fit, all_not HX.out hR]; rfl)
          clear hR
          go_wp2_with (go_at_call 11; refine K.out.mono ?_; rintro e w9 ⟨rfl, rfl⟩)
          go_ret2
          exact .inr ⟨rfl, HNo.out, rfl⟩
      · obtain rfl : k = xs.length := by omega
        have hfit : fitL (dl xs) = true := by
          unfold fitL
          have h := hal.out
          rw [List.take_of_length_le (by rw [dl_length]; exact Nat.le_refl _)] at h
          rw [h, decide_eq_true (by rw [dl_length]; omega)]
          rfl
        have hg := hp.out
        rw [List.take_of_length_le (by rw [dl_length]; exact Nat.le_refl _)] at hg
        have HJ : Hid (joinL (dl xs) = some (if dl xs = [] then [47] else p.data.toList)) := Lib.hid (by rw [joinL_fit, hfit, if_pos rfl, hg])
        have i2 : ¬ (xs.length : Int) < (xs.length : Int) := by omega
        by_cases hx : xs = []
        · have hpe : p.data.toList = [] := by rw [hg, hx]; rfl
          have he : p.toList.isEmpty = true := by rw [Lib.toList_data, hpe]; rfl
          have HX := Lib.hid hx
          clear hx hpe hg hp hal hfit hlt
          go_wp2
          go_ret2
          exact .inl ⟨⟨#[47]⟩, rfl, by rw [HJ.out, if_pos (by rw [HX.out]; rfl)], rfl⟩
        · have hpe : p.toList.isEmpty = false := by
            rw [Lib.toList_data, hg]
            cases xs with
            | nil => exact absurd rfl hx
            | cons y ys => rfl
          have HX := Lib.hid hx
          clear hx hg hp hal hfit hlt
          go_wp2
          go_ret2
          exact .inl ⟨p, rfl, by rw [HJ.out, if_neg (fun e => HX.out (by simpa [dl] using e))], rfl⟩
end Go.Proofs.YteihffmenfobaaaDoor

