/- The example of the document for layer 17 holds. No condition but that internal/bytealg's MaxLen is some int. -/
import Derived.Test.YteihffmenfobaaaDoorQNameSplit
namespace Go.Proofs.YteihffmenfobaaaDoor
open Go.RowKit Go.Shelf
theorem dl_two {xs : List ByteArray} {a b : List UInt8} (h : dl xs = [a, b]) : ∃ x y : ByteArray, xs = [x, y] ∧ x.toList = a ∧ y.toList = b := by
  match xs, h with
  | [x, y], h =>
    simp only [dl, List.map_cons, List.map_nil, List.cons.injEq, and_true] at h
    exact ⟨x, y, rfl, by rw [Lib.toList_data]; exact h.1, by rw [Lib.toList_data]; exact h.2⟩
set_option maxRecDepth 100000 in
set_option maxHeartbeats 4000000 in
theorem namespeaks_any (w : World) (hm : MaxI w) :
    Calls Tryd.prog 7 #[] w fun e w' => e = .returned (.bool true) ∧ Below w.heap.size w w' := by
  have K1 := Lib.hid (split_any ⟨#[47, 97, 47, 98]⟩ w hm (by decide))
  have HM := Lib.hid hm
  clear hm
  go_enter Tryd.func7, Tryd.ntmps7
  go_wp2_with fail
  refine K1.out.mono ?_
  rintro e w1 (⟨v, xs, rfl, ha, hx, fx, hb⟩ | ⟨_, ha, _⟩)
  · rw [show splitL (⟨#[47, 97, 47, 98]⟩ : ByteArray).data.toList = some [[97], [98]] by decide] at ha
    obtain ⟨x, y, rfl, x1, y1⟩ := dl_two (Option.some.inj ha).symm
    have HX := Lib.hid hx
    have HF := Lib.hid fx
    have HB := Lib.hid hb
    have HM1 := Lib.hid (HM.out.below hb)
    have g1 : (x.toList == [97]) = true := by rw [x1]; rfl
    have g2 : (y.toList == [98]) = true := by rw [y1]; rfl
    have K2 := Lib.hid (split_any ⟨#[47, 97, 47]⟩ w1 HM1.out (by decide))
    clear ha hx fx hb K1 HM x1 y1
    go_wp2_with fail
    refine K2.out.mono ?_
    rintro e w2 (⟨_, _, _, ha, _⟩ | ⟨rfl, _, hb⟩)
    · rw [show splitL (⟨#[47, 97, 47]⟩ : ByteArray).data.toList = none by decide] at ha
      cases ha
    have HX2 := Lib.hid (HX.out.after hb)
    have HB2 := Lib.hid (HB.out.trans (hb.mono HB.out.size))
    have HM2 := Lib.hid (HM1.out.below hb)
    have K3 := Lib.hid (split_any ⟨#[47, 47, 97]⟩ w2 HM2.out (by decide))
    clear hb K2 HX HB HM1
    go_wp2_with fail
    refine K3.out.mono ?_
    rintro e w3 (⟨_, _, _, ha, _⟩ | ⟨rfl, _, hb⟩)
    · rw [show splitL (⟨#[47, 47, 97]⟩ : ByteArray).data.toList = none by decide] at ha
      cases ha
    have HX3 := Lib.hid (HX2.out.after hb)
    have HB3 := Lib.hid (HB2.out.trans (hb.mono HB2.out.size))
    have HM3 := Lib.hid (HM2.out.below hb)
    have K4 := Lib.hid (within_any ⟨#[47, 97, 98]⟩ ⟨#[47, 97]⟩ w3 HM3.out (by decide) (by decide))
    rw [show withinL (⟨#[47, 97, 98]⟩ : ByteArray).data.toList (⟨#[47, 97]⟩ : ByteArray).data.toList = false by decide] at K4
    clear hb K3 HX2 HB2 HM2 HM3
    obtain ⟨A, c, rfl, _, _, hr⟩ := HX3.out
    obtain ⟨g, o, rfl, _, hc⟩ := Row.flat hr HF.out (by simp)
    have c0 := hc 0 x rfl
    have c1 := hc 1 y rfl
    rw [Nat.add_zero] at c0
    clear hr HX3 hc HF
    simp only [List.length_cons, List.length_nil]
    go_wp2_with fail
    refine K4.out.mono ?_
    rintro e w4 ⟨rfl, hb⟩
    go_wp2
    go_ret
    exact ⟨rfl, HB3.out.trans (hb.mono HB3.out.size)⟩
  · rw [show splitL (⟨#[47, 97, 47, 98]⟩ : ByteArray).data.toList = some [[97], [98]] by decide] at ha
    cases ha
end Go.Proofs.YteihffmenfobaaaDoor

