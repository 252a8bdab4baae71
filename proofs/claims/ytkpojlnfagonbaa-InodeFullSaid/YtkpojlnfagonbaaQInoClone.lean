/- What slices.Clone of entries gives: the same entries in memory of its own. No condition but that the entries are there. -/
import Derived.Test.YtkpojlnfagonbaaQInoRows
import Derived.Lib.SliceRun
namespace Go.Proofs.Ytkpojlnfagonbaa
open Go.RowKit
theorem Ents.none_nil {w : World} {B n c : Nat} {es : List EN} (h : Ents w B (.slice none n c) es) : es = [] := by
  obtain ⟨_, _, e, _, _, hr⟩ := h
  cases e
  cases es with
  | nil => rfl
  | cons x xs =>
    obtain ⟨a, e, _⟩ := hr 0 _ rfl
    cases e
set_option maxRecDepth 100000 in
set_option maxHeartbeats 4000000 in
theorem clone_any (v : Value) (es : List EN) (w : World) (hv : Ents w w.heap.size v es) (hl : es.length ≤ 1000) :
    Calls Try.prog 35 #[v] w fun e w' => ∃ A c, e = .returned (.slice A es.length c) ∧ OwnE w' w.heap.size (.slice A es.length c) es ∧ Below w.heap.size w w' := by
  have HV := Lib.hid hv
  obtain ⟨A, c, rfl, hc, hm⟩ := hv.shape
  obtain ⟨ti, hi, hz, hs, hby⟩ := infoE'
  clear hv
  obtain ⟨NL, hNL⟩ : ∃ NL, es.length = NL := ⟨_, rfl⟩
  have HNL := Lib.hid hNL
  rw [hNL] at HV hc hl ⊢
  clear hNL
  cases A with
  | none =>
    obtain rfl : es = [] := HV.out.none_nil
    obtain rfl : NL = 0 := HNL.out.symm
    have he : (binOp .eql 22 (.slice none 0 c) (.slice none 0 0)).run Try.prog w = .ok (.bool true) w := Lib.run_eql_slice_nil w _ _ none 0 c 0 0 Try.underlying22
    go_enter Try.func35, Try.ntmps35
    go_wp2
    go_ret
    exact ⟨none, 0, rfl, OwnE.nil _ _, Below.refl _ _⟩
  | some ad =>
    have b1 := Lib.hid ((Below.refl w.heap.size w).alloc (Nat.le_refl _) (.cells #[] 32))
    have O1 := Lib.hid (OwnE.made w w.heap.size (Nat.le_refl _) w.heap.size rfl)
    have V1 := HV.out.after b1.out
    obtain ⟨RB, hRB⟩ : ∃ RB, Row (w.alloc (.cells #[] 32)) RB (some ad) (erows es) := by
      obtain ⟨_, _, e1, _, _, h4⟩ := V1
      cases e1
      exact ⟨_, h4⟩
    have ROW := Lib.hid hRB
    have he : (binOp .eql 22 (.slice (some ad) NL c) (.slice none 0 0)).run Try.prog w = .ok (.bool false) w := Lib.run_eql_slice_nil w _ _ (some ad) NL c 0 0 Try.underlying22
    clear hRB V1
    go_enter Try.func35, Try.ntmps35
    go_wp2_with (at_builtin; (refine wpl_append_ents hi hz rfl hs hby rfl (.tmp 5) (.tmp 6) rfl rfl rfl O1.out (some ad) NL c es HNL.out rfl RB ROW.out (by simp only [List.length_nil]; omega) b1.out.size NL (by simp) ?_); intro A4 c4 w4 O4 g4; rw [List.nil_append] at O4; have Q4 := Lib.hid O4; have T4 := Lib.hid (b1.out.grown g4 b1.out.size fun q e => (World.ownsRow.lt O1.out q e).1); clear O4 g4)
    go_ret
    exact ⟨A4, c4, rfl, Q4.out, T4.out⟩
end Go.Proofs.Ytkpojlnfagonbaa

