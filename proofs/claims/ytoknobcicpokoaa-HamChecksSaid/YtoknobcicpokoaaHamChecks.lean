/- The walk of HamChecks: it answers true, and changes nothing that was there. No condition. -/
import Derived.Test.YtoknobcicpokoaaHamRef
import Derived.Test.YtoknobcicpokoaaHamEq
namespace Go.Proofs.Ytoknobcicpokoaa
open Go.RowKit
set_option maxRecDepth 100000 in
set_option maxHeartbeats 4000000 in
theorem checks_main (L : List UInt8) (hL : L.length = 256) (w : World) : Calls Try.prog 3 #[.agg (cl L)] w fun e w' => e = .returned (.bool true) ∧ Below w.heap.size w w' := by
  have A0 := Lib.hid (Arr.new w hL)
  go_enter Try.func3, Try.ntmps3
  go_wp2_with fail
  ((with_reducible refine (speaks_any _).mono ?_); rintro e w2 ⟨rfl, hb2⟩)
  have hb : Below w.heap.size w w2 := ((Below.refl _ _).alloc (Nat.le_refl _) _).trans (hb2.mono (by simp))
  have A2 := A0.out.after hb2
  have A2' : Arr w2.drew w.heap.size L := A2
  obtain ⟨c, hc⟩ : ∃ c, c = HM.ck L := ⟨_, rfl⟩
  have hc2 : c < 8192 := hc ▸ HM.ck_lt L
  have hw : IntKind.i64.wrap (c : Int) = (c : Int) := by rw [IntKind.wrap_i64]; omega
  have c1 := check_any L hL
  have c2 := refCheck_any L hL
  rw [← hc] at c1 c2
  have hb' := hb.drew
  clear hc hb2 A0 A2 hb
  go_wp2_with fail
  refine wp_region_held_drew (S := fun w' => Arr w' w.heap.size L) (by kernel_rfl) A2' (fun _ => ?_)
  refine wpAnyH_take (i := 0) (v := .agg (cl L)) rfl (by kernel_rfl) (by kernel_rfl) (by kernel_rfl) (fun _ _ _ h => h) (yields_load (.tmp 1) rfl rfl rfl (fun _ h => h)) A2' ?_
  refine wpAnyH_take (i := 3) (v := .agg (cl L)) rfl (by kernel_rfl) (by kernel_rfl) (by kernel_rfl) (fun _ _ _ h => h) (yields_load (.tmp 1) rfl rfl rfl (fun _ h => h)) A2' ?_
  refine wpAnyH_ready (rs := [1]) (by kernel_rfl) (by simp) (AllReadyH.cons rfl (fun K hK => ?_) AllReadyH.nil)
  go_simp
  ((with_reducible refine (c1 _).mono ?_); rintro e w3 ⟨rfl, hb3⟩)
  have A3 := A2'.after hb3
  have hb4 := hb'.trans (hb3.mono hb'.size)
  refine hK.out _ _ A3 (fun _ => ?_)
  clear hK K A2' hb3 hb'
  refine wpAnyH_take (i := 2) (v := .int .i64 (c : Int)) rfl (by kernel_rfl) (by kernel_rfl) (by kernel_rfl) (fun _ _ _ h => h) (Or.inl ⟨by rfl, fun w _ => by go_simp⟩) A3 ?_
  refine wpAnyH_ready (rs := [4]) (by kernel_rfl) (by simp) (AllReadyH.cons rfl (fun K hK => ?_) AllReadyH.nil)
  go_simp
  ((with_reducible refine (c2 _).mono ?_); rintro e w4 ⟨rfl, hb5⟩)
  have A4 := A3.after hb5
  have hb6 := hb4.trans (hb5.mono hb4.size)
  refine hK.out _ _ A4 (fun _ => ?_)
  clear hK K A3 hb5 hb4
  refine wpAnyH_ready (rs := [5]) (by kernel_rfl) (by simp) (AllReadyH.cons rfl (fun K hK => ?_) AllReadyH.nil)
  go_simp
  refine hK.out _ _ A4 (fun _ => ?_)
  clear hK K
  refine wpAnyH_ready (rs := [6]) (by kernel_rfl) (by simp) (AllReadyH.cons rfl (fun K hK => ?_) AllReadyH.nil)
  go_simp
  refine hK.out _ _ A4 (fun _ => ?_)
  clear hK K
  refine wpAnyH_done (by kernel_rfl) ?_ _
  go_wp2
  go_ret
  exact ⟨rfl, hb6⟩
theorem hamChecks_any (v : Value) (w : World) (h : ∃ L : List UInt8, v = .agg (cl L) ∧ L.length = 256) : Calls Try.prog 3 #[v] w fun e w' => e = .returned (.bool true) ∧ Below w.heap.size w w' := by
  obtain ⟨L, rfl, hL⟩ := h
  exact checks_main L hL w
end Go.Proofs.Ytoknobcicpokoaa
