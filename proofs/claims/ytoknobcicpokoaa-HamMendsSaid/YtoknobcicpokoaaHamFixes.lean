/- The walk of HamFixes: it answers true, and changes nothing that was there. No condition. -/
import Derived.Test.YtoknobcicpokoaaHamRefFix
import Derived.Test.YtoknobcicpokoaaHamEq
namespace Go.Proofs.Ytoknobcicpokoaa
open Go.RowKit
/-- a new variable that an array is stored into: what was there is kept -/
theorem kept_new {w w3 w4 : World} (hb : Below w.heap.size w w3) (g4 : (w3.alloc (.cells (cl HM.zeros) 23)).grownBy w4 (some w3.heap.size)) : Below w.heap.size w w4 :=
  (hb.alloc hb.size _).grown g4 (by rw [World.size_alloc]; have := hb.size; omega) (fun k e => by cases e; exact hb.size)
theorem Arr.kept_new {w3 w4 : World} {g : Nat} {L : List UInt8} (h : Arr w3 g L) (g4 : (w3.alloc (.cells (cl HM.zeros) 23)).grownBy w4 (some w3.heap.size)) : Arr w4 g L :=
  (h.alloc _).grown g4 (Nat.ne_of_lt h.lt)
theorem u16_of_wf {s : Int} (h : (Lit.int .u16 s).wf = true) : ∃ n : Nat, s = n ∧ n < 65536 := by
  simp only [Lit.wf, Bool.and_eq_true, IntKind.min, IntKind.max, IntKind.signed, IntKind.bits] at h
  simp at h
  exact ⟨s.toNat, by omega, by omega⟩
set_option maxRecDepth 100000 in
set_option maxHeartbeats 4000000 in
theorem fixes_main (L : List UInt8) (hL : L.length = 256) (c : Nat) (hc : c < 65536) (w : World) : Calls Try.prog 4 #[.agg (cl L), .int .u16 (c : Int)] w fun e w' => e = .returned (.bool true) ∧ Below w.heap.size w w' := by
  have A0 := Lib.hid (Arr.new w hL)
  have z := zeroData
  obtain ⟨D, hD⟩ : ∃ D, D = (HM.fixM L c).1 := ⟨_, rfl⟩
  obtain ⟨n, hn⟩ : ∃ n, n = (HM.fixM L c).2.1 := ⟨_, rfl⟩
  obtain ⟨e, he⟩ : ∃ e, e = (HM.fixM L c).2.2 := ⟨_, rfl⟩
  have hDL : D.length = 256 := hD ▸ HM.fixM_length L c hL
  have sm := HM.fixM_small L c
  have c1 := fix_any L hL c hc
  have c2 := refFix_any L hL c
  rw [← hD, ← hn, ← he] at c1 c2
  rw [← hn, ← he] at sm
  have heq : ∀ w, (Op.equalIn 10000 23 (.agg (cl D)) (.agg (cl D))).run Try.prog w = .ok true w := fun w => by
    rw [equalIn_cl hDL hDL]
    simp
  clear hD hn he
  go_enter Try.func4, Try.ntmps4
  go_wp2_with fail
  ((with_reducible refine (speaks_any _).mono ?_); rintro e w2 ⟨rfl, hb2⟩)
  have hb : Below w.heap.size w w2 := ((Below.refl _ _).alloc (Nat.le_refl _) _).trans (hb2.mono (by simp))
  have A2 := Lib.hid (A0.out.after hb2)
  clear A0 hb2
  go_wp2_with (with_reducible refine wpl_load (.tmp 2) rfl rfl A2.out rfl ?_)
  ((with_reducible refine (c1 _).mono ?_); rintro e w3 ⟨rfl, hb3⟩)
  have hb4 := hb.trans (hb3.mono hb.size)
  have A3 := Lib.hid (A2.out.after hb3)
  clear hb hb3 A2
  have d1 : ((n : Int) == (n : Int)) = true := by simp
  have d2 : ((e : Int) == (e : Int)) = true := by simp
  go_wp2_with (first | (with_reducible refine wpl_store (.tmp 5) (.tmp 17) rfl rfl (Arr.new w3 HM.zeros_length) rfl hDL rfl ?_; intro w4 R4 g4 e4) | (with_reducible refine wpl_load (.tmp 2) rfl rfl (A3.out.kept_new g4) rfl ?_))
  ((with_reducible refine (c2 _).mono ?_); rintro e w5 ⟨rfl, hb6⟩)
  have hb7 := kept_new hb4 g4
  have hb8 := hb7.trans (hb6.mono hb7.size)
  have R5 := Lib.hid (R4.after hb6)
  clear hb4 g4 e4 hb6 hb7 R4 A3
  go_wp2_with (first | (with_reducible refine wpl_store (.tmp 8) (.tmp 25) rfl rfl (Arr.new w5 HM.zeros_length) rfl hDL rfl ?_; intro w6 R6 g6 e6) | (with_reducible refine wpl_load (.tmp 5) rfl rfl (R5.out.kept_new g6) rfl ?_) | (with_reducible refine wpl_load (.tmp 8) rfl rfl R6 rfl ?_))
  go_ret
  exact ⟨rfl, kept_new hb8 g6⟩
theorem hamFixes_any (v : Value) (a : Int) (w : World) (h : ∃ L : List UInt8, v = .agg (cl L) ∧ L.length = 256) (h1 : (Lit.int .u16 a).wf = true) : Calls Try.prog 4 #[v, .int .u16 a] w fun e w' => e = .returned (.bool true) ∧ Below w.heap.size w w' := by
  obtain ⟨L, rfl, hL⟩ := h
  obtain ⟨n, rfl, hn⟩ := u16_of_wf h1
  exact fixes_main L hL n hn w
end Go.Proofs.Ytoknobcicpokoaa
