/- Layer 22: the start of each handle law. No condition. -/
import Derived.Test.YthiembokmhbiaaaQHandRef
namespace Go.Proofs.Ythiembokmhbiaaa
open Go.RowKit
theorem sp_open {S S' : List (Bool × Int)} {n : Int} {k : Nat} {z : Int} (hk : fstS S = k) (h6 : k < 6) (hz : z = k + 1) (hS : S.set k (true, n) = S') (g : Nat) (w : World) (H : HT w g S) :
    Calls Try.prog 10 #[.pointer (some ⟨g, 0, none⟩), .int .i64 n] w fun e w' => e = .returned (.tuple #[.int .i64 z, .int .i64 0]) ∧ HT w' g S' ∧ w.grownBy w' (some g) := by
  refine (open_any g S n w H).mono ?_
  rintro e w' ⟨rfl, h1, h2⟩
  rw [hk] at h1 ⊢
  rw [hS] at h1
  exact ⟨by unfold openA; rw [if_pos h6, hz], h1, h2⟩
set_option maxHeartbeats 4000000 in
theorem handspeaks_any (w : World) : Calls Try.prog 6 #[] w fun e w' => e = .returned (.bool true) ∧ Below w.heap.size w w' := by
  have o1 := fun g w H => sp_open (S := hS0) (n := 9) (k := 0) (z := 1) (by rfl) (by decide) rfl rfl g w H
  have o2 := fun g w H => sp_open (S := hS0.set 0 (true, 9)) (n := 9) (k := 1) (z := 2) (by rfl) (by decide) rfl rfl g w H
  have cl := fun g w H => close_any g ((hS0.set 0 (true, 9)).set 1 (true, 9)) 1 w H
  have o3 := fun g w H => sp_open (S := ((hS0.set 0 (true, 9)).set 1 (true, 9)).set 0 (false, 0)) (n := 7) (k := 0) (z := 1) (by rfl) (by decide) rfl rfl g w H
  simp only [show (slotOf ((hS0.set 0 (true, 9)).set 1 (true, 9)) 1).1 = true from rfl, if_true] at cl
  simp only [show ((1 : Int) - 1).toNat = 0 from rfl] at cl
  have O1 := Lib.hid o1
  have O2 := Lib.hid o2
  have O3 := Lib.hid o3
  have CL := Lib.hid cl
  clear o1 o2 o3 cl
  go_enter Try.func6, Try.ntmps6
  go_wp2_with (first | ((with_reducible refine (new_any _).mono ?_); rintro e w1 ⟨g, rfl, hg, H1, b1⟩) | ((with_reducible refine (O1.out _ _ H1).mono ?_); rintro e w2 ⟨rfl, H2, g2⟩) | ((with_reducible refine (O2.out _ _ H2).mono ?_); rintro e w3 ⟨rfl, H3, g3⟩) | ((with_reducible refine (CL.out _ _ H3).mono ?_); rintro e w4 ⟨rfl, H4, g4⟩) | ((with_reducible refine (O3.out _ _ H4).mono ?_); rintro e w5 ⟨rfl, H5, g5⟩))
  go_ret
  exact ⟨rfl, b1.grown (((g2.trans g3).trans g4).trans g5) b1.size (fun k e => by cases e; omega)⟩
end Go.Proofs.Ythiembokmhbiaaa

