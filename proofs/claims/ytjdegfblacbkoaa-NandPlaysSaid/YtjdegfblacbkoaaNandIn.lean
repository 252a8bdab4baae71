/- The contract of the reference's 'in': is the number one of the row? No condition. -/
import Derived.Test.YtjdegfblacbkoaaNandPower
import Derived.Test.YtjdegfblacbkoaaOpen
namespace Go.Proofs.Ytjdegfblacbkoaa
open Go.RowKit
set_option maxHeartbeats 1000000 in
theorem refIn_any (v : Value) (zs : List Int) (n : Int) (w : World) (B : Nat) (hv : Nums w B .i64 v zs) :
    Calls Try.prog 47 #[v, .int .i64 n] w fun e w' => e = .returned (.bool (decide (n ∈ zs))) ∧ w = w' := by
  obtain ⟨A, c, rfl, hl, hc, hr, _⟩ := hv
  unfold maxLen at hc
  have HR := Lib.hid hr
  clear hr
  go_enter Try.func47, Try.ntmps47
  go_wp2
  go_loop [5] (fun i => ∃ k : Nat, k ≤ zs.length ∧ i = .int .i64 k ∧ ∀ j, j < k → zs[j]? ≠ some n) (fun i => zs.length - (intOf i).toNat)
  case atStart => exact ⟨0, Nat.zero_le _, rfl, fun j h => by omega⟩
  case round =>
    obtain ⟨k, hk, rfl, hno⟩ := hrel
    have HNO := Lib.hid hno
    clear hno
    by_cases hlt : k < zs.length
    · obtain ⟨a, rfl, _, hcell⟩ := HR.out k (.int .i64 zs[k]) (by rw [List.getElem?_map, List.getElem?_eq_getElem hlt]; rfl)
      obtain ⟨z, hz⟩ : ∃ z, z = zs[k] := ⟨_, rfl⟩
      rw [← hz] at hcell
      have HZ := Lib.hid hz
      clear hz
      by_cases he : z = n
      · subst he
        go_wp2
        (try simp only [Exit.inBlock, Exit.then])
        go_ret
        refine ⟨?_, rfl⟩
        rw [show decide (z ∈ zs) = true from decide_eq_true (HZ.out ▸ List.getElem_mem _)]
        rfl
      · have hd : (z == n) = false := by simp [he]
        go_wp2
        go_round
        case rel =>
          refine ⟨k + 1, by omega, by go_num, fun j hj => ?_⟩
          by_cases e : j = k
          · subst e
            rw [List.getElem?_eq_getElem hlt, ← HZ.out]
            simp [he]
          · exact HNO.out j (by omega)
        case measure => simp [intOf]; omega
    · obtain rfl : k = zs.length := by omega
      go_wp2
      go_ret
      refine ⟨?_, rfl⟩
      have : decide (n ∈ zs) = false := by
        refine decide_eq_false fun h => ?_
        obtain ⟨j, hj, e⟩ := List.getElem_of_mem h
        exact HNO.out j hj (by rw [List.getElem?_eq_getElem hj, e])
      rw [this]
      rfl
end Go.Proofs.Ytjdegfblacbkoaa
