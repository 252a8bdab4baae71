/- The contracts of node's Write: a node's bytes. No condition but that the body is there. -/
import Derived.Test.YtppodbijdhcclaaQCore
import Derived.Deep.RegionHeld3
import Derived.Deep.QuietTactic
import Derived.BigQuiet
namespace Go.Proofs.Ytppodbijdhcclaa
open Go.RowKit
/-- a node's bytes -/
def nb (k e : Nat) (l : List UInt8) : List UInt8 := numB 1 k ++ (numB 8 e ++ l)
theorem nb_length (k e : Nat) (l : List UInt8) : (nb k e l).length = 9 + l.length := by
  simp only [nb, List.length_append, numB_length]; omega
theorem isKey_yes (k : Nat) (hk : k < 256) (w : World) : Calls Try.prog 66 #[.int .i64 (k : Int)] w fun e w' => e = .returned (.bool true) ∧ w = w' := by
  have h1 : (0 : Int) ≤ (k : Int) := by omega
  have h2 : (k : Int) < 256 := by omega
  go_enter Try.func66, Try.ntmps66
  go_wp2
  go_ret
  exact ⟨rfl, rfl⟩
theorem isKey_no (k : Int) (hk : k < 0 ∨ 255 < k) (w : World) : Calls Try.prog 66 #[.int .i64 k] w fun e w' => e = .returned (.bool false) ∧ w = w' := by
  rcases hk with hk | hk
  · have h1 : ¬ 0 ≤ k := by omega
    go_enter Try.func66, Try.ntmps66
    go_wp2
    go_ret
    exact ⟨rfl, rfl⟩
  · have h1 : 0 ≤ k := by omega
    have h2 : ¬ k < 256 := by omega
    go_enter Try.func66, Try.ntmps66
    go_wp2
    go_ret
    exact ⟨rfl, rfl⟩
def nodeA (k : Int) (e : Nat) (v : Value) : Array Value := #[.int .i64 k, .int .u64 (e : Int), v]
set_option maxHeartbeats 2000000 in
theorem nwrite_yes (k e : Nat) (v : Value) (l : List UInt8) (w : World) (hk : k < 256) (hv : Bytes w w.heap.size v l) (hl : l.length ≤ 224) :
    Calls Try.prog 63 #[.agg #[.int .i64 (k : Int), .int .u64 (e : Int), v]] w fun x w' => ∃ g c, x = .returned (.tuple #[.slice (some ⟨g, 0, none⟩) (9 + l.length) c, .int .i64 0]) ∧ Own 5 w' w.heap.size (.slice (some ⟨g, 0, none⟩) (9 + l.length) c) (nb k e l) ∧ Below w.heap.size w w' := by
  obtain ⟨A, c, rfl, hc, hm, hr⟩ := id hv
  have HV := Lib.hid hv
  clear hv hr
  have b1 := Lib.hid ((Below.refl w.heap.size w).alloc (Nat.le_refl _) (.cells #[.int .i64 (k : Int), .int .u64 (e : Int), .slice A l.length c] 121))
  have B1 : Blk (w.alloc (.cells #[.int .i64 (k : Int), .int .u64 (e : Int), .slice A l.length c] 121)) w.heap.size 121 [.int .i64 (k : Int), .int .u64 (e : Int), .slice A l.length c] := heap_alloc_new w _
  have hgW0 := Lib.hid B1.lt
  have c0 := B1.cell 0
  have c1 := B1.cell 1
  have c2 := B1.cell 2
  simp only [List.getElem?_cons_zero, List.getElem?_cons_succ] at c0 c1 c2
  have hfl : Hid ([numB 1 k, numB 8 e, l].flatten = nb k e l) := Lib.hid (by simp [nb])
  have HV1 := Lib.hid ((HV.out.below b1.out).more b1.out.size)
  have d1 : decide ((224 : Int) < (l.length : Int)) = false := by simp; omega
  have k1' : ∀ w : World, Calls Try.prog 81 #[.int .i64 1, .int .u64 (IntKind.u64.wrap (k : Int))] w fun e w' => ∃ A c, e = .returned (.slice A 1 c) ∧ Own 5 w' w.heap.size (.slice A 1 c) (numB 1 k) ∧ Below w.heap.size w w' := fun w => by
    rw [show IntKind.u64.wrap (k : Int) = (k : Int) by rw [IntKind.wrap_u64]; omega]
    exact num_any 1 k w
  have k2 : ∀ w : World, Calls Try.prog 81 #[.int .i64 8, .int .u64 (e : Int)] w fun x w' => ∃ A c, x = .returned (.slice A 8 c) ∧ Own 5 w' w.heap.size (.slice A 8 c) (numB 8 e) ∧ Below w.heap.size w w' := fun w => num_any 8 e w
  obtain ⟨g, hg⟩ : ∃ g, g = w.heap.size := ⟨_, rfl⟩
  rw [← hg] at c0 c1 c2 hgW0
  clear B1
  go_enter Try.func63, Try.ntmps63
  go_wp2_with ((with_reducible refine (isKey_yes k hk _).mono ?_); rintro e w' ⟨rfl, rfl⟩)
  rw [← hg]
  clear hg
  obtain ⟨W, hW⟩ : ∃ W, W = w.alloc (.cells #[.int .i64 (k : Int), .int .u64 (e : Int), .slice A l.length c] 121) := ⟨_, rfl⟩
  rw [← hW] at b1 c0 c1 c2 HV1 hgW0 ⊢
  clear hW
  have KS : Hid (∀ w', Below W.heap.size W w' → w'.cell? ⟨g, 0, none⟩ = some (.int .i64 (k : Int)) ∧ w'.cell? ⟨g, 1, none⟩ = some (.int .u64 (e : Int)) ∧ w'.cell? ⟨g, 2, none⟩ = some (.slice A l.length c)) := Lib.hid fun w' h => ⟨(h.cell (p := ⟨g, 0, none⟩) hgW0.out).trans c0, (h.cell (p := ⟨g, 1, none⟩) hgW0.out).trans c1, (h.cell (p := ⟨g, 2, none⟩) hgW0.out).trans c2⟩
  have T1 := Lib.hid (Below.refl W.heap.size W).drew
  go_region_held3 (fun w' => w'.cell? ⟨g, 0, none⟩ = some (.int .i64 (k : Int)) ∧ w'.cell? ⟨g, 1, none⟩ = some (.int .u64 (e : Int)) ∧ w'.cell? ⟨g, 2, none⟩ = some (.slice A l.length c))
    (first | go_keep | (exact KS.out _ T4.out) | (exact KS.out _ T3.out) | (exact KS.out _ T2.out) | (exact KS.out _ T1.out))
    (first
      | (go_at_call 81; (with_reducible refine (k1' _).mono ?_); rintro x w2 ⟨A1, n1, rfl, O1, h1⟩; have P1 := Lib.hid (O1.bytes (by rw [numB_length]; simp [maxLen])); have T2 := Lib.hid (T1.out.trans (h1.mono T1.out.size)); clear O1 h1)
      | (go_at_call 81; (with_reducible refine (k2 _).mono ?_); rintro x w3 ⟨A2, n2, rfl, O2, h2⟩; have P2 := Lib.hid (O2.bytes (by rw [numB_length]; simp [maxLen])); have P1b := Lib.hid ((P1.out.below h2).more h2.size); have T3 := Lib.hid (T2.out.trans (h2.mono T2.out.size)); have V3 := Lib.hid ((HV1.out.below T3.out).more T3.out.size); clear O2 h2)
      | (go_at_call 80; revert P2 P1b T3 V3; intro P2 P1b T3 V3; (refine (join_any _ [numB 1 k, numB 8 e, l] _ (w3.heap.size + 1) (by simp) (Parts.new (Each.cons P1b.out (Each.cons P2.out (Each.cons V3.out Each.nil))) (Nat.le_refl _) (by simp [maxLen]) 3 rfl _ rfl _ (Nat.lt_succ_self _) _ _ rfl) (by rw [hfl.out, nb_length]; omega)).mono ?_); rintro x w4 ⟨g4, c4, rfl, hg4, O4, h4⟩; rw [hfl.out] at O4; have T4 := Lib.hid ((T3.out.alloc T3.out.size _).trans (h4.mono (T3.out.alloc T3.out.size _).size)); have O5 := Lib.hid (O4.lower (Nat.le_trans b1.out.size (T3.out.alloc T3.out.size _).size)); clear O4 h4 hg4))
  rw [nb_length] at O5
  rw [show (numB 1 k).length + ((numB 8 e).length + l.length) = 9 + l.length by rw [numB_length, numB_length]; omega]
  go_wp2
  go_ret2
  exact ⟨_, _, rfl, O5.out, b1.out.trans (T4.out.mono b1.out.size)⟩
theorem nwrite_no (k : Int) (e : Nat) (v : Value) (l : List UInt8) (w : World) (hv : Bytes w w.heap.size v l) (h : (k < 0 ∨ 255 < k) ∨ 224 < l.length) :
    Calls Try.prog 63 #[.agg #[.int .i64 k, .int .u64 (e : Int), v]] w fun x w' => x = .returned (.tuple #[.slice none 0 0, .int .i64 1]) ∧ Below w.heap.size w w' := by
  obtain ⟨A, c, rfl, hc, hm, hr⟩ := hv
  unfold maxLen at hm
  have b1 := Lib.hid ((Below.refl w.heap.size w).alloc (Nat.le_refl _) (.cells #[.int .i64 k, .int .u64 (e : Int), .slice A l.length c] 121))
  clear hr
  by_cases hk : k < 0 ∨ 255 < k
  · go_enter Try.func63, Try.ntmps63
    go_wp2_with ((with_reducible refine (isKey_no k hk _).mono ?_); rintro e w' ⟨rfl, rfl⟩)
    go_ret2
    exact ⟨rfl, b1.out⟩
  · have hl : 224 < l.length := by omega
    have d1 : decide ((224 : Int) < (l.length : Int)) = true := by simp; omega
    obtain ⟨n, rfl⟩ : ∃ n : Nat, k = n := ⟨k.toNat, by omega⟩
    have hn : n < 256 := by omega
    go_enter Try.func63, Try.ntmps63
    go_wp2_with ((with_reducible refine (isKey_yes n hn _).mono ?_); rintro e w' ⟨rfl, rfl⟩)
    go_ret2
    exact ⟨rfl, b1.out⟩
end Go.Proofs.Ytppodbijdhcclaa

