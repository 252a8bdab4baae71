/- Layer 12: what the calls of package view, and of the document's, answer. No condition. -/
import Derived.Test.YticigjkaangkmaaQViewM
import Derived.Test.YticigjkaangkmaaQWearA
import Derived.Deep.QuietTactic
import Derived.BigQuiet
namespace Go.Proofs.Yticigjkaangkmaa
open Go Go.RowKit
theorem aggV : ∀ w, (isAgg 24).run Try.prog w = .ok true w := fun _ => by kernel_rfl
theorem sizeV : ∀ w, (sizeOf 24).run Try.prog w = .ok 3 w := fun _ => by kernel_rfl
theorem isChip_any (c : Int) (w : World) : Calls Try.prog 26 #[.int .i64 c] w fun e w' => e = .returned (.bool (decide (c = 0) || decide (c = 1))) ∧ w = w' := by
  by_cases h0 : c = 0
  · subst h0
    go_enter Try.func26, Try.ntmps26
    go_wp2
    go_ret
    exact ⟨rfl, rfl⟩
  · by_cases h1 : c = 1
    · subst h1
      go_enter Try.func26, Try.ntmps26
      go_wp2
      go_ret
      exact ⟨rfl, rfl⟩
    · have e0 : (c == 0) = false := by simpa using h0
      have e1 : (c == 1) = false := by simpa using h1
      go_enter Try.func26, Try.ntmps26
      go_wp2
      go_ret
      exact ⟨by simp [h0, h1], rfl⟩
theorem drewN_keep {B : Nat} {w w' : World} (h : Below B w w') (k : Nat) : Below B w (w'.drewN k) := ⟨h.os, h.tape, h.output, h.size, h.block⟩
theorem alone_zero (w : World) : Calls Try.prog 25 #[.int .i64 0] w fun e w' => e = .returned (.int .i64 1) ∧ w = w' := by
  go_enter Try.func25, Try.ntmps25
  go_wp2
  go_ret
  exact ⟨rfl, rfl⟩
theorem alone_one (w : World) : Calls Try.prog 25 #[.int .i64 1] w fun e w' => e = .returned (.int .i64 2) ∧ w = w' := by
  go_enter Try.func25, Try.ntmps25
  go_wp2
  go_ret
  exact ⟨rfl, rfl⟩
set_option maxRecDepth 100000 in
theorem right_any (v : VV) (w : World) : Calls Try.prog 27 #[.agg #[.int .u64 (v.n : Int), .int .i64 v.m, .int .u64 (v.b : Int)]] w fun e w' => e = .returned (.bool v.right) ∧ Below w.heap.size w w' := by
  have k0 : ∀ (w : World) k, Calls Try.prog 25 #[.int .i64 0] (w.drewN k) fun e w' => e = .returned (.int .i64 1) ∧ w' = w.drewN k := fun w k => (alone_zero _).mono (fun _ _ h => ⟨h.1, h.2.symm⟩)
  have hR : Hid (v.right = (decide ((1 : Int) ≤ (v.n : Int)) && decide ((v.n : Int) ≤ 9223372036854775808) && decide (1 ≤ v.m) && decide (v.m ≤ 3))) := Lib.hid (by
    unfold VV.right
    rw [Bool.eq_iff_iff]
    simp only [decide_eq_true_eq, Bool.and_eq_true]
    omega)
  have b1 := Lib.hid ((Below.refl w.heap.size w).alloc (Nat.le_refl _) (.cells #[.int .u64 (v.n : Int), .int .i64 v.m, .int .u64 (v.b : Int)] 24))
  have B1 := Lib.hid (show Blk (w.alloc (.cells #[.int .u64 (v.n : Int), .int .i64 v.m, .int .u64 (v.b : Int)] 24)) w.heap.size 24 (vrow v) from heap_alloc_new w _)
  go_enter Try.func27, Try.ntmps27
  go_wp2
  obtain ⟨W, hW⟩ : ∃ W, W = w.alloc (.cells #[.int .u64 (v.n : Int), .int .i64 v.m, .int .u64 (v.b : Int)] 24) := ⟨_, rfl⟩
  rw [← hW] at b1 B1 ⊢
  clear hW
  obtain ⟨g, hg⟩ : ∃ g, g = w.heap.size := ⟨_, rfl⟩
  rw [← hg] at B1 ⊢
  clear hg
  have x0 := B1.out.cell 0
  have x1 := B1.out.cell 1
  simp only [vrow, List.getElem?_cons_zero, List.getElem?_cons_succ] at x0 x1
  obtain ⟨n, hn⟩ : ∃ n, v.n = n := ⟨_, rfl⟩
  obtain ⟨m, hm⟩ : ∃ m, v.m = m := ⟨_, rfl⟩
  rw [hn] at x0 hR
  rw [hm] at x1 hR
  rw [hn, hm]
  by_cases h1 : (1 : Int) ≤ (n : Int)
  · have d1 : decide ((1 : Int) ≤ (n : Int)) = true := decide_eq_true h1
    by_cases h2 : (n : Int) ≤ 9223372036854775808
    · have d2 : decide ((n : Int) ≤ 9223372036854775808) = true := decide_eq_true h2
      by_cases h3 : (1 : Int) ≤ m
      · have d3 : decide ((1 : Int) ≤ m) = true := decide_eq_true h3
        go_quiet (first | (go_at_call 25; exact Calls.quiet_of_same (k0 _ _)))
        go_wp2
        go_ret
        exact ⟨by rw [hR.out]; simp [d1, d2, d3], drewN_keep b1.out _⟩
      · have d3 : decide ((1 : Int) ≤ m) = false := decide_eq_false h3
        go_quiet (first | (go_at_call 25; exact Calls.quiet_of_same (k0 _ _)))
        go_wp2
        go_ret
        exact ⟨by rw [hR.out]; simp [d1, d2, d3], drewN_keep b1.out _⟩
    · have d2 : decide ((n : Int) ≤ 9223372036854775808) = false := decide_eq_false h2
      go_quiet (first | (go_at_call 25; exact Calls.quiet_of_same (k0 _ _)))
      go_wp2
      go_ret
      exact ⟨by rw [hR.out]; simp [d1, d2], drewN_keep b1.out _⟩
  · have d1 : decide ((1 : Int) ≤ (n : Int)) = false := decide_eq_false h1
    go_quiet (first | (go_at_call 25; exact Calls.quiet_of_same (k0 _ _)))
    go_wp2
    go_ret
    exact ⟨by rw [hR.out]; simp [d1], drewN_keep b1.out _⟩
theorem int0 (c : Int) (h : c ≠ 0) : (c == 0) = false := by simpa using h
set_option maxRecDepth 100000 in
set_option maxHeartbeats 4000000 in
theorem hasC_any (v : VV) (A : Option Addr) (cs : List Int) (c : Nat) (w : World) (B : Nat) (hB : B ≤ w.heap.size) (hr : Row w B A (cs.map (Value.int .i64))) (hl : cs.length ≤ 1000) :
    Calls Try.prog 14 #[.agg #[.int .u64 (v.n : Int), .int .i64 v.m, .int .u64 (v.b : Int)], .slice A cs.length c] w fun e w' => e = .returned (.bool (cs.all v.has)) ∧ Below w.heap.size w w' := by
  have b1 := Lib.hid ((Below.refl w.heap.size w).alloc (Nat.le_refl _) (.cells #[.int .u64 (v.n : Int), .int .i64 v.m, .int .u64 (v.b : Int)] 24))
  have B1 := Lib.hid (show Blk (w.alloc (.cells #[.int .u64 (v.n : Int), .int .i64 v.m, .int .u64 (v.b : Int)] 24)) w.heap.size 24 (vrow v) from heap_alloc_new w _)
  have HR := Lib.hid (hr.alloc hB (.cells #[.int .u64 (v.n : Int), .int .i64 v.m, .int .u64 (v.b : Int)] 24))
  clear hr
  go_enter Try.func14, Try.ntmps14
  go_wp2
  obtain ⟨W, hW⟩ : ∃ W, W = w.alloc (.cells #[.int .u64 (v.n : Int), .int .i64 v.m, .int .u64 (v.b : Int)] 24) := ⟨_, rfl⟩
  rw [← hW] at b1 B1 HR ⊢
  clear hW
  obtain ⟨g, hg⟩ : ∃ g, g = w.heap.size := ⟨_, rfl⟩
  rw [← hg] at B1 ⊢
  clear hg
  have HH0 := Lib.hid (has_zero v)
  have HH1 := Lib.hid (has_one v)
  have HHe := Lib.hid (fun c h0 h1 => has_else v (c := c) h0 h1)
  obtain ⟨m, hm⟩ : ∃ m, v.m = m := ⟨_, rfl⟩
  have x1 := B1.out.cell 1
  simp only [vrow, List.getElem?_cons_zero, List.getElem?_cons_succ] at x1
  rw [hm] at HH0 HH1 x1
  have HX := Lib.hid (show ∀ w', Below W.heap.size W w' → w'.cell? ⟨g, 1, none⟩ = some (.int .i64 m) from fun w' h => (h.cell (p := ⟨g, 1, none⟩) B1.out.lt).trans x1)
  have HRB := Lib.hid (show ∀ w', Below W.heap.size W w' → Row w' B A (cs.map (Value.int .i64)) from fun w' h => HR.out.keep fun p hp => h.cell (Nat.lt_of_lt_of_le hp (Nat.le_trans hB b1.out.size)))
  have k1 : ∀ (w : World) k c, Calls Try.prog 26 #[.int .i64 c] (w.drewN k) fun e w' => e = .returned (.bool (decide (c = 0) || decide (c = 1))) ∧ w' = w.drewN k := fun w k c => (isChip_any c _).mono (fun _ _ h => ⟨h.1, h.2.symm⟩)
  have k2 : ∀ (w : World) k, Calls Try.prog 25 #[.int .i64 0] (w.drewN k) fun e w' => e = .returned (.int .i64 1) ∧ w' = w.drewN k := fun w k => (alone_zero _).mono (fun _ _ h => ⟨h.1, h.2.symm⟩)
  have k3 : ∀ (w : World) k, Calls Try.prog 25 #[.int .i64 1] (w.drewN k) fun e w' => e = .returned (.int .i64 2) ∧ w' = w.drewN k := fun w k => (alone_one _).mono (fun _ _ h => ⟨h.1, h.2.symm⟩)
  clear hm x1
  go_loopw [6, 9] (fun _ i wr => ∃ k : Nat, k ≤ cs.length ∧ i = .int .i64 k ∧ Hid (cs.all v.has = (cs.drop k).all v.has) ∧ Hid (Below W.heap.size W wr)) (fun _ i _ => cs.length - (intOf i).toNat)
  case atStart => exact ⟨0, Nat.zero_le _, rfl, Lib.hid rfl, Lib.hid (Below.refl _ _)⟩
  case round =>
    rename_i wr
    obtain ⟨k, hk, rfl, HA, hb⟩ := hrel
    by_cases hlt : k < cs.length
    · obtain ⟨a, rfl, _, hcell⟩ := (HRB.out wr hb.out).at_ (k := k) (by simpa using hlt)
      rw [List.getElem_map] at hcell
      have hd : cs.drop k = cs[k] :: cs.drop (k + 1) := List.drop_eq_getElem_cons hlt
      obtain ⟨z, hz⟩ : ∃ z, z = cs[k] := ⟨_, rfl⟩
      rw [← hz] at hcell hd
      have HD := Lib.hid hd
      have hx := HX.out wr hb.out
      clear hz hd
      by_cases h0 : z = 0
      · subst h0
        by_cases hq1 : m % 2 = 1
        · skip
          have hq : (bits .and .i64 m 1 == 0) = false := by rw [and_1]; simp; omega
          go_wp2_with fail
          go_quiet (first | (go_at_call 26; exact Calls.quiet_of_same (k1 _ _ _)) | (go_at_call 25; exact Calls.quiet_of_same (k2 _ _)))
          go_wp2
          go_roundw
          case rel => exact ⟨k + 1, by omega, by go_num, Lib.hid (by rw [HA.out, HD.out, List.all_cons, HH0.out, decide_eq_true hq1, Bool.true_and]), Lib.hid (drewN_keep hb.out _)⟩
          case measure => simp [intOf]; omega
        · skip
          have hq : (bits .and .i64 m 1 == 0) = true := by rw [and_1]; simp; omega
          go_wp2_with fail
          go_quiet (first | (go_at_call 26; exact Calls.quiet_of_same (k1 _ _ _)) | (go_at_call 25; exact Calls.quiet_of_same (k2 _ _)))
          go_wp2
          go_ret
          exact ⟨by rw [HA.out, HD.out, List.all_cons, HH0.out, decide_eq_false hq1, Bool.false_and]; rfl, drewN_keep (b1.out.trans (hb.out.mono b1.out.size)) _⟩
      · by_cases h1 : z = 1
        · subst h1
          by_cases hq1 : m / 2 % 2 = 1
          · skip
            have hq : (bits .and .i64 m 2 == 0) = false := by rw [and_2]; simp; omega
            go_wp2_with fail
            go_quiet (first | (go_at_call 26; exact Calls.quiet_of_same (k1 _ _ _)) | (go_at_call 25; exact Calls.quiet_of_same (k3 _ _)))
            go_wp2
            go_roundw
            case rel => exact ⟨k + 1, by omega, by go_num, Lib.hid (by rw [HA.out, HD.out, List.all_cons, HH1.out, decide_eq_true hq1, Bool.true_and]), Lib.hid (drewN_keep hb.out _)⟩
            case measure => simp [intOf]; omega
          · skip
            have hq : (bits .and .i64 m 2 == 0) = true := by rw [and_2]; simp; omega
            go_wp2_with fail
            go_quiet (first | (go_at_call 26; exact Calls.quiet_of_same (k1 _ _ _)) | (go_at_call 25; exact Calls.quiet_of_same (k3 _ _)))
            go_wp2
            go_ret
            exact ⟨by rw [HA.out, HD.out, List.all_cons, HH1.out, decide_eq_false hq1, Bool.false_and]; rfl, drewN_keep (b1.out.trans (hb.out.mono b1.out.size)) _⟩
        · have e0 : decide (z = 0) = false := decide_eq_false h0
          have e1 : decide (z = 1) = false := decide_eq_false h1
          go_wp2_with fail
          go_quiet (first | (go_at_call 26; exact Calls.quiet_of_same (k1 _ _ _)))
          go_wp2
          go_ret
          exact ⟨by rw [HA.out, HD.out, List.all_cons, HHe.out z h0 h1, Bool.false_and]; rfl, drewN_keep (b1.out.trans (hb.out.mono b1.out.size)) _⟩
    · obtain rfl : k = cs.length := by omega
      go_wp2
      go_ret
      exact ⟨by rw [HA.out, List.drop_length]; rfl, b1.out.trans (hb.out.mono b1.out.size)⟩
end Go.Proofs.Yticigjkaangkmaa

