/- The contract of the reference's wipe: the first pages of a block are blank. No condition but that the block is there. -/
import Derived.Test.YtjdegfblacbkoaaNandWrite
namespace Go.Proofs.Ytjdegfblacbkoaa
open Go.RowKit
set_option maxRecDepth 100000 in
set_option maxHeartbeats 2000000 in
theorem refWipe1 (c g : Nat) (cs : List Value) (Ls : List (List UInt8)) (N : Nat) (hN : Ls.length = N) (hN2 : N ≤ 320) (hcs : cs[1]? = some (.slice (some ⟨g, 0, none⟩) N N)) (hcg : c ≠ g) (b : Nat) (hb : 8 * b + 8 ≤ Ls.length) (hA : ∀ l ∈ Ls, l.length = 258) (n : Int) (w : World) (hB : Blk w c 53 cs) (hP : Pgs w g Ls) :
    Calls Try.prog 26 #[.pointer (some ⟨c, 0, none⟩), .int .i64 b, .int .i64 n] w fun e w' => e = .returned (.tuple #[]) ∧ Pgs w' g (NM.blanks b (NM.clip8 n) Ls) ∧ w.grownBy w' (some g) := by
  have hW : IntKind.i64.wrap (8 * (b : Int)) = 8 * (b : Int) := by rw [IntKind.wrap_i64]; omega
  go_enter Try.func26, Try.ntmps26
  go_wp2
  go_loopw [6] (fun i wr => ∃ k : Nat, k ≤ 8 ∧ (k : Int) ≤ max n 0 ∧ i = .int .i64 k ∧ Blk wr c 53 cs ∧ Pgs wr g (NM.blanks b k Ls) ∧ w.grownBy wr (some g)) (fun i _ => 8 - (intOf i).toNat)
  case atStart => exact ⟨0, by omega, by omega, rfl, hB, by rw [NM.blanks_zero]; exact hP, World.grownBy.refl w _⟩
  case round =>
    obtain ⟨k, hk, hkn, rfl, hB1, hP1, hG1⟩ := hrel
    have HB := Lib.hid hB1
    have HP := Lib.hid hP1
    have HG := Lib.hid hG1
    clear hB1 hP1 hG1 hB hP
    by_cases hlt : k < 8 ∧ (k : Int) < n
    · obtain ⟨hl1, hl2⟩ := hlt
      have d1 : decide ((k : Int) < 8) = true := by simp; omega
      have d2 : decide ((k : Int) < n) = true := by simp; omega
      have hA1 := NM.blanks_all (b := b) (k := k) hA
      obtain ⟨Ms, hMs⟩ : ∃ Ms, Ms = NM.blanks b k Ls := ⟨_, rfl⟩
      have hML : Ms.length = N := by rw [hMs, NM.blanks_length, hN]
      have hnx : Ms.set (8 * b + k) NM.ff = NM.blanks b (k + 1) Ls := by rw [hMs]; exact NM.blanks_step (by omega)
      obtain ⟨q, hqe⟩ : ∃ q, q = 8 * b + k := ⟨_, rfl⟩
      rw [← hqe] at hnx
      have hq : q < Ms.length := by omega
      have hMq : Ms[q].length = 258 := by rw [← hMs] at hA1; exact hA1 _ (List.getElem_mem hq)
      have HMQ := Lib.hid hMq
      have i1 : (8 * (b : Int) + (k : Int)).toNat = q := by omega
      have i2 : (0 : Int) ≤ 8 * (b : Int) + (k : Int) := by omega
      have i3 : 8 * (b : Int) + (k : Int) < (N : Int) := by omega
      rw [← hMs] at HP hA1
      have HN := Lib.hid hnx
      have HA := Lib.hid hA1
      clear hMs hnx hA1 hMq hqe
      have hW2 : IntKind.i64.wrap (8 * (b : Int) + (k : Int)) = 8 * (b : Int) + (k : Int) := by rw [IntKind.wrap_i64]; omega
      go_wp2_with fail
      go_loopw [7] (fun i wr => ∃ j : Nat, j ≤ 258 ∧ i = .int .i64 j ∧ Blk wr c 53 cs ∧ Pgs wr g (Ms.set q (NM.wip j Ms[q])) ∧ w.grownBy wr (some g)) (fun i _ => 258 - (intOf i).toNat)
      case atStart => exact ⟨0, by omega, rfl, HB.out, by rw [NM.wip_zero, List.set_getElem_self]; exact HP.out, HG.out⟩
      case round =>
        obtain ⟨j, hj, rfl, hB2, hP2, hG2⟩ := hrel
        have HB2 := Lib.hid hB2
        have HP2 := Lib.hid hP2
        have HG2 := Lib.hid hG2
        clear hB2 hP2 hG2 HB HP HG
        by_cases hlt : j < 258
        · have e1 : wr.cell? ⟨c, 1, none⟩ = some (.slice (some ⟨g, 0, none⟩) N N) := (HB2.out.cell 1).trans hcs
          obtain ⟨x, hx⟩ : ∃ x, x = (NM.wip j Ms[q])[j]'(by rw [NM.wip_length, HMQ.out]; omega) := ⟨_, rfl⟩
          have e3 : wr.cell? ⟨g, q * 258 + j, none⟩ = some (.int .u8 ((x.toNat : Nat) : Int)) := by
            rw [HP2.out.1.cell, bv, List.getElem?_map, NM.flat_get (n := 258) _ HP2.out.2 q (by simpa using hq) j hlt, List.getElem_set_self, List.getElem?_eq_getElem (by rw [NM.wip_length, HMQ.out]; omega), hx]
            rfl
          have e4 : wr.frozen? ⟨g, q * 258 + j, none⟩ = false := HP2.out.1.free _
          clear hx
          go_wp2_with fail
          refine ⟨⟨j + 1, by omega, by go_num, HB2.out.other _ _ hcg, ⟨?_, NM.set_all HA.out q (by rw [NM.wip_length, HMQ.out])⟩, HG2.out.trans ⟨rfl, rfl, rfl, by simp, fun i _ hi => Below.heap_setCell wr _ _ i (by simpa using hi)⟩⟩, by simp [intOf]; omega⟩
          have hs := HP2.out.1.set (q * 258 + j) (.int .u8 255)
          have hg := NM.flat_set (n := 258) _ HP2.out.2 q (by simpa using hq) j (255 : UInt8) hlt
          rw [List.getElem_set_self, List.set_set, NM.wip_step (by rw [HMQ.out]; omega)] at hg
          rw [← hg]
          have hb : bv ((Ms.set q (NM.wip j Ms[q])).flatten.set (q * 258 + j) (255 : UInt8)) = (bv (Ms.set q (NM.wip j Ms[q])).flatten).set (q * 258 + j) (.int .u8 255) := by
            unfold bv
            rw [List.map_set]
            rfl
          rw [hb]
          exact hs
        · obtain rfl : j = 258 := by omega
          rw [NM.wip_ff HMQ.out, HN.out] at HP2
          have dj : decide (((258 : Nat) : Int) < 258) = false := by decide
          go_wp2_with fail
          exact ⟨⟨k + 1, by omega, by omega, by go_num, HB2.out, HP2.out, HG2.out⟩, by simp [intOf]; omega⟩
    · have hend : k = NM.clip8 n := by unfold NM.clip8; omega
      have HE := Lib.hid hend
      clear hend
      by_cases h1 : k < 8
      · have d1 : decide ((k : Int) < 8) = true := by simp; omega
        have d2 : decide ((k : Int) < n) = false := by simp; omega
        go_wp2
        go_end0
        exact ⟨rfl, by rw [← HE.out]; exact HP.out, HG.out⟩
      · have d1 : decide ((k : Int) < 8) = false := by simp; omega
        go_wp2
        go_end0
        exact ⟨rfl, by rw [← HE.out]; exact HP.out, HG.out⟩
end Go.Proofs.Ytjdegfblacbkoaa
