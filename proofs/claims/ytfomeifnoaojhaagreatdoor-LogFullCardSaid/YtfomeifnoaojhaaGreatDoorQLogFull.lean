/- The walk of LogFull: it answers true, and changes nothing that was there. Condition: the table of the check sum holds its sixteen numbers. -/
import Derived.Test.YtfomeifnoaojhaaGreatDoorQLogF
namespace Go.Proofs.YtfomeifnoaojhaaGreatDoor
open Go.RowKit
/-- the records of it -/
def fullF (i : Nat) : LRec := (60, [UInt8.ofNat i])
set_option maxRecDepth 100000 in
set_option maxHeartbeats 16000000 in
theorem logFull_no (n x : Int) (hn : n < 16 ∨ 40 < n) (w : World) (ht : Tab w) :
    Calls Tryz.prog 7 #[.int .i64 n, .int .i64 x] w fun e w' => e = .returned (.bool true) ∧ Below w.heap.size w w' := by
  have KS := Lib.hid (speaks8_any w ht)
  have KL := Lib.hid (fun W => laid8_no n hn W)
  by_cases c : n < 16
  · have d1 : decide (n < 16) = true := by simp [c]
    clear ht hn c
    go_enter Tryz.func7, Tryz.ntmps7
    go_wp2_with (go_at_call 9; ((with_reducible refine KS.out.mono ?_); rintro e w1 ⟨rfl, b1⟩; have B1 := Lib.hid b1; have K1 := Lib.hid (KL.out w1); clear KS b1))
    go_wp2_with (go_at_call 11; ((with_reducible refine K1.out.mono ?_); rintro e w2 ⟨rfl, b2⟩; have B2 := Lib.hid (B1.out.trans (b2.mono B1.out.size)); clear K1 b2))
    go_ret
    exact ⟨rfl, B2.out⟩
  · have c2 : 40 < n := by rcases hn with q | q; exact absurd q c; exact q
    have d1 : decide (n < 16) = false := by simp; omega
    have d2 : decide (40 < n) = true := by simp [c2]
    clear ht hn c c2
    go_enter Tryz.func7, Tryz.ntmps7
    go_wp2_with (go_at_call 9; ((with_reducible refine KS.out.mono ?_); rintro e w1 ⟨rfl, b1⟩; have B1 := Lib.hid b1; have K1 := Lib.hid (KL.out w1); clear KS b1))
    go_wp2_with (go_at_call 11; ((with_reducible refine K1.out.mono ?_); rintro e w2 ⟨rfl, b2⟩; have B2 := Lib.hid (B1.out.trans (b2.mono B1.out.size)); clear K1 b2))
    go_ret
    exact ⟨rfl, B2.out⟩
set_option maxRecDepth 100000 in
set_option maxHeartbeats 32000000 in
theorem logFull_yes (N : Nat) (x : Int) (hN : 16 ≤ N ∧ N ≤ 40) (w : World) (ht : Tab w) :
    Calls Tryz.prog 7 #[.int .i64 (N : Int), .int .i64 x] w fun e w' => e = .returned (.bool true) ∧ Below w.heap.size w w' := by
  have KS := Lib.hid (speaks8_any w ht)
  have KL := Lib.hid (fun (W : World) (hW : Below w.heap.size w W) => laid8_any N hN W (ht.below hW ht.lt))
  obtain ⟨M, hM⟩ : ∃ M, N - 6 = M := ⟨_, rfl⟩
  obtain ⟨A, hA⟩ : ∃ A, 6 * M = A := ⟨_, rfl⟩
  obtain ⟨y, hy, hyM⟩ := low8 x (m := M) (by omega)
  have hA6 : (6 : Int) * (M : Int) = (A : Int) := by omega
  have hMA : 10 ≤ M ∧ M ≤ 34 ∧ A ≤ 204 := by omega
  have HM := Lib.hid hM
  have HA := Lib.hid hA
  have HY := Lib.hid hyM
  have HN := Lib.hid hN
  clear ht hM hA hyM hN
  go_enter Tryz.func7, Tryz.ntmps7
  go_wp2_with (go_at_call 9; ((with_reducible refine KS.out.mono ?_); rintro e w1 ⟨rfl, b1⟩; have B1 := Lib.hid b1; have K1 := Lib.hid (KL.out w1 b1); clear KS KL b1))
  go_wp2_with (go_at_call 11; ((with_reducible refine K1.out.mono ?_); rintro e w2 ⟨g, h, d, t, a, X, rfl, hB⟩; have HL1 := Lib.hid (hB.log fullF); have HF := Lib.hid (show ∀ j, a.log t d g h j → w.heap.size ≤ j from fun j hj => Nat.le_trans B1.out.size (hB.far j hj)); have HB1 := Lib.hid (B1.out.trans (hB.below.mono B1.out.size)); have c0 := (hB.log fullF).lg.cells.1; have KD := Lib.hid (show Calls Tryz.prog 19 #[.pointer (some ⟨d, 0, none⟩)] w2 fun e w' => e = .returned (.int .i64 (M : Int)) ∧ w2 = w' from by have := (hB.log fullF).lg.dk.len; rwa [HM.out] at this); clear hB K1))
  go_wp2_with (go_at_call 19; ((with_reducible refine KD.out.mono ?_); rintro e w3 ⟨rfl, rfl⟩; clear KD))
  go_loopw [7, 8, 9] (fun vi _ _ wr => ∃ i : Nat, vi = .int .i64 (i : Int) ∧ i ≤ A ∧ Hid (∃ X, LogS wr g h d t a X N (401 + 10 * i) (fillB (N - 6) fullF i) (fillO i) (fillN i)) ∧ Hid (Below w.heap.size w wr)) (fun vi _ _ _ => A - (intOf vi).toNat)
  case atStart => exact ⟨0, rfl, by omega, Lib.hid ⟨X, HL1.out⟩, HB1⟩
  case round =>
    obtain ⟨i, rfl, hi, HX, hb⟩ := hrel
    obtain ⟨X1, hl⟩ := HX.out
    have LS := Lib.hid hl
    clear HX hl HL1 HB1 c0
    by_cases hlt : i < A
    · have hd : decide ((i : Int) < (A : Int)) = true := by simp; omega
      have ew := wrap_u8n (k := i) (by omega)
      obtain ⟨b, hbb⟩ : ∃ b, UInt8.ofNat i = b := ⟨_, rfl⟩
      rw [hbb] at ew
      obtain ⟨Ls, hP, hfl⟩ := one_part wr b
      have b1 := Lib.hid (((Below.refl wr.heap.size wr).alloc (Nat.le_refl _) (.cells #[.int .u8 ((b.toNat : Nat) : Int)] 5 (0, 0))).alloc (by simp) (.cells #[.slice (some ⟨wr.heap.size, 0, none⟩) 1 1] 64))
      have KA : Hid (Calls Tryz.prog 21 #[.pointer (some ⟨g, 0, none⟩), .int .u8 60, .slice (some ⟨wr.heap.size + 1, 0, none⟩) 1 1] ((wr.alloc (.cells #[.int .u8 ((b.toNat : Nat) : Int)] 5 (0, 0))).alloc (.cells #[.slice (some ⟨wr.heap.size, 0, none⟩) 1 1] 64)) fun e w' => e = .returned (.tuple #[.agg (plc (i / 6) (2 + i % 6)).toArray, .int .i64 0]) ∧ ∃ X', LogS w' g h d t a X' N (401 + 10 * i + 10) (fillB (N - 6) fullF (i + 1)) (fillO (i + 1)) (fillN (i + 1)) ∧ Chg ((wr.alloc (.cells #[.int .u8 ((b.toNat : Nat) : Int)] 5 (0, 0))).alloc (.cells #[.slice (some ⟨wr.heap.size, 0, none⟩) 1 1] 64)) w' (a.log t d g h)) :=
        Lib.hid (fill_any (LS.out.after b1.out) (by rw [HM.out, HA.out]; exact hlt) (by omega) 60 _ Ls (wr.heap.size + 2) (by simp) hP (by rw [hfl]; exact rec_one (by decide) (by decide) (by decide) (by decide) (by decide) (by simp)) (by rw [hfl, ← hbb]; rfl))
      obtain ⟨pg, hpg⟩ : ∃ pg, 2 + i % 6 = pg := ⟨_, rfl⟩
      obtain ⟨px, hpx⟩ : ∃ px, i / 6 = px := ⟨_, rfl⟩
      have HPV := Lib.hid (show (plc px pg).toArray = #[.int .i64 (px : Int), .int .i64 (pg : Int)] from rfl)
      rw [hpg, hpx, HPV.out] at KA
      clear hP hfl hbb hpg hpx
      go_wp2_with (go_at_call 21; ((with_reducible refine KA.out.mono ?_); rintro e w5 ⟨rfl, X', l5, c5⟩; have L5 := Lib.hid l5; have B5 := Lib.hid ((hb.out.trans (b1.out.mono hb.out.size)).trans (c5.below HF.out (Nat.le_trans hb.out.size b1.out.size))); clear l5 c5 KA))
      go_roundw
      case rel => exact ⟨i + 1, by go_num, by omega, Lib.hid ⟨X', (L5.out.after (by first | exact (Below.refl _ _).alloc (Nat.le_refl _) _)).more (by omega)⟩, Lib.hid (B5.out.alloc B5.out.size _)⟩
      case measure => simp [intOf]; omega
    · obtain rfl : i = A := by omega
      clear hlt hi
      have hd : decide ((i : Int) < (i : Int)) = false := by simp
      have HL : Hid (LogS wr g h d t a X1 N (401 + 10 * i) (fillB (N - 6) fullF (6 * (N - 6))) (fillO (6 * (N - 6))) (fillN (6 * (N - 6)))) := Lib.hid (by have := LS.out; rw [HM.out, HA.out]; rw [HM.out] at this; exact this)
      clear LS
      have KA : Hid (Calls Tryz.prog 21 #[.pointer (some ⟨g, 0, none⟩), .int .u8 60, .slice none 0 0] wr fun e w' => e = .returned (.tuple #[.agg #[.int .i64 0, .int .i64 0], .int .i64 40]) ∧ Below wr.heap.size wr w') :=
        Lib.hid (fill_none HL.out rfl 60 (.slice none 0 0) [] wr.heap.size (Nat.le_refl _) (Parts.nil 0) (rec_one (by decide) (by decide) (by decide) (by decide) (by decide) (by simp)))
      have KF : Hid (∀ W, Below wr.heap.size wr W → Calls Tryz.prog 18 #[.pointer (some ⟨g, 0, none⟩)] W fun e w' => e = .returned (.int .i64 0) ∧ Below W.heap.size W w') := Lib.hid (fun W hW => by
        have := free_any (HL.out.after hW).lg
        rw [fill_free _ _ _ (Nat.le_refl _), fillN_all, Nat.min_self, Nat.sub_self] at this
        exact this)
      have KR : Hid (∀ W, Below wr.heap.size wr W → Calls Tryz.prog 23 #[.pointer (some ⟨g, 0, none⟩)] W fun e w' => e = .returned (.int .i64 0) ∧ Below W.heap.size W w') := Lib.hid (fun W hW => by
        have := room_any8 (HL.out.after hW).lg (HL.out.after hW).o
        rw [fill_room _ (Nat.le_refl _), show (6 - 6 * (N - 6) % 6) % 6 = 0 by omega] at this
        exact this)
      go_wp2_with (first
        | (go_at_call 21; ((with_reducible refine KA.out.mono ?_); rintro e w5 ⟨rfl, b5⟩; clear KA; have C5 := Lib.hid (b5.alloc b5.size (.cells #[.int .i64 0, .int .i64 0] 44)); clear b5; have K5 := Lib.hid (KF.out _ C5.out)))
        | (go_at_call 18; ((with_reducible refine K5.out.mono ?_); rintro e w6 ⟨rfl, b6⟩; clear K5 KF; have C6 := Lib.hid (C5.out.trans (b6.mono C5.out.size)); clear b6; have K6 := Lib.hid (KR.out _ C6.out)))
        | (go_at_call 23; ((with_reducible refine K6.out.mono ?_); rintro e w7 ⟨rfl, b7⟩; clear K6 KR; have C7 := Lib.hid (C6.out.trans (b7.mono C6.out.size)); clear b7 C5 C6; have c0 := (HL.out.after C7.out).lg.cells.1; have KD := Lib.hid (show Calls Tryz.prog 19 #[.pointer (some ⟨d, 0, none⟩)] w7 fun e w' => e = .returned (.int .i64 (M : Int)) ∧ w7 = w' from by have := (HL.out.after C7.out).lg.dk.len; rwa [HM.out] at this); have KP := Lib.hid (drop_first (HL.out.after C7.out) (y := y) (by rw [HM.out]; exact HY.out) (by omega))))
        | (go_at_call 19; ((with_reducible refine KD.out.mono ?_); rintro e w8 ⟨rfl, rfl⟩; clear KD))
        | (go_at_call 14; ((with_reducible refine KP.out.mono ?_); rintro e w8 ⟨rfl, X2, l8, c8⟩; have L8 := Lib.hid l8; have B8 := Lib.hid ((hb.out.trans (C7.out.mono hb.out.size)).trans (c8.below HF.out (Nat.le_trans hb.out.size C7.out.size))); clear KP l8 c8)))
      clear HL c0 C7 hd hA6 hb
      go_loopw [13, 14, 15] (fun vi _ _ wq => ∃ k : Nat, vi = .int .i64 (k : Int) ∧ k ≤ 6 ∧ Hid (∃ X, LogS wq g h d t a X N (401 + 10 * i + 10 + 10 * k) (dropB (N - 6) fullF y k) (dropO (N - 6) y k) (dropN (N - 6) k)) ∧ Hid (Below w.heap.size w wq)) (fun vi _ _ _ => 6 - (intOf vi).toNat)
      case atStart => exact ⟨0, rfl, by omega, Lib.hid ⟨X2, L8.out⟩, B8⟩
      case round =>
        obtain ⟨k, rfl, hk, HX, hb⟩ := hrel
        obtain ⟨X3, hl⟩ := HX.out
        have LS := Lib.hid hl
        clear HX hl L8 B8
        by_cases hlt : k < 6
        · have KA := Lib.hid (drop_any LS.out (by rw [HM.out]; exact HY.out) hlt (by omega))
          obtain ⟨pg, hpg⟩ : ∃ pg, 2 + k = pg := ⟨_, rfl⟩
          have HPV := Lib.hid (show (plc y pg).toArray = #[.int .i64 (y : Int), .int .i64 (pg : Int)] from rfl)
          rw [hpg, HPV.out] at KA
          clear hpg
          go_wp2_with (go_at_call 21; ((with_reducible refine KA.out.mono ?_); rintro e w5 ⟨rfl, X', l5, c5⟩; have L5 := Lib.hid l5; have B5 := Lib.hid (hb.out.trans (c5.below HF.out hb.out.size)); clear l5 c5 KA))
          go_roundw
          case rel => exact ⟨k + 1, by go_num, by omega, Lib.hid ⟨X', (L5.out.after (by first | exact (Below.refl _ _).alloc (Nat.le_refl _) _)).more (by omega)⟩, Lib.hid (B5.out.alloc B5.out.size _)⟩
          case measure => simp [intOf]; omega
        · obtain rfl : k = 6 := by omega
          have KA : Hid (Calls Tryz.prog 21 #[.pointer (some ⟨g, 0, none⟩), .int .u8 62, .slice none 0 0] wr fun e w' => e = .returned (.tuple #[.agg #[.int .i64 0, .int .i64 0], .int .i64 40]) ∧ Below wr.heap.size wr w') := Lib.hid (drop_none LS.out (by rw [HM.out]; exact HY.out))
          go_wp2_with (go_at_call 21; ((with_reducible refine KA.out.mono ?_); rintro e w9 ⟨rfl, b9⟩; have B9 := Lib.hid (hb.out.trans (b9.mono hb.out.size)); clear KA b9))
          go_ret
          exact ⟨rfl, B9.out.alloc B9.out.size _⟩
set_option maxRecDepth 100000 in
theorem logFull_any (n x : Int) (w : World) (ht : Tab w) (_ : (Lit.int .i64 n).wf = true) (_ : (Lit.int .i64 x).wf = true) :
    Calls Tryz.prog 7 #[.int .i64 n, .int .i64 x] w fun e w' => e = .returned (.bool true) ∧ Below w.heap.size w w' := by
  by_cases h : n < 16 ∨ 40 < n
  · exact logFull_no n x h w ht
  · obtain ⟨N, rfl⟩ : ∃ N : Nat, n = (N : Int) := ⟨n.toNat, by omega⟩
    exact logFull_yes N x (by omega) w ht
end Go.Proofs.YtfomeifnoaojhaaGreatDoor

