/- The walk of LogRoom: it answers true, and changes nothing that was there. Condition: the table of the check sum holds its sixteen numbers. -/
import Derived.Test.YtfomeifnoaojhaaGreatDoorQLogG
import Derived.Test.YtfomeifnoaojhaaGreatDoorQLogF
namespace Go.Proofs.YtfomeifnoaojhaaGreatDoor
open Go.RowKit
/-- the records of it -/
def roomF (i : Nat) : LRec := (70, [UInt8.ofNat i])
theorem fblk_opened {f : Nat → LRec} {n y : Nat} (h : 6 * y < n) : (fblk f n y).opened = fblk f n y := by
  rw [fblk_seg h, opened_seg rfl]
  show LB.mk 1 false true (y + 1) (2 + ((List.range (min 6 (n - 6 * y))).map (fun j => f (6 * y + j))).length) _ = _
  rw [List.length_map, List.length_range]
theorem freeTo_opened (Bs : List LB) : ∀ k, freeTo (Bs.map LB.opened) k = freeTo Bs k
  | 0 => rfl
  | k + 1 => by
    unfold freeTo
    rw [freeTo_opened Bs k, opened_seg_at]
theorem fill_room_opened {M : Nat} (f : Nat → LRec) {n : Nat} (hn : n ≤ 6 * M) : roomOf ((fillB M f n).map LB.opened) (fillO n) = (6 - n % 6) % 6 := by
  by_cases h0 : n = 0
  · subst h0
    rfl
  · have hl := fillO_last (n := n) (by omega)
    have hb := fillB_get (M := M) f n (y := (n - 1) / 6) (by omega)
    have hb2 : ((fillB M f n).map LB.opened)[(n - 1) / 6]? = some (fblk f n ((n - 1) / 6)) := by
      rw [List.getElem?_map, hb]
      show some (fblk f n ((n - 1) / 6)).opened = _
      rw [fblk_opened (by omega)]
    rw [roomOf_some hl hb2, fblk_seg (by omega)]
    show 8 - (2 + min 6 (n - 6 * ((n - 1) / 6))) = _
    omega
theorem and_127 (z : Int) : ∃ y : Nat, bits .and .i64 z 127 = (y : Int) := by
  have e : (BitVec.ofInt 64 z &&& BitVec.ofInt 64 127).toNat = (z % 18446744073709551616).toNat % 2 ^ 7 := by
    rw [BitVec.toNat_and, show (BitVec.ofInt 64 127).toNat = 2 ^ 7 - 1 from rfl, Nat.and_two_pow_sub_one_eq_mod, BitVec.toNat_ofInt]
    rfl
  refine ⟨(z % 18446744073709551616).toNat % 2 ^ 7, ?_⟩
  unfold bits
  show IntKind.i64.wrap ((BitVec.ofInt 64 z &&& BitVec.ofInt 64 127).toNat : Int) = _
  rw [e, IntKind.wrap_i64]
  omega
section
variable {w : World} {g h d t : Nat} {a : At} {X : DS} {N C : Nat} {f : Nat → LRec} {n : Nat}
theorem fill_roomC (l : LogS w g h d t a X N C (fillB (N - 6) f n) (fillO n) (fillN n)) (hn : n ≤ 6 * (N - 6)) {r : Nat} (hr : (6 - n % 6) % 6 = r) :
    Calls Tryz.prog 23 #[.pointer (some ⟨g, 0, none⟩)] w fun e w' => e = .returned (.int .i64 (r : Int)) ∧ Below w.heap.size w w' := by
  have := room_any8 l.lg l.o
  rw [fill_room _ hn, hr] at this
  exact this
theorem fill_freeC (l : LogS w g h d t a X N C (fillB (N - 6) f n) (fillO n) (fillN n)) {r : Nat} (hr : N - 6 - min (N - 6) (fillN n) = r) :
    Calls Tryz.prog 18 #[.pointer (some ⟨g, 0, none⟩)] w fun e w' => e = .returned (.int .i64 (r : Int)) ∧ Below w.heap.size w w' := by
  have := free_any l.lg
  rw [fill_free _ _ _ (Nat.le_refl _), hr] at this
  exact this
end
set_option maxRecDepth 100000 in
set_option maxHeartbeats 32000000 in
theorem logRoom_any (n : Int) (w : World) (ht : Tab w) (_ : (Lit.int .i64 n).wf = true) :
    Calls Tryz.prog 8 #[.int .i64 n] w fun e w' => e = .returned (.bool true) ∧ Below w.heap.size w w' := by
  have KS := Lib.hid (speaks8_any w ht)
  have KL : Hid (∀ W, Below w.heap.size w W → Calls Tryz.prog 11 #[.int .i64 18] W fun er w' => ∃ g h d t a X, er = .returned (.pointer (some ⟨g, 0, none⟩)) ∧ Begun8 W w' g h d t a X 18) := Lib.hid (fun (W : World) (hW : Below w.heap.size w W) => laid8_any 18 (by omega) W (ht.below hW ht.lt))
  obtain ⟨y, hy⟩ := and_127 n
  clear ht
  go_enter Tryz.func8, Tryz.ntmps8
  go_wp2_with (go_at_call 9; ((with_reducible refine KS.out.mono ?_); rintro e w1 ⟨rfl, b1⟩; have B1 := Lib.hid b1; have K1 := Lib.hid (KL.out w1 b1); clear KS KL b1))
  go_wp2_with (go_at_call 11; ((with_reducible refine K1.out.mono ?_); rintro e w2 ⟨g, h, d, t, a, X, rfl, hB⟩; have HL1 := Lib.hid (hB.log roomF); have HF := Lib.hid (show ∀ j, a.log t d g h j → w.heap.size ≤ j from fun j hj => Nat.le_trans B1.out.size (hB.far j hj)); have HB1 := Lib.hid (B1.out.trans (hB.below.mono B1.out.size)); have c0 := (hB.log roomF).lg.cells.1; have KD : Hid (Calls Tryz.prog 19 #[.pointer (some ⟨d, 0, none⟩)] w2 fun e w' => e = .returned (.int .i64 12) ∧ w2 = w') := Lib.hid ((hB.log roomF).lg.dk.len); clear hB K1))
  go_wp2_with (go_at_call 19; ((with_reducible refine KD.out.mono ?_); rintro e w3 ⟨rfl, rfl⟩; clear KD))
  go_loopw [4, 5, 6, 7, 8] (fun vf vi _ _ _ wr => ∃ i fr : Nat, vi = .int .i64 (i : Int) ∧ i ≤ 72 ∧ vf = .int .i64 (fr : Int) ∧ fr + (i + 5) / 6 = 12 ∧ Hid (∃ X, LogS wr g h d t a X 18 (401 + 10 * i) (fillB (18 - 6) roomF i) (fillO i) (fillN i)) ∧ Hid (Below w.heap.size w wr)) (fun _ vi _ _ _ _ => 72 - (intOf vi).toNat)
  case atStart => exact ⟨0, 12, rfl, by omega, rfl, by omega, Lib.hid ⟨X, HL1.out⟩, HB1⟩
  case round =>
    obtain ⟨i, fr, rfl, hi, rfl, hfr, HX, hb⟩ := hrel
    obtain ⟨X1, hl⟩ := HX.out
    have LS := Lib.hid hl
    clear HX hl HL1 HB1 c0
    by_cases hlt : i < y
    · have hd : decide ((i : Int) < (y : Int)) = true := by simp; omega
      have ew := wrap_u8n (k := i) (by omega)
      obtain ⟨b, hbb⟩ : ∃ b, UInt8.ofNat i = b := ⟨_, rfl⟩
      rw [hbb] at ew
      by_cases h72 : i < 72
      · have K50 := Lib.hid (fill_roomC LS.out (by omega) rfl)
        obtain ⟨px, hpx⟩ : ∃ px, i / 6 = px := ⟨_, rfl⟩
        by_cases h6 : i % 6 = 0
        · obtain ⟨fr1, hfr1⟩ : ∃ fr1, fr = fr1 + 1 := ⟨fr - 1, by omega⟩
          have e1 : (fr : Int) - 1 = (fr1 : Int) := by omega
          have K5 : Hid (Calls Tryz.prog 23 #[.pointer (some ⟨g, 0, none⟩)] wr fun e w' => e = .returned (.int .i64 0) ∧ Below wr.heap.size wr w') := Lib.hid (by have := K50.out; rw [h6] at this; exact this)
          have hpg : 2 + i % 6 = 2 := by omega
          clear K50
          have KA : Hid (∀ V, Below wr.heap.size wr V → Calls Tryz.prog 21 #[.pointer (some ⟨g, 0, none⟩), .int .u8 70, .slice (some ⟨V.heap.size + 1, 0, none⟩) 1 1] ((V.alloc (.cells #[.int .u8 ((b.toNat : Nat) : Int)] 5 (0, 0))).alloc (.cells #[.slice (some ⟨V.heap.size, 0, none⟩) 1 1] 64)) fun e w' => e = .returned (.tuple #[.agg #[.int .i64 (px : Int), .int .i64 2], .int .i64 0]) ∧ ∃ X', LogS w' g h d t a X' 18 (401 + 10 * i + 10) (fillB (18 - 6) roomF (i + 1)) (fillO (i + 1)) (fillN (i + 1)) ∧ Below w.heap.size w w') := Lib.hid (fun V hV => by
            obtain ⟨Ls, hP, hfl⟩ := one_part V b
            have b1 : Below V.heap.size V ((V.alloc (.cells #[.int .u8 ((b.toNat : Nat) : Int)] 5 (0, 0))).alloc (.cells #[.slice (some ⟨V.heap.size, 0, none⟩) 1 1] 64)) := ((Below.refl V.heap.size V).alloc (Nat.le_refl _) _).alloc (by simp) _
            refine (fill_any ((LS.out.after hV).after b1) (by omega) (by omega) 70 _ Ls (V.heap.size + 2) (by simp) hP (by rw [hfl]; exact rec_one (by decide) (by decide) (by decide) (by decide) (by decide) (by simp)) (by rw [hfl, ← hbb]; rfl)).mono ?_
            rintro e w' ⟨rfl, X', l', c'⟩
            have hw1 := hb.out.trans (hV.mono hb.out.size)
            have hw2 := hw1.trans (b1.mono hw1.size)
            exact ⟨by rw [hpx, hpg]; rfl, X', l', hw2.trans (c'.below HF.out hw2.size)⟩)
          clear hpx hpg hbb
          go_wp2_with (first
            | (go_at_call 23; ((with_reducible refine K5.out.mono ?_); rintro e w5 ⟨rfl, b5⟩; have K6 := Lib.hid (KA.out w5 b5); clear K5 KA b5))
            | (go_at_call 21; ((with_reducible refine K6.out.mono ?_); rintro e w6 ⟨rfl, X', l6, b6⟩; have L6 := Lib.hid l6; have B6 := Lib.hid b6; have R6 := Lib.hid (show Blk (w6.alloc (.cells #[.int .i64 (px : Int), .int .i64 2] 44)) w6.heap.size 44 (plc px 2) from Blk.new w6 44 (plc px 2)); have A6 := Lib.hid ((Below.refl w6.heap.size w6).alloc (Nat.le_refl _) (.cells #[.int .i64 (px : Int), .int .i64 2] 44)); have K7 : Hid (Calls Tryz.prog 23 #[.pointer (some ⟨g, 0, none⟩)] (w6.alloc (.cells #[.int .i64 (px : Int), .int .i64 2] 44)) fun e w' => e = .returned (.int .i64 5) ∧ Below (w6.alloc (.cells #[.int .i64 (px : Int), .int .i64 2] 44)).heap.size (w6.alloc (.cells #[.int .i64 (px : Int), .int .i64 2] 44)) w') := Lib.hid (fill_roomC (r := 5) (L6.out.after A6.out) (by omega) (by omega)); clear K6 l6 b6))
            | (go_at_call 23; ((with_reducible refine K7.out.mono ?_); rintro e w7 ⟨rfl, b7⟩; have A7 := Lib.hid (A6.out.trans (b7.mono A6.out.size)); have R7 := Lib.hid (R6.out.below b7 R6.out.lt); have K8 : Hid (Calls Tryz.prog 18 #[.pointer (some ⟨g, 0, none⟩)] w7 fun e w' => e = .returned (.int .i64 (fr1 : Int)) ∧ Below w7.heap.size w7 w') := Lib.hid (fill_freeC (L6.out.after A7.out) (by unfold fillN; omega)); clear K7 b7))
            | (go_at_call 18; ((with_reducible refine K8.out.mono ?_); rintro e w8 ⟨rfl, b8⟩; have A8 := Lib.hid (A7.out.trans (b8.mono A7.out.size)); have R8 := R7.out.below b8 R7.out.lt; have c8 : w8.cell? ⟨w6.heap.size, 1, none⟩ = some (.int .i64 2) := R8.cell 1; clear K8 b8)))
          go_roundw
          case rel => exact ⟨i + 1, fr1, by go_num, by omega, by first | rfl | go_num, by omega, Lib.hid ⟨X', (L6.out.after A8.out).more (by omega)⟩, Lib.hid (B6.out.trans (A8.out.mono B6.out.size))⟩
          case measure => simp [intOf]; omega
        · obtain ⟨rm, hrm⟩ : ∃ rm, (6 - i % 6) % 6 = rm := ⟨_, rfl⟩
          obtain ⟨rm1, hrm1⟩ : ∃ rm1, rm = rm1 + 1 := ⟨rm - 1, by omega⟩
          have e1 : (rm : Int) - 1 = (rm1 : Int) := by omega
          obtain ⟨pg, hpg⟩ : ∃ pg, 2 + i % 6 = pg := ⟨_, rfl⟩
          have e2 : (8 : Int) - (rm : Int) = (pg : Int) := by omega
          have d0 : ((rm : Int) == 0) = false := by simp; omega
          have K5 : Hid (Calls Tryz.prog 23 #[.pointer (some ⟨g, 0, none⟩)] wr fun e w' => e = .returned (.int .i64 (rm : Int)) ∧ Below wr.heap.size wr w') := Lib.hid (by have := K50.out; rw [hrm] at this; exact this)
          clear K50
          have KA : Hid (∀ V, Below wr.heap.size wr V → Calls Tryz.prog 21 #[.pointer (some ⟨g, 0, none⟩), .int .u8 70, .slice (some ⟨V.heap.size + 1, 0, none⟩) 1 1] ((V.alloc (.cells #[.int .u8 ((b.toNat : Nat) : Int)] 5 (0, 0))).alloc (.cells #[.slice (some ⟨V.heap.size, 0, none⟩) 1 1] 64)) fun e w' => e = .returned (.tuple #[.agg #[.int .i64 (px : Int), .int .i64 (pg : Int)], .int .i64 0]) ∧ ∃ X', LogS w' g h d t a X' 18 (401 + 10 * i + 10) (fillB (18 - 6) roomF (i + 1)) (fillO (i + 1)) (fillN (i + 1)) ∧ Below w.heap.size w w') := Lib.hid (fun V hV => by
            obtain ⟨Ls, hP, hfl⟩ := one_part V b
            have b1 : Below V.heap.size V ((V.alloc (.cells #[.int .u8 ((b.toNat : Nat) : Int)] 5 (0, 0))).alloc (.cells #[.slice (some ⟨V.heap.size, 0, none⟩) 1 1] 64)) := ((Below.refl V.heap.size V).alloc (Nat.le_refl _) _).alloc (by simp) _
            refine (fill_any ((LS.out.after hV).after b1) (by omega) (by omega) 70 _ Ls (V.heap.size + 2) (by simp) hP (by rw [hfl]; exact rec_one (by decide) (by decide) (by decide) (by decide) (by decide) (by simp)) (by rw [hfl, ← hbb]; rfl)).mono ?_
            rintro e w' ⟨rfl, X', l', c'⟩
            have hw1 := hb.out.trans (hV.mono hb.out.size)
            have hw2 := hw1.trans (b1.mono hw1.size)
            exact ⟨by rw [hpx, hpg]; rfl, X', l', hw2.trans (c'.below HF.out hw2.size)⟩)
          clear hpx hpg hbb
          go_wp2_with (first
            | (go_at_call 23; ((with_reducible refine K5.out.mono ?_); rintro e w5 ⟨rfl, b5⟩; have K6 := Lib.hid (KA.out w5 b5); clear K5 KA b5))
            | (go_at_call 21; ((with_reducible refine K6.out.mono ?_); rintro e w6 ⟨rfl, X', l6, b6⟩; have L6 := Lib.hid l6; have B6 := Lib.hid b6; have R6 := Lib.hid (show Blk (w6.alloc (.cells #[.int .i64 (px : Int), .int .i64 (pg : Int)] 44)) w6.heap.size 44 (plc px pg) from Blk.new w6 44 (plc px pg)); have A6 := Lib.hid ((Below.refl w6.heap.size w6).alloc (Nat.le_refl _) (.cells #[.int .i64 (px : Int), .int .i64 (pg : Int)] 44)); have K7 : Hid (Calls Tryz.prog 23 #[.pointer (some ⟨g, 0, none⟩)] (w6.alloc (.cells #[.int .i64 (px : Int), .int .i64 (pg : Int)] 44)) fun e w' => e = .returned (.int .i64 (rm1 : Int)) ∧ Below (w6.alloc (.cells #[.int .i64 (px : Int), .int .i64 (pg : Int)] 44)).heap.size (w6.alloc (.cells #[.int .i64 (px : Int), .int .i64 (pg : Int)] 44)) w') := Lib.hid (fill_roomC (r := rm1) (L6.out.after A6.out) (by omega) (by omega)); clear K6 l6 b6))
            | (go_at_call 23; ((with_reducible refine K7.out.mono ?_); rintro e w7 ⟨rfl, b7⟩; have A7 := Lib.hid (A6.out.trans (b7.mono A6.out.size)); have R7 := Lib.hid (R6.out.below b7 R6.out.lt); have K8 : Hid (Calls Tryz.prog 18 #[.pointer (some ⟨g, 0, none⟩)] w7 fun e w' => e = .returned (.int .i64 (fr : Int)) ∧ Below w7.heap.size w7 w') := Lib.hid (fill_freeC (L6.out.after A7.out) (by unfold fillN; omega)); clear K7 b7))
            | (go_at_call 18; ((with_reducible refine K8.out.mono ?_); rintro e w8 ⟨rfl, b8⟩; have A8 := Lib.hid (A7.out.trans (b8.mono A7.out.size)); have R8 := R7.out.below b8 R7.out.lt; have c8 : w8.cell? ⟨w6.heap.size, 1, none⟩ = some (.int .i64 (pg : Int)) := R8.cell 1; clear K8 b8)))
          go_roundw
          case rel => exact ⟨i + 1, fr, by go_num, by omega, by first | rfl | go_num, by omega, Lib.hid ⟨X', (L6.out.after A8.out).more (by omega)⟩, Lib.hid (B6.out.trans (A8.out.mono B6.out.size))⟩
          case measure => simp [intOf]; omega
      · have hi72 : i = 72 := by omega
        have hf0 : fr = 0 := by omega
        have K5 : Hid (Calls Tryz.prog 23 #[.pointer (some ⟨g, 0, none⟩)] wr fun e w' => e = .returned (.int .i64 0) ∧ Below wr.heap.size wr w') := Lib.hid (fill_roomC (r := 0) LS.out (by omega) (by omega))
        have KA : Hid (∀ V, Below wr.heap.size wr V → Calls Tryz.prog 21 #[.pointer (some ⟨g, 0, none⟩), .int .u8 70, .slice (some ⟨V.heap.size + 1, 0, none⟩) 1 1] ((V.alloc (.cells #[.int .u8 ((b.toNat : Nat) : Int)] 5 (0, 0))).alloc (.cells #[.slice (some ⟨V.heap.size, 0, none⟩) 1 1] 64)) fun e w' => e = .returned (.tuple #[.agg #[.int .i64 0, .int .i64 0], .int .i64 40]) ∧ Below w.heap.size w w') := Lib.hid (fun V hV => by
          obtain ⟨Ls, hP, hfl⟩ := one_part V b
          have b1 : Below V.heap.size V ((V.alloc (.cells #[.int .u8 ((b.toNat : Nat) : Int)] 5 (0, 0))).alloc (.cells #[.slice (some ⟨V.heap.size, 0, none⟩) 1 1] 64)) := ((Below.refl V.heap.size V).alloc (Nat.le_refl _) _).alloc (by simp) _
          refine (fill_none ((LS.out.after hV).after b1) (by omega) 70 _ Ls (V.heap.size + 2) (by simp) hP (by rw [hfl]; exact rec_one (by decide) (by decide) (by decide) (by decide) (by decide) (by simp))).mono ?_
          rintro e w' ⟨rfl, b'⟩
          have hw1 := hb.out.trans (hV.mono hb.out.size)
          have hw2 := hw1.trans (b1.mono hw1.size)
          exact ⟨rfl, hw2.trans (b'.mono hw2.size)⟩)
        clear hbb hfr hi72
        have df : ((fr : Int) == 0) = true := by rw [hf0]; rfl
        go_wp2_with (first
          | (go_at_call 23; ((with_reducible refine K5.out.mono ?_); rintro e w5 ⟨rfl, b5⟩; have K6 := Lib.hid (KA.out w5 b5); clear K5 KA b5))
          | (go_at_call 21; ((with_reducible refine K6.out.mono ?_); rintro e w6 ⟨rfl, b6⟩; have B6 := Lib.hid b6; clear K6 b6)))
        go_ret
        exact ⟨rfl, B6.out.alloc B6.out.size _⟩
    · have hd : decide ((i : Int) < (y : Int)) = false := by simp; omega
      have c0 := LS.out.lg.cells.1
      have c1 := LS.out.lg.dk.count.1
      have KA : Hid (Calls Tryz.prog 20 #[.pointer (some ⟨a.c, 0, none⟩)] wr fun er w' => ∃ g h d' t', er = .returned (.pointer (some ⟨g, 0, none⟩)) ∧ Lg w' g h d' t' a X1 18 (401 + 10 * i) ((fillB (18 - 6) roomF i).map LB.opened) (opNum (fillB (18 - 6) roomF i) (18 - 6)) ∧ Below wr.heap.size wr w') := Lib.hid (again8_any LS.out.lg.dk (by rw [fillB_length]) LS.out.o LS.out.has)
      have HO := Lib.hid LS.out.o.opened
      rw [fillB_length] at HO
      obtain ⟨rm, hrm⟩ : ∃ rm, (6 - i % 6) % 6 = rm := ⟨_, rfl⟩
      have hn : i ≤ 6 * (18 - 6) := by omega
      have KR := Lib.hid (fun (W : World) (hW : Below wr.heap.size wr W) => fill_roomC (LS.out.after hW) hn hrm)
      have KF := Lib.hid (fun (W : World) (hW : Below wr.heap.size wr W) => fill_freeC (LS.out.after hW) (r := fr) (by unfold fillN; omega))
      have ER := Lib.hid ((fill_room_opened (M := 18 - 6) roomF hn).trans hrm)
      have EF : Hid (freeTo ((fillB (18 - 6) roomF i).map LB.opened) (18 - 6) = fr) := Lib.hid (by rw [freeTo_opened, fill_free _ _ _ (Nat.le_refl _)]; unfold fillN; omega)
      clear LS hrm hn
      go_wp2_with (first
        | (go_at_call 20; ((with_reducible refine KA.out.mono ?_); rintro e w5 ⟨g2, h2, d2, t2, rfl, l5, b5⟩; have A5 := Lib.hid b5; have L5 := Lib.hid l5; have K5 : Hid (Calls Tryz.prog 23 #[.pointer (some ⟨g2, 0, none⟩)] w5 fun e w' => e = .returned (.int .i64 (rm : Int)) ∧ Below w5.heap.size w5 w') := Lib.hid (by have := room_any8 L5.out HO.out; rw [ER.out] at this; exact this); clear KA b5 l5))
        | (go_at_call 23; ((with_reducible refine K5.out.mono ?_); rintro e w6 ⟨rfl, b6⟩; have S6 := Lib.hid b6; have A6 := Lib.hid (A5.out.trans (b6.mono A5.out.size)); have K6 := Lib.hid (KR.out _ A6.out); clear K5 b6))
        | (go_at_call 23; ((with_reducible refine K6.out.mono ?_); rintro e w7 ⟨rfl, b7⟩; have S7 := Lib.hid (S6.out.trans (b7.mono S6.out.size)); have A7 := Lib.hid (A6.out.trans (b7.mono A6.out.size)); have K7 : Hid (Calls Tryz.prog 18 #[.pointer (some ⟨g2, 0, none⟩)] w7 fun e w' => e = .returned (.int .i64 (fr : Int)) ∧ Below w7.heap.size w7 w') := Lib.hid (by have := free_any (L5.out.after S7.out); rw [EF.out] at this; exact this); clear K6 b7))
        | (go_at_call 18; ((with_reducible refine K7.out.mono ?_); rintro e w8 ⟨rfl, b8⟩; have A8 := Lib.hid (A7.out.trans (b8.mono A7.out.size)); have K8 := Lib.hid (KF.out _ A8.out); clear K7 b8))
        | (go_at_call 18; ((with_reducible refine K8.out.mono ?_); rintro e w9 ⟨rfl, b9⟩; have A9 := Lib.hid (A8.out.trans (b9.mono A8.out.size)); clear K8 b9)))
      go_ret
      exact ⟨rfl, hb.out.trans (A9.out.mono hb.out.size)⟩
end Go.Proofs.YtfomeifnoaojhaaGreatDoor

