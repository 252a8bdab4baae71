/- The walk of LogEmpty: it answers true, and changes nothing that was there. Condition: the table of the check sum holds its sixteen numbers. -/
import Derived.Test.YtfomeifnoaojhaaGreatDoorQLogEmptyM
namespace Go.Proofs.YtfomeifnoaojhaaGreatDoor
open Go.RowKit
theorem and_63 (z : Int) : ∃ y : Nat, bits .and .i64 z 63 = (y : Int) ∧ y < 64 := by
  have e : (BitVec.ofInt 64 z &&& BitVec.ofInt 64 63).toNat = (z % 18446744073709551616).toNat % 2 ^ 6 := by
    rw [BitVec.toNat_and, show (BitVec.ofInt 64 63).toNat = 2 ^ 6 - 1 from rfl, Nat.and_two_pow_sub_one_eq_mod, BitVec.toNat_ofInt]
    rfl
  refine ⟨(z % 18446744073709551616).toNat % 2 ^ 6, ?_, Nat.mod_lt _ (by omega)⟩
  unfold bits
  show IntKind.i64.wrap ((BitVec.ofInt 64 z &&& BitVec.ofInt 64 63).toNat : Int) = _
  rw [e, IntKind.wrap_i64]
  omega
theorem wrap_kb8 (z : Int) : ∃ kb : UInt8, IntKind.u8.wrap z = ((kb.toNat : Nat) : Int) := by
  refine ⟨UInt8.ofNat (IntKind.u8.wrap z).toNat, ?_⟩
  rw [UInt8.toNat_ofNat', IntKind.wrap_u8]
  omega
set_option maxRecDepth 100000 in
set_option maxHeartbeats 32000000 in
theorem logEmpty_any (n k : Int) (w : World) (ht : Tab w) (_ : (Lit.int .i64 n).wf = true) (_ : (Lit.int .i64 k).wf = true) :
    Calls Tryz.prog 5 #[.int .i64 n, .int .i64 k] w fun e w' => e = .returned (.bool true) ∧ Below w.heap.size w w' := by
  have KS := Lib.hid (speaks8_any w ht)
  have KL : Hid (∀ W, Below w.heap.size w W → Calls Tryz.prog 11 #[.int .i64 16] W fun er w' => ∃ g h d t a X, er = .returned (.pointer (some ⟨g, 0, none⟩)) ∧ Begun8 W w' g h d t a X 16) := Lib.hid (fun (W : World) (hW : Below w.heap.size w W) => laid8_any 16 (by omega) W (ht.below hW ht.lt))
  obtain ⟨y, hy, hy64⟩ := and_63 n
  obtain ⟨kb, hkb⟩ := wrap_kb8 k
  clear ht
  go_enter Tryz.func5, Tryz.ntmps5
  go_wp2_with (go_at_call 9; ((with_reducible refine KS.out.mono ?_); rintro e w1 ⟨rfl, b1⟩; have B1 := Lib.hid b1; have K1 := Lib.hid (KL.out w1 b1); clear KS KL b1))
  go_wp2_with (go_at_call 11; ((with_reducible refine K1.out.mono ?_); rintro e w2 ⟨g, h, d, t, a, X, rfl, hB⟩; have HL1 := Lib.hid (hB.log (fun _ => (40, [kb]))); have HF := Lib.hid (show ∀ j, a.log t d g h j → w.heap.size ≤ j from fun j hj => Nat.le_trans B1.out.size (hB.far j hj)); have HB1 := Lib.hid (B1.out.trans (hB.below.mono B1.out.size)); clear hB K1))
  go_loopw [6, 7, 8] (fun vi _ _ wr => ∃ i m : Nat, vi = .int .i64 (i : Int) ∧ i ≤ 63 ∧ m = min i 60 ∧ Hid (∃ X, LogS wr g h d t a X 16 (401 + 10 * m) (fillB (16 - 6) (fun _ => (40, [kb])) m) (fillO m) (fillN m)) ∧ Hid (Below w.heap.size w wr)) (fun vi _ _ _ => 64 - (intOf vi).toNat)
  case atStart => exact ⟨0, 0, rfl, by omega, rfl, Lib.hid ⟨X, HL1.out⟩, HB1⟩
  case round =>
    obtain ⟨i, m, rfl, hi, hm, HX, hb⟩ := hrel
    obtain ⟨X1, hl⟩ := HX.out
    have LS := Lib.hid hl
    clear HX hl HL1 HB1
    by_cases hlt : i < y
    · have hd : decide ((i : Int) < (y : Int)) = true := by simp; omega
      obtain ⟨Ls, hP, hfl⟩ := one_part wr kb
      have b1 := Lib.hid (show Below wr.heap.size wr ((wr.alloc (.cells #[.int .u8 ((kb.toNat : Nat) : Int)] 5 (0, 0))).alloc (.cells #[.slice (some ⟨wr.heap.size, 0, none⟩) 1 1] 64)) from ((Below.refl wr.heap.size wr).alloc (Nat.le_refl _) _).alloc (by simp) _)
      have hrk : recOk ((40 : UInt8), Ls.flatten) := by rw [hfl]; exact rec_one (by decide) (by decide) (by decide) (by decide) (by decide) (by simp)
      by_cases h60 : m < 60
      · have KA : Hid (Calls Tryz.prog 21 #[.pointer (some ⟨g, 0, none⟩), .int .u8 40, .slice (some ⟨wr.heap.size + 1, 0, none⟩) 1 1] ((wr.alloc (.cells #[.int .u8 ((kb.toNat : Nat) : Int)] 5 (0, 0))).alloc (.cells #[.slice (some ⟨wr.heap.size, 0, none⟩) 1 1] 64)) fun e w' => e = .returned (.tuple #[.agg (plc (m / 6) (2 + m % 6)).toArray, .int .i64 0]) ∧ ∃ X', LogS w' g h d t a X' 16 (401 + 10 * m + 10) (fillB (16 - 6) (fun _ => (40, [kb])) (m + 1)) (fillO (m + 1)) (fillN (m + 1)) ∧ Below w.heap.size w w') := Lib.hid (by
          refine (fill_any (LS.out.after b1.out) (by omega) (by omega) 40 _ Ls (wr.heap.size + 2) (by simp) hP hrk (by rw [hfl])).mono ?_
          rintro e w' ⟨rfl, X', l', c'⟩
          have hw2 := hb.out.trans (b1.out.mono hb.out.size)
          exact ⟨rfl, X', l', hw2.trans (c'.below HF.out hw2.size)⟩)
        obtain ⟨pg, hpg⟩ : ∃ pg, 2 + m % 6 = pg := ⟨_, rfl⟩
        obtain ⟨px, hpx⟩ : ∃ px, m / 6 = px := ⟨_, rfl⟩
        have HPV := Lib.hid (show (plc px pg).toArray = #[.int .i64 (px : Int), .int .i64 (pg : Int)] from rfl)
        rw [hpg, hpx, HPV.out] at KA
        clear hP hfl hrk hpg hpx
        go_wp2_with (go_at_call 21; ((with_reducible refine KA.out.mono ?_); rintro e w5 ⟨rfl, X', l5, b5⟩; have L5 := Lib.hid l5; have B5 := Lib.hid b5; clear l5 b5 KA))
        go_roundw
        case rel => exact ⟨i + 1, m + 1, by go_num, by omega, by omega, Lib.hid ⟨X', (L5.out.after (by first | exact (Below.refl _ _).alloc (Nat.le_refl _) _)).more (by omega)⟩, Lib.hid (B5.out.alloc B5.out.size _)⟩
        case measure => simp [intOf]; omega
      · have KA : Hid (Calls Tryz.prog 21 #[.pointer (some ⟨g, 0, none⟩), .int .u8 40, .slice (some ⟨wr.heap.size + 1, 0, none⟩) 1 1] ((wr.alloc (.cells #[.int .u8 ((kb.toNat : Nat) : Int)] 5 (0, 0))).alloc (.cells #[.slice (some ⟨wr.heap.size, 0, none⟩) 1 1] 64)) fun e w' => e = .returned (.tuple #[.agg #[.int .i64 0, .int .i64 0], .int .i64 40]) ∧ Below wr.heap.size wr w') := Lib.hid (by
          refine (fill_none (LS.out.after b1.out) (by omega) 40 _ Ls (wr.heap.size + 2) (by simp) hP hrk).mono ?_
          rintro e w' ⟨rfl, b'⟩
          exact ⟨rfl, b1.out.trans (b'.mono b1.out.size)⟩)
        clear hP hfl hrk
        go_wp2_with (go_at_call 21; ((with_reducible refine KA.out.mono ?_); rintro e w5 ⟨rfl, b5⟩; have B5 := Lib.hid b5; clear b5 KA))
        go_roundw
        case rel => exact ⟨i + 1, m, by go_num, by omega, by omega, Lib.hid ⟨X1, LS.out.after (B5.out.alloc B5.out.size _)⟩, Lib.hid ((hb.out.trans (B5.out.mono hb.out.size)).alloc (Nat.le_trans hb.out.size B5.out.size) _)⟩
        case measure => simp [intOf]; omega
    · have hd : decide ((i : Int) < (y : Int)) = false := by simp; omega
      have c0 := LS.out.lg.cells.1
      have KN := Lib.hid (renew_any LS.out (by omega))
      obtain ⟨C, hC⟩ : ∃ C, 401 + 10 * m + 400 = C := ⟨_, rfl⟩
      have hC4 : C ≤ 2000 := by omega
      rw [hC] at KN
      clear hC LS hm
      go_wp2_with (go_at_call 22; ((with_reducible refine KN.out.mono ?_); rintro e w5 ⟨g2, h2, X2, rfl, l5, hg2, hh2, c5⟩; have L5 := Lib.hid l5; have B5 := Lib.hid (hb.out.trans (c5.below (fun j q => HF.out j (Or.inl q)) hb.out.size)); have HG2 := Lib.hid (Nat.le_trans hb.out.size hg2); have HH2 := Lib.hid (Nat.le_trans hb.out.size hh2); clear l5 hg2 hh2 c5 KN))
      have HF2 := Lib.hid (show ∀ j, a.log t d g2 h2 j → w.heap.size ≤ j from fun j q => by
        rcases q with q | rfl | rfl
        · exact HF.out j (Or.inl q)
        · exact HG2.out
        · exact HH2.out)
      have HCG := Lib.hid (show ∀ w', Below w5.heap.size w5 w' → w'.cell? ⟨g2, 0, none⟩ = some (.pointer (some ⟨d, 0, none⟩)) from fun w' hb => (L5.out.after hb).lg.cells.1)
      have KF : Hid (∀ W, Below w5.heap.size w5 W → Calls Tryz.prog 18 #[.pointer (some ⟨g2, 0, none⟩)] W fun e w' => e = .returned (.int .i64 10) ∧ Below W.heap.size W w') := Lib.hid (fun W hW => emp_freeC (L5.out.after hW))
      have KN : Hid (∀ W, Below w5.heap.size w5 W → Calls Tryz.prog 19 #[.pointer (some ⟨d, 0, none⟩)] W fun e w' => e = .returned (.int .i64 10) ∧ W = w') := Lib.hid (fun W hW => (L5.out.after hW).lg.dk.len)
      have KG := Lib.hid (fun (W : World) (hW : Below w5.heap.size w5 W) => emp_segs (L5.out.after hW))
      have KR := Lib.hid (fun (W : World) (hW : Below w5.heap.size w5 W) => emp_room (L5.out.after hW))
      have S0 : Below w5.heap.size w5 w5.drew := (Below.refl _ _).drew
      have FIN := Lib.hid (fun (W : World) (hW : Below w5.heap.size w5 W) => emp_append (L5.out.after hW) (by omega))
      have BF := Lib.hid (fun (W : World) (hW : Below w5.heap.size w5 W) => B5.out.trans (hW.mono B5.out.size))
      clear c0 hd hb L5 hlt hi
      refine wp_region_held_drew (S := (fun w' => Below w5.heap.size w5 w')) (by kernel_rfl) S0 (fun _ => ?_)
      refine wpAnyH_take (i := 0) (v := .pointer (some ⟨g2, 0, none⟩)) rfl (by kernel_rfl) (by kernel_rfl) (by kernel_rfl) (fun _ _ _ h => h) (Or.inl ⟨by kernel_rfl, fun w _ => by go_simp⟩) S0 ?_
      refine wpAnyH_take (i := 1) (v := .bool false) rfl (by kernel_rfl) (by kernel_rfl) (by kernel_rfl) (fun _ _ _ h => h) (Or.inl ⟨by kernel_rfl, fun w _ => by go_simp⟩) S0 ?_
      refine wpAnyH_take (i := 2) (v := .bool false) rfl (by kernel_rfl) (by kernel_rfl) (by kernel_rfl) (fun _ _ _ h => h) (Or.inl ⟨by kernel_rfl, fun w _ => by go_simp⟩) S0 ?_
      refine wpAnyH_take (i := 3) (v := .int .i64 0) rfl (by kernel_rfl) (by kernel_rfl) (by kernel_rfl) (fun _ _ _ h => h) (Or.inl ⟨by kernel_rfl, fun w _ => by go_simp⟩) S0 ?_
      refine wpAnyH_take (i := 4) (v := .bool false) rfl (by kernel_rfl) (by kernel_rfl) (by kernel_rfl) (fun _ _ _ h => h) (Or.inl ⟨by kernel_rfl, fun w _ => by go_simp⟩) S0 ?_
      refine wpAnyH_take (i := 5) (v := .bool false) rfl (by kernel_rfl) (by kernel_rfl) (by kernel_rfl) (fun _ _ _ h => h) (Or.inl ⟨by kernel_rfl, fun w _ => by go_simp⟩) S0 ?_
      refine wpAnyH_take (i := 6) (v := .bool false) rfl (by kernel_rfl) (by kernel_rfl) (by kernel_rfl) (fun _ _ _ h => h) (Or.inl ⟨by kernel_rfl, fun w _ => by go_simp⟩) S0 ?_
      refine wpAnyH_take (i := 7) (v := .pointer (some ⟨g2, 0, none⟩)) rfl (by kernel_rfl) (by kernel_rfl) (by kernel_rfl) (fun _ _ _ h => h) (Or.inl ⟨by kernel_rfl, fun w _ => by go_simp⟩) S0 ?_
      refine wpAnyH_take (i := 9) (v := .pointer (some ⟨g2, 0, none⟩)) rfl (by kernel_rfl) (by kernel_rfl) (by kernel_rfl) (fun _ _ _ h => h) (Or.inl ⟨by kernel_rfl, fun w _ => by go_simp⟩) S0 ?_
      refine wpAnyH_take (i := 10) (v := .pointer (some ⟨g2, 0, none⟩)) rfl (by kernel_rfl) (by kernel_rfl) (by kernel_rfl) (fun _ _ _ h => h) (Or.inl ⟨by kernel_rfl, fun w _ => by go_simp⟩) S0 ?_
      refine wpAnyH_take (i := 11) (v := .pointer (some ⟨g2, 0, none⟩)) rfl (by kernel_rfl) (by kernel_rfl) (by kernel_rfl) (fun _ _ _ h => h) (Or.inl ⟨by kernel_rfl, fun w _ => by go_simp⟩) S0 ?_
      refine wpAnyH_take (i := 12) (v := .pointer (some ⟨d, 0, none⟩)) rfl (by kernel_rfl) (by kernel_rfl) (by kernel_rfl) (fun _ _ _ h => h) (yields_one (ty := 29) (fun w => by kernel_rfl) (.tmp 60) (by kernel_rfl) (by kernel_rfl) (by kernel_rfl) HCG.out) S0 ?_
      refine wpAnyH_ready (rs := [8]) (by kernel_rfl) (by simp) (AllReadyH.cons rfl (fun K hK => ?_) AllReadyH.nil)
      · go_simp
        ((with_reducible refine (KF.out _ S0).mono ?_); rintro e w6 ⟨rfl, b6'⟩)
        have S6' : Below w5.heap.size w5 w6 := S0.trans (b6'.mono S0.size)
        refine hK.out _ _ S6' (fun _ => ?_)
        clear hK K b6'
        refine wpAnyH_ready (rs := [13]) (by kernel_rfl) (by simp) (AllReadyH.cons rfl (fun K hK => ?_) AllReadyH.nil)
        go_simp
        ((with_reducible refine (KN.out _ S6').mono ?_); rintro e w6' ⟨rfl, rfl⟩)
        have S6 := S6'
        refine hK.out _ _ S6 (fun _ => ?_)
        clear hK K S6'
        refine wpAnyH_take (i := 14) (v := .bool false) rfl (by kernel_rfl) (by kernel_rfl) (by kernel_rfl) (fun _ _ _ h => h) (Or.inl ⟨by kernel_rfl, fun w _ => by go_simp⟩) S6 ?_
        refine wpAnyH_take (i := 15) (v := .bool false) rfl (by kernel_rfl) (by kernel_rfl) (by kernel_rfl) (fun _ _ _ h => h) (Or.inl ⟨by kernel_rfl, fun w _ => by go_simp⟩) S6 ?_
        refine wpAnyH_take (i := 16) (v := .bool false) rfl (by kernel_rfl) (by kernel_rfl) (by kernel_rfl) (fun _ _ _ h => h) (Or.inl ⟨by kernel_rfl, fun w _ => by go_simp⟩) S6 ?_
        refine wpAnyH_take (i := 17) (v := .pointer (some ⟨g2, 0, none⟩)) rfl (by kernel_rfl) (by kernel_rfl) (by kernel_rfl) (fun _ _ _ h => h) (Or.inl ⟨by kernel_rfl, fun w _ => by go_simp⟩) S6 ?_
        refine wpAnyH_ready (rs := [18]) (by kernel_rfl) (by simp) (AllReadyH.cons rfl (fun K hK => ?_) AllReadyH.nil)
        go_simp
        ((with_reducible refine (KG.out _ S6).mono ?_); rintro e w7 ⟨A7, c7, rfl, b7'⟩)
        have S7 : Below w5.heap.size w5 w7 := S6.trans (b7'.mono S6.size)
        refine hK.out _ _ S7 (fun _ => ?_)
        clear hK K b7' KG
        refine wpAnyH_take (i := 19) (v := .int .i64 0) rfl (by kernel_rfl) (by kernel_rfl) (by kernel_rfl) (fun _ _ _ h => h) (Or.inl ⟨by kernel_rfl, fun w _ => by go_simp⟩) S7 ?_
        refine wpAnyH_take (i := 20) (v := .bool false) rfl (by kernel_rfl) (by kernel_rfl) (by kernel_rfl) (fun _ _ _ h => h) (Or.inl ⟨by kernel_rfl, fun w _ => by go_simp⟩) S7 ?_
        refine wpAnyH_take (i := 21) (v := .bool false) rfl (by kernel_rfl) (by kernel_rfl) (by kernel_rfl) (fun _ _ _ h => h) (Or.inl ⟨by kernel_rfl, fun w _ => by go_simp⟩) S7 ?_
        refine wpAnyH_take (i := 22) (v := .bool false) rfl (by kernel_rfl) (by kernel_rfl) (by kernel_rfl) (fun _ _ _ h => h) (Or.inl ⟨by kernel_rfl, fun w _ => by go_simp⟩) S7 ?_
        refine wpAnyH_take (i := 23) (v := .pointer (some ⟨g2, 0, none⟩)) rfl (by kernel_rfl) (by kernel_rfl) (by kernel_rfl) (fun _ _ _ h => h) (Or.inl ⟨by kernel_rfl, fun w _ => by go_simp⟩) S7 ?_
        refine wpAnyH_ready (rs := [24]) (by kernel_rfl) (by simp) (AllReadyH.cons rfl (fun K hK => ?_) AllReadyH.nil)
        go_simp
        ((with_reducible refine (KR.out _ S7).mono ?_); rintro e w8 ⟨rfl, b8'⟩)
        have S8 : Below w5.heap.size w5 w8 := S7.trans (b8'.mono S7.size)
        refine hK.out _ _ S8 (fun _ => ?_)
        clear hK K b8' KR
        refine wpAnyH_take (i := 25) (v := .bool false) rfl (by kernel_rfl) (by kernel_rfl) (by kernel_rfl) (fun _ _ _ h => h) (Or.inl ⟨by kernel_rfl, fun w _ => by go_simp⟩) S8 ?_
        refine wpAnyH_take (i := 26) (v := .bool false) rfl (by kernel_rfl) (by kernel_rfl) (by kernel_rfl) (fun _ _ _ h => h) (Or.inl ⟨by kernel_rfl, fun w _ => by go_simp⟩) S8 ?_
        refine wpAnyH_done (by kernel_rfl) ?_ _
        have KA := Lib.hid (FIN.out w8 S8)
        have B8 := Lib.hid (BF.out w8 S8)
        clear FIN BF KF KN S0 S6 S7 S8 HCG
        go_wp2_with (first
          | (go_at_call 21; ((with_reducible refine KA.out.mono ?_); rintro e w10 ⟨rfl, X3, l10, c10⟩; have L10 := Lib.hid l10; have B10 := Lib.hid (B8.out.trans (c10.below HF2.out B8.out.size)); have R10 := Lib.hid (show Blk (w10.alloc (.cells #[.int .i64 0, .int .i64 2] 44)) w10.heap.size 44 (plc 0 2) from Blk.new w10 44 (plc 0 2)); have A10 := Lib.hid ((Below.refl w10.heap.size w10).alloc (Nat.le_refl _) (.cells #[.int .i64 0, .int .i64 2] 44)); have K11 := Lib.hid (seg_one (L10.out.after A10.out).lg L10.out.o.ord (emp1_at (by omega)) rfl); clear KA l10 c10))
          | (go_at_call 13; ((with_reducible refine K11.out.mono ?_); rintro e w11 ⟨q, cq, E, r, rfl, hQ, b11⟩; have A11 := Lib.hid (A10.out.trans (b11.mono A10.out.size)); have Q11 := Lib.hid hQ; have R11 := Lib.hid (R10.out.below b11 R10.out.lt); have cg := (L10.out.after A11.out).lg.cells.1; have cd := (L10.out.after A11.out).lg.dk.count.1; have K12 := Lib.hid (again8_any (L10.out.after A11.out).lg.dk (emp1_length _) L10.out.o L10.out.has); clear K11 hQ b11))
          | (go_at_call 20; ((with_reducible refine K12.out.mono ?_); rintro e w12 ⟨g3, h3, d3, t3, rfl, l12, b12⟩; have A12 := Lib.hid (A11.out.trans (b12.mono A11.out.size)); have L12 := Lib.hid l12; have c11 : w12.cell? ⟨w10.heap.size, 1, none⟩ = some (.int .i64 2) := (R11.out.below b12 R11.out.lt).cell 1; have cq2 : w12.cell? ⟨q, 2, none⟩ = some (.int .u64 2) := (Q11.out.below b12 Q11.out.lt).cell 2; have K13 := Lib.hid (fun (W : World) (hW : Below w12.heap.size w12 W) => seg_one (L12.out.after hW) (L10.out.o.opened).ord (b := (LB.mk 2 false true 1 3 [(40, [])]).opened) (by rw [List.getElem?_map, emp1_at (by omega)]; rfl) rfl); have K14 := Lib.hid (K13.out w12 (Below.refl _ _)); clear K12 l12 b12))
          | (go_at_call 13; ((with_reducible refine K14.out.mono ?_); rintro e w13 ⟨q3, c3, E3, r3, rfl, hQ3, b13⟩; have S13 := Lib.hid b13; have K15 := Lib.hid (K13.out w13 b13); clear K14 K13 hQ3 b13))
          | (go_at_call 13; ((with_reducible refine K15.out.mono ?_); rintro e w14 ⟨q4, c4, E4, r4, rfl, hQ4, b14⟩; have A14 := Lib.hid (A12.out.trans ((S13.out.trans (b14.mono S13.out.size)).mono A12.out.size)); have cq4 : w14.cell? ⟨q4, 2, none⟩ = some (.int .u64 2) := hQ4.cell 2; clear K15 hQ4 b14)))
        go_ret
        exact ⟨rfl, B10.out.trans (A14.out.mono B10.out.size)⟩
end Go.Proofs.YtfomeifnoaojhaaGreatDoor

