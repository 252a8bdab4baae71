/- The walk of LogMends: it answers true, and changes nothing that was there. Condition: the table of the check sum holds its sixteen numbers. -/
import Derived.Test.YtjagonoicaelmaaGreatDoorQLogH
namespace Go.Proofs.YtjagonoicaelmaaGreatDoor
open Go.RowKit
theorem leastTo_congr {Bs Cs : List LB} : ∀ k, (∀ x, x < k → segAt Bs x = segAt Cs x ∧ wearAt Bs x = wearAt Cs x) → leastTo Bs k = leastTo Cs k
  | 0, _ => rfl
  | k + 1, h => by
    have ih := leastTo_congr (Bs := Bs) (Cs := Cs) k (fun x hx => h x (by omega))
    rw [leastTo_succ, leastTo_succ, ih, (h k (Nat.lt_succ_self _)).1]
    split
    · rfl
    · cases hl : leastTo Cs k with
      | none => rfl
      | some x =>
        have := (leastTo_some k x hl).1
        simp only
        rw [(h x (by omega)).2, (h k (Nat.lt_succ_self _)).2]
/-- a log of at most four records, shut: the block 1 is begun next -/
theorem mend_least {y : Nat} (hy : y < 4) {b : LB} (hb : (fillB (16 - 6) mendF (y + 1))[0]? = some b) : leastTo ((fillB (16 - 6) mendF (y + 1)).set 0 { b with next := 8 }) (16 - 6) = some 1 := by
  have h0 : b.seg = true := by
    have := fill_seg (M := 16 - 6) mendF (y + 1) (y := 0) (by omega)
    rw [segAt_get hb] at this
    rw [this, decide_eq_true (by omega)]
  have hw : b.wear = 1 := by
    have := fill_wear (M := 16 - 6) mendF (y + 1) (y := 0) (by omega)
    rwa [wearAt_get hb] at this
  have hl : (0 : Nat) < (fillB (16 - 6) mendF (y + 1)).length := by rw [fillB_length]; omega
  have := fill_least (M := 16 - 6) mendF (n := 6) (by omega) (16 - 6) (Nat.le_refl _)
  rw [if_neg (by omega)] at this
  rw [leastTo_congr (Cs := fillB (16 - 6) mendF 6) (16 - 6) (fun x hx => ?_), this]
  refine ⟨?_, ?_⟩
  · rw [segAt_set hl, fill_seg mendF 6 hx]
    by_cases e : x = 0
    · subst e
      rw [if_pos rfl, decide_eq_true (by omega)]
      exact h0
    · rw [if_neg e, fill_seg mendF (y + 1) hx, decide_eq_false (by omega), decide_eq_false (by omega)]
  · rw [fill_wear mendF 6 hx]
    by_cases e : x = 0
    · subst e
      rw [wearAt_get (b := { b with next := 8 }) (by rw [List.getElem?_set_self hl])]
      exact hw
    · have : ((fillB (16 - 6) mendF (y + 1)).set 0 { b with next := 8 })[x]? = (fillB (16 - 6) mendF (y + 1))[x]? := List.getElem?_set_ne (by omega)
      have e2 := fill_wear (M := 16 - 6) mendF (y + 1) hx
      unfold wearAt at e2 ⊢
      rw [this]
      exact e2
set_option maxRecDepth 100000 in
set_option maxHeartbeats 16000000 in
theorem logMends_any (n : Int) (vb : Value) (w : World) (ht : Tab w) (_ : (Lit.int .i64 n).wf = true) (hz : ∃ zs, Nums w w.heap.size .i64 vb zs) :
    Calls Tryz.prog 6 #[.int .i64 n, vb] w fun e w' => e = .returned (.bool true) ∧ Below w.heap.size w w' := by
  obtain ⟨zs, hv⟩ := hz
  obtain ⟨A, cap, rfl, _, _, _, _⟩ := id hv
  have HV := Lib.hid hv
  have KS := Lib.hid (speaks8_any w ht)
  have KL : Hid (∀ W, Below w.heap.size w W → Calls Tryz.prog 11 #[.int .i64 16] W fun er w' => ∃ g h d t a X, er = .returned (.pointer (some ⟨g, 0, none⟩)) ∧ Begun8 W w' g h d t a X 16) := Lib.hid (fun (W : World) (hW : Below w.heap.size w W) => laid8_any 16 (by omega) W (ht.below hW ht.lt))
  obtain ⟨y, hy, hy4⟩ := and_3m n
  clear ht hv
  by_cases hl : 20 < zs.length
  · have d1 : decide ((20 : Int) < (zs.length : Int)) = true := by simp; omega
    go_enter Tryz.func6, Tryz.ntmps6
    go_wp2_with (go_at_call 9; ((with_reducible refine KS.out.mono ?_); rintro e w1 ⟨rfl, b1⟩; have B1 := Lib.hid b1; clear KS b1))
    go_ret
    exact ⟨rfl, B1.out⟩
  have d1 : decide ((20 : Int) < (zs.length : Int)) = false := by simp; omega
  have HL20 := Lib.hid hl
  clear hl
  go_enter Tryz.func6, Tryz.ntmps6
  go_wp2_with (go_at_call 9; ((with_reducible refine KS.out.mono ?_); rintro e w1 ⟨rfl, b1⟩; have B1 := Lib.hid b1; have K1 := Lib.hid (KL.out w1 b1); clear KS KL b1))
  go_wp2_with (go_at_call 11; ((with_reducible refine K1.out.mono ?_); rintro e w2 ⟨g, h, d, t, a, X, rfl, hB⟩; have HL1 := Lib.hid (hB.log mendF); have HM := Lib.hid hB.told; have HF := Lib.hid (show ∀ j, a.log t d g h j → w.heap.size ≤ j from fun j hj => Nat.le_trans B1.out.size (hB.far j hj)); have HB1 := Lib.hid (B1.out.trans (hB.below.mono B1.out.size)); clear hB K1))
  clear B1
  go_loopw [6, 7, 8] (fun vi _ _ wr => ∃ i : Nat, vi = .int .i64 (i : Int) ∧ i ≤ y + 1 ∧ Hid (∃ X, LogS wr g h d t a X 16 (401 + 10 * i) (fillB (16 - 6) mendF i) (fillO i) (fillN i)) ∧ Hid (Below w.heap.size w wr)) (fun vi _ _ _ => y + 1 - (intOf vi).toNat)
  case atStart => exact ⟨0, rfl, by omega, Lib.hid ⟨X, HL1.out⟩, HB1⟩
  case round =>
    obtain ⟨i, rfl, hi, HX, hb⟩ := hrel
    obtain ⟨X1, hl⟩ := HX.out
    have LS := Lib.hid hl
    clear HX hl HL1 HB1
    by_cases hlt : i < y + 1
    · have ew := wrap_u8n (k := i) (by omega)
      obtain ⟨b, hbb⟩ : ∃ b, UInt8.ofNat i = b := ⟨_, rfl⟩
      rw [hbb] at ew
      obtain ⟨Ls, hP, hfl⟩ := one_part wr b
      have b1 := Lib.hid (((Below.refl wr.heap.size wr).alloc (Nat.le_refl _) (.cells #[.int .u8 ((b.toNat : Nat) : Int)] 5 (0, 0))).alloc (by simp) (.cells #[.slice (some ⟨wr.heap.size, 0, none⟩) 1 1] 64))
      have KA : Hid (Calls Tryz.prog 21 #[.pointer (some ⟨g, 0, none⟩), .int .u8 30, .slice (some ⟨wr.heap.size + 1, 0, none⟩) 1 1] ((wr.alloc (.cells #[.int .u8 ((b.toNat : Nat) : Int)] 5 (0, 0))).alloc (.cells #[.slice (some ⟨wr.heap.size, 0, none⟩) 1 1] 64)) fun e w' => e = .returned (.tuple #[.agg (plc (i / 6) (2 + i % 6)).toArray, .int .i64 0]) ∧ ∃ X', LogS w' g h d t a X' 16 (401 + 10 * i + 10) (fillB (16 - 6) mendF (i + 1)) (fillO (i + 1)) (fillN (i + 1)) ∧ Chg ((wr.alloc (.cells #[.int .u8 ((b.toNat : Nat) : Int)] 5 (0, 0))).alloc (.cells #[.slice (some ⟨wr.heap.size, 0, none⟩) 1 1] 64)) w' (a.log t d g h)) :=
        Lib.hid (fill_any (LS.out.after b1.out) (by omega) (by omega) 30 _ Ls (wr.heap.size + 2) (by simp) hP (by rw [hfl]; exact rec_one (by decide) (by decide) (by decide) (by decide) (by decide) (by simp)) (by rw [hfl, ← hbb]; rfl))
      obtain ⟨pg, hpg⟩ : ∃ pg, 2 + i % 6 = pg := ⟨_, rfl⟩
      obtain ⟨px, hpx⟩ : ∃ px, i / 6 = px := ⟨_, rfl⟩
      have HPV := Lib.hid (show (plc px pg).toArray = #[.int .i64 (px : Int), .int .i64 (pg : Int)] from rfl)
      rw [hpg, hpx, HPV.out] at KA
      clear hP hfl hbb hpg hpx
      go_wp2_with (go_at_call 21; ((with_reducible refine KA.out.mono ?_); rintro e w5 ⟨rfl, X', l5, c5⟩; have L5 := Lib.hid l5; have B5 := Lib.hid ((hb.out.trans (b1.out.mono hb.out.size)).trans (c5.below HF.out (Nat.le_trans hb.out.size b1.out.size))); clear l5 c5 KA))
      go_roundw
      case rel => exact ⟨i + 1, by go_num, by omega, Lib.hid ⟨X', (L5.out.after (by first | exact (Below.refl _ _).alloc (Nat.le_refl _) _)).more (by omega)⟩, Lib.hid (B5.out.alloc B5.out.size _)⟩
      case measure => simp [intOf]; omega
    · have hiy : i = y + 1 := by omega
      have hni : ¬ (i : Int) < 1 + (y : Int) := by omega
      clear hi hlt
      have HIY := Lib.hid hiy
      have ho : fillO i = [0] := by rw [hiy]; unfold fillO fillN; rw [show (y + 1 + 5) / 6 = 1 by omega]; rfl
      have hnn : fillN i = 1 := by rw [hiy]; unfold fillN; omega
      have LS1 : Hid (LogS wr g h d t a X1 16 500 (fillB (16 - 6) mendF i) [0] 1) := Lib.hid (by
        have := LS.out
        rw [ho, hnn] at this
        exact this.more (by omega))
      clear LS ho hnn
      obtain ⟨b0, hb0⟩ : ∃ b0, fblk mendF i 0 = b0 := ⟨_, rfl⟩
      have hget : (fillB (16 - 6) mendF i)[0]? = some b0 := by rw [fillB_get mendF i (by omega), hb0]
      have hseg : b0.seg = true := by rw [← hb0, fblk_seg (by omega)]
      have hplen : b0.pages.length = y + 3 := by
        rw [pages_len_seg hseg, ← hb0, fblk_seg (by omega)]
        simp only [List.length_map, List.length_range]
        omega
      obtain ⟨Bs, hBs⟩ : ∃ Bs, fillB (16 - 6) mendF i = Bs := ⟨_, rfl⟩
      have HLE := Lib.hid (show leastTo (Bs.set 0 { b0 with next := 8 }) (16 - 6) = some 1 by rw [← hBs, hiy]; exact mend_least hy4 (by rw [← hiy, hget]))
      have HS1 := Lib.hid (show (Bs.set 0 { b0 with next := 8 })[1]? = some (LB.fresh 1) by rw [List.getElem?_set_ne (by omega), ← hBs, fillB_get mendF i (by omega), fblk_free (by omega)])
      have HN1 := Lib.hid (show isSegM Bs 1 = false by
        unfold isSegM
        rw [← hBs]
        have := fill_seg (M := 16 - 6) mendF i (y := 1) (by omega)
        rw [decide_eq_false (by omega)] at this
        simp [this])
      rw [hBs] at LS1 hget
      have HG := Lib.hid hget
      have HSG := Lib.hid hseg
      have HPL := Lib.hid hplen
      have KSG := Lib.hid (seg_zero LS1.out.lg LS1.out.o.ord)
      have hexact : Hid (∀ j, j < y + 3 → (X1.blk 0).pg.getD j [] = b0.pages.getD j []) := Lib.hid (fun j hj => LS1.out.exact HM.out (by omega) hget (by rw [hplen]; exact hj))
      clear hb0 hBs hiy hget hseg hplen
      go_wp2_with (go_at_call 13; ((with_reducible refine KSG.out.mono ?_); rintro e w5 ⟨q5, c5, r5, rfl, hB5, b5⟩; have x5 := hB5.cell 0; simp only [List.getElem?_cons_zero] at x5; have L5 := Lib.hid (LS1.out.after b5); have B5 := Lib.hid (hb.out.trans (b5.mono hb.out.size)); clear KSG b5 hB5 LS1 hb))
      go_loopw [11, 12, 13, 54] (fun wv _ _ vi wr => ∃ k m : Nat, vi = .int .i64 (k : Int) ∧ k ≤ zs.length ∧ wv = .int .i64 (m : Int) ∧ m ≤ k ∧ Hid (∃ X, LogS wr g h d t a X 16 1000 Bs [0] 1 ∧ mendS (fun j => (X.blk 0).pg.getD j []) (min k 8) = m ∧ ∀ j, k ≤ j → j < y + 3 → (X.blk 0).pg.getD j [] = b0.pages.getD j []) ∧ Hid (Below w.heap.size w wr)) (fun _ _ _ vi _ => zs.length - (intOf vi).toNat)
      case atStart => exact ⟨0, 0, rfl, Nat.zero_le _, rfl, Nat.zero_le _, Lib.hid ⟨X1, L5.out.more (by omega), rfl, fun j _ hj => hexact.out j hj⟩, B5⟩
      case round =>
        obtain ⟨k, m, rfl, hk, rfl, hm, HX, hb⟩ := hrel
        obtain ⟨X2, hl2, hm2, hex2⟩ := HX.out
        have L2 := Lib.hid hl2
        have HM2 := Lib.hid hm2
        have HE2 := Lib.hid hex2
        clear HX hl2 hm2 hex2 L5 B5 hexact x5
        have hk20 : zs.length ≤ 20 := by have := HL20.out; omega
        by_cases hlt : k < zs.length
        · obtain ⟨p, rfl, z, hcell⟩ := nums_at HV.out hlt hb.out
          obtain ⟨xn, hxn⟩ := and_65535d z
          by_cases hin : k < y + 3 ∧ xn < 2061
          · obtain ⟨h1, h2⟩ := hin
            have KF : Hid (Calls Tryz.prog 24 #[.pointer (some ⟨a.c, 0, none⟩), .int .i64 2, .int .i64 (k : Int), .int .i64 (xn : Int)] wr fun er w' => er = .returned (.int .i64 0) ∧ ∃ X', LogS w' g h d t a X' 16 1000 Bs [0] 1 ∧ (∀ i, (X'.blk 0).pg.getD i [] = if i = k then NM.fl ((X2.blk 0).pg.getD k []) xn else (X2.blk 0).pg.getD i []) ∧ Chg wr w' (a.disk t d)) := Lib.hid (L2.out.flip8 HM.out (Nat.le_refl _) HG.out (by rw [HPL.out]; exact h1) (by omega) (HE2.out k (Nat.le_refl _) h1))
            have HNX := Lib.hid (fun (X' : DS) (hp : ∀ i, (X'.blk 0).pg.getD i [] = if i = k then NM.fl ((X2.blk 0).pg.getD k []) xn else (X2.blk 0).pg.getD i []) => show mendS (fun j => (X'.blk 0).pg.getD j []) (min (k + 1) 8) = m + 1 ∧ ∀ j, k + 1 ≤ j → j < y + 3 → (X'.blk 0).pg.getD j [] = b0.pages.getD j [] from by
              have hrec := (L2.out.o.ok b0 (get_mem HG.out)).isRec _ (getD_mem (show k < b0.pages.length by rw [HPL.out]; exact h1))
              refine ⟨?_, fun j hj1 hj2 => by rw [hp j, if_neg (by omega)]; exact HE2.out j (by omega) hj2⟩
              have e1 : min (k + 1) 8 = k + 1 := by omega
              have e2 : min k 8 = k := by omega
              have h0 := HM2.out
              rw [e2] at h0
              rw [e1]
              show mendS (fun j => (X'.blk 0).pg.getD j []) k + (FM.readM ((X'.blk 0).pg.getD k [])).2.2.1 = m + 1
              rw [mendS_congr (q := fun j => (X2.blk 0).pg.getD j []) k (fun j hj => by show (X'.blk 0).pg.getD j [] = _; rw [hp j, if_neg (by omega)]), h0, hp k, if_pos rfl, HE2.out k (Nat.le_refl _) h1, mended_fl hrec (by omega)])
            have c0 := L2.out.lg.cells.1
            have c1 := L2.out.lg.dk.count.1
            have h1i : (k : Int) < 3 + (y : Int) := by omega
            have h2i : (xn : Int) < 2061 := by omega
            have HFB := Lib.hid (show ∀ w', Chg wr w' (a.disk t d) → Below w.heap.size w w' from fun w' c => hb.out.trans (c.below (fun j q => HF.out j (Or.inl q)) hb.out.size))
            clear h1 h2
            go_wp2_with (go_at_call 24; ((with_reducible refine KF.out.mono ?_); rintro e w6 ⟨rfl, X', l6, hp6, c6⟩; have L6 := Lib.hid l6; have N6 := Lib.hid (HNX.out X' hp6); have B6 := Lib.hid (HFB.out _ c6); clear l6 hp6 c6 KF))
            go_roundw
            case rel => exact ⟨k + 1, m + 1, by go_num, by omega, by go_num, by omega, Lib.hid ⟨X', L6.out, N6.out.1, N6.out.2⟩, B6⟩
            case measure => simp [intOf]; omega
          · have HNX := Lib.hid (show mendS (fun j => (X2.blk 0).pg.getD j []) (min (k + 1) 8) = m from by
              by_cases h8 : k < 8
              · have e1 : min (k + 1) 8 = k + 1 := by omega
                have e2 : min k 8 = k := by omega
                have h0 := HM2.out
                rw [e2] at h0
                rw [e1]
                show mendS (fun j => (X2.blk 0).pg.getD j []) k + (FM.readM ((X2.blk 0).pg.getD k [])).2.2.1 = m
                rw [h0]
                by_cases h3 : k < y + 3
                · rw [HE2.out k (Nat.le_refl _) h3, mended_rec ((L2.out.o.ok b0 (get_mem HG.out)).isRec _ (getD_mem (show k < b0.pages.length by rw [HPL.out]; exact h3)))]
                  rfl
                · rw [(L2.out.has 0 b0 HG.out).ff k (by rw [HPL.out]; omega) h8, ff_read]
                  rfl
              · rw [show min (k + 1) 8 = min k 8 by omega]
                exact HM2.out)
            have HE3 := Lib.hid (show ∀ j, k + 1 ≤ j → j < y + 3 → (X2.blk 0).pg.getD j [] = b0.pages.getD j [] from fun j h1 h2 => HE2.out j (by omega) h2)
            by_cases h3 : k < y + 3
            · have h1i : (k : Int) < 3 + (y : Int) := by omega
              have h2i : ¬ (xn : Int) < 2061 := by omega
              clear hin
              go_wp2
              go_roundw
              case rel => exact ⟨k + 1, m, by go_num, by omega, rfl, by omega, Lib.hid ⟨X2, L2.out, HNX.out, HE3.out⟩, hb⟩
              case measure => simp [intOf]; omega
            · have h1i : ¬ (k : Int) < 3 + (y : Int) := by omega
              clear hin
              go_wp2
              go_roundw
              case rel => exact ⟨k + 1, m, by go_num, by omega, rfl, by omega, Lib.hid ⟨X2, L2.out, HNX.out, HE3.out⟩, hb⟩
              case measure => simp [intOf]; omega
        · have hkz : k = zs.length := by omega
          have hff : ∀ j, y + 3 ≤ j → j < 8 → (X2.blk 0).pg.getD j [] = NM.ff := fun j h1 h2 => (L2.out.has 0 b0 HG.out).ff j (by rw [HPL.out]; exact h1) h2
          have hms : mendS (fun j => (X2.blk 0).pg.getD j []) 8 = m := by
            rw [mendS_rest 8 (k := min k 8) (by omega) (fun j h1 h2 => ?_), HM2.out]
            by_cases h3 : j < y + 3
            · rw [HE2.out j (by omega) h3, mended_rec ((L2.out.o.ok b0 (get_mem HG.out)).isRec _ (getD_mem (show j < b0.pages.length by rw [HPL.out]; exact h3)))]
            · rw [hff j (by omega) h2, ff_read]
          have KM0 : Hid (Calls Tryz.prog 25 #[.pointer (some ⟨g, 0, none⟩), .int .i64 0] wr fun e w' => e = .returned (.tuple #[.int .i64 (m : Int), .int .i64 0]) ∧ Below wr.heap.size wr w') := Lib.hid (by
            have := mend8_any L2.out.lg HG.out HSG.out (fun j hj => mended_one (L2.out.o.ok b0 (get_mem HG.out)) (L2.out.has 0 b0 HG.out) j hj)
            rw [hms] at this
            exact this)
          have KM1 := Lib.hid (fun (w' : World) (hl : LogS w' g h d t a X2 16 1000 Bs [0] 1) => mend8_no hl.lg (x := 1) HN1.out)
          have KSH := Lib.hid (fun (w' : World) (hl : LogS w' g h d t a X2 16 1000 Bs [0] 1) => hl.shut8 (x := 0) rfl HG.out HSG.out)
          have KAP : Hid (∀ (w' : World), LogS w' g h d t a X2 16 1000 (Bs.set 0 { b0 with next := 8 }) [0] 1 → Calls Tryz.prog 21 #[.pointer (some ⟨g, 0, none⟩), .int .u8 31, .slice none 0 0] w' fun e w2 => e = .returned (.tuple #[.agg #[.int .i64 1, .int .i64 2], .int .i64 0]) ∧ ∃ X' Bs', LogS w2 g h d t a X' 16 1010 Bs' [0, 1] 2 ∧ Chg w' w2 (a.log t d g h)) := Lib.hid (fun w' hl => by
            have hr : recOk ((31 : UInt8), ([] : List (List UInt8)).flatten) := rec_one (by decide) (by decide) (by decide) (by decide) (by decide) (by simp)
            have hself : (Bs.set 0 { b0 with next := 8 })[0]? = some { b0 with next := 8 } := by rw [List.getElem?_set_self (get_lt HG.out)]
            refine (append_new hl (fun w2 hl2 ho2 p => put_full hl2 ho2 (x := 0) rfl hself rfl p) HLE.out HS1.out (by omega) (by omega) 31 (.slice none 0 0) [] w'.heap.size (Nat.le_refl _) (Parts.nil 0) hr).mono ?_
            rintro e w2 ⟨rfl, X', l', c'⟩
            exact ⟨rfl, X', _, l', c'⟩)
          have HFB := Lib.hid (show ∀ u w', Below w.heap.size w u → Chg u w' (a.log t d g h) → Below w.heap.size w w' from fun u w' hu c => hu.trans (c.below HF.out hu.size))
          have HFH := Lib.hid (show ∀ u w', Below w.heap.size w u → Chg u w' (fun j => j = h) → Below w.heap.size w w' from fun u w' hu c => hu.trans (c.below (fun j q => by subst q; exact HF.out _ (Or.inr (Or.inr rfl))) hu.size))
          have hmk : (m : Int) ≤ 20 := by omega
          have hle : zs.length ≤ k := by omega
          clear hms hff HM2 HE2 hk hlt hkz hm
          go_wp2_with (first
            | (go_at_call 25; ((with_reducible refine KM0.out.mono ?_); rintro e w6 ⟨rfl, b6⟩; have L6 := Lib.hid (L2.out.after b6); have B6 := Lib.hid (hb.out.trans (b6.mono hb.out.size)); have K1 := Lib.hid (KM1.out w6 (L2.out.after b6)); have K2 := Lib.hid (KSH.out w6 (L2.out.after b6)); clear KM0 KM1 KSH b6))
            | (go_at_call 25; ((with_reducible refine K1.out.mono ?_); rintro e w7 ⟨rfl, rfl⟩; clear K1))
            | (go_at_call 26; ((with_reducible refine K2.out.mono ?_); rintro e w8 ⟨rfl, l8, c8⟩; have B8 := Lib.hid (HFH.out _ _ B6.out c8); have K3 := Lib.hid (KAP.out w8 l8); clear K2 l8 c8 KAP))
            | (go_at_call 21; ((with_reducible refine K3.out.mono ?_); rintro e w9 ⟨rfl, X9, Bs9, l9, c9⟩; have B9 := Lib.hid (HFB.out _ _ B8.out c9); have L9 := Lib.hid l9; have K4 := Lib.hid (segs_two (L9.out.after ((Below.refl w9.heap.size w9).alloc (Nat.le_refl _) (.cells #[.int .i64 1, .int .i64 2] 44))).lg L9.out.o.ord rfl); clear K3 l9 c9))
            | (go_at_call 13; ((with_reducible refine K4.out.mono ?_); rintro e w10 ⟨A10, c10, rfl, b10⟩; have B10 := Lib.hid ((B9.out.alloc B9.out.size (.cells #[.int .i64 1, .int .i64 2] 44)).trans (b10.mono (B9.out.alloc B9.out.size (.cells #[.int .i64 1, .int .i64 2] 44)).size)); clear K4 b10)))
          go_ret
          exact ⟨rfl, B10.out⟩
end Go.Proofs.YtjagonoicaelmaaGreatDoor

