/- The contracts of bbt's read and write: a table out of a page, and into one. Condition: the table of the check sum holds its sixteen numbers. -/
import Derived.Test.YtdiocjneakfdgaaGreatDoorQBbtA
import Derived.Test.YtdiocjneakfdgaaGreatDoorQFrame
import Derived.Test.YtdiocjneakfdgaaGreatDoorQCore
namespace Go.Proofs.YtdiocjneakfdgaaGreatDoor
open Go.RowKit
theorem readM_short (L : List UInt8) : (FM.readM L).2.1.length ≤ 255 := by
  unfold FM.readM
  split
  · simp
  · split
    · simp
    · split
      · simp
      · unfold FM.openM
        split
        · simp
        · split
          · split
            · have := ((HM.fixM (L.take 256) (FM.chk L)).1.getD 1 0).toNat_lt
              simp only [List.length_take]
              omega
            · simp
          · simp
/-- the table in a page, of a chip of n blocks: its number and its layout -/
def tableOf (n : Nat) (L : List UInt8) : Option (Nat × Lay) :=
  if (FM.readM L).2.2.2 = 0 ∧ (FM.readM L).1 = 1 then (Lay.parse n ((FM.readM L).2.1.drop 8)).map fun l => (le ((FM.readM L).2.1.take 8), l) else none
/-- eight bytes are read, or there are too few -/
theorem rnum8 (g h : Nat) (l : List UInt8) (bad : Bool) (w : World) (hr : Rd w g h l bad) :
    Calls Tryz.prog 69 #[.pointer (some ⟨g, 0, none⟩), .int .i64 8] w fun e w' => e = .returned (.int .u64 (((if 8 ≤ l.length then le (l.take 8) else 0 : Nat) : Nat) : Int)) ∧ (∃ bad', Rd w' g h (l.drop 8) bad') ∧ w.grownBy w' (some g) := by
  have e1 : wid 8 = 8 := rfl
  by_cases hl : 8 ≤ l.length
  · refine (rnum_yes g h l bad 8 w hr (by rw [e1]; exact hl)).mono ?_
    rintro e w' ⟨rfl, h1, h2⟩
    rw [e1] at h1 ⊢
    rw [if_pos hl]
    exact ⟨rfl, ⟨_, h1⟩, h2⟩
  · refine (rnum_no g h l bad 8 w hr (by rw [e1]; omega)).mono ?_
    rintro e w' ⟨rfl, h1, h2⟩
    rw [if_neg hl, List.drop_eq_nil_of_le (by omega)]
    exact ⟨rfl, ⟨_, h1⟩, h2⟩
theorem parse_nil {n : Nat} (h : 16 ≤ n) : Lay.parse n [] = none := by
  unfold Lay.parse
  rw [if_neg (by show ¬ ((0 : UInt8).toNat = n); simp; omega)]
theorem takeLost_ok : ∀ (bs : List UInt8) (l : Lay), l.ok → ∀ x, Lay.takeLost l bs = some x → x.ok
  | [], l, h, x, e => by
    cases e
    exact h
  | b :: bs, l, h, x, e => by
    unfold Lay.takeLost at e
    split at e
    · exact takeLost_ok bs _ (Lay.setLost_ok h _) x e
    · cases e
theorem parse_ok {n : Nat} (h1 : 16 ≤ n) (h2 : n ≤ 40) {bs : List UInt8} {l : Lay} (h : Lay.parse n bs = some l) : l.ok := by
  unfold Lay.parse at h
  split at h
  · obtain ⟨x, hx, hy⟩ := Option.bind_eq_some_iff.1 h
    exact takeLost_ok _ _ (takeAt_ok _ _ _ _ (Lay.of_ok h1 h2) x hx) l hy
  · cases h
theorem pbox (w : World) {L : List UInt8} (hL : L.length = 258) (o : Obj) : PArr ((w.alloc (.cells (cl L) 92)).alloc o) w.heap.size L := (PArr.new w hL).alloc _
theorem lay_ret3 {fn : Func} {p u v : Tmp} {w : World} {g : Nat} {t : TypeId} {vs : List Value} (h : fn.results = #[.tmp u, .cell p 123, .tmp v]) (tmps : Array Value) (hB : Blk w g t vs) (hn : vs.length = 75) (hp : tmps.getD p undef = .pointer (some ⟨g, 0, none⟩)) :
    (results fn tmps).run Tryz.prog w = .ok (.tuple #[tmps.getD u undef, .agg vs.toArray, tmps.getD v undef]) w := by
  have hp' : tmps[p]?.getD undef = .pointer (some ⟨g, 0, none⟩) := by simpa using hp
  simp [results, h, hp', asAddr, seg_load aggLay sizeLay hB (by rw [List.drop_zero, List.take_of_length_le (by omega)]) hn]
set_option maxRecDepth 100000 in
set_option maxHeartbeats 8000000 in
theorem tread_any (n : Nat) (hn1 : 16 ≤ n) (hn2 : n ≤ 40) (L : List UInt8) (hL : L.length = 258) (w : World) (ht : Tab w) :
    Calls Tryz.prog 111 #[.int .i64 (n : Int), .agg (cl L)] w fun e w' => ∃ z : Nat, e = .returned (.tuple #[.int .u64 (z : Int), .agg (((tableOf n L).map (·.2)).getD (Lay.of 0)).row.toArray, .bool (tableOf n L).isSome]) ∧ (∀ x, tableOf n L = some x → z = x.1) ∧ Below w.heap.size w w' := by
  have z := zeroLay
  have y0 := buildLay0
  have P0 := pbox w hL (.cells (Lay.of 0).row.toArray 123)
  have R0 : Blk ((w.alloc (.cells (cl L) 92)).alloc (.cells (Lay.of 0).row.toArray 123)) (w.heap.size + 1) 123 (Lay.of 0).row := by
    have := Blk.new (w.alloc (.cells (cl L) 92)) 123 (Lay.of 0).row
    rw [World.size_alloc] at this
    exact this
  have b0 : Below w.heap.size w ((w.alloc (.cells (cl L) 92)).alloc (.cells (Lay.of 0).row.toArray 123)) := ((Below.refl _ _).alloc (Nat.le_refl _) _).alloc (by simp) _
  have k1 := read_any L hL _ (ht.below b0 ht.lt)
  have hl0 : (Lay.of 0).row.length = 75 := rfl
  have HL0 := Lib.hid hl0
  have HR := Lib.hid R0
  have HB := Lib.hid b0
  have hbl := readM_short L
  obtain ⟨rk, hrk⟩ : ∃ rk, rk = (FM.readM L).1 := ⟨_, rfl⟩
  obtain ⟨rb, hrb⟩ : ∃ rb, rb = (FM.readM L).2.1 := ⟨_, rfl⟩
  obtain ⟨rm, hrm⟩ : ∃ rm, rm = (FM.readM L).2.2.1 := ⟨_, rfl⟩
  obtain ⟨re, hre⟩ : ∃ re, re = (FM.readM L).2.2.2 := ⟨_, rfl⟩
  have HT : Hid (tableOf n L = if re = 0 ∧ rk = 1 then (Lay.parse n (rb.drop 8)).map fun l => (le (rb.take 8), l) else none) := Lib.hid (by unfold tableOf; rw [← hrk, ← hrb, ← hre])
  rw [← hrk, ← hrb, ← hrm, ← hre] at k1
  rw [← hrb] at hbl
  have hs00 := segSet_all (hl0.trans hl0.symm)
  clear R0 b0 hrk hrb hrm hre hl0 ht
  go_enter Tryz.func111, Tryz.ntmps111
  go_wp2_with (with_reducible refine wpl_pload (.tmp 3) rfl rfl P0 rfl ?_)
  ((with_reducible refine k1.mono ?_); rintro e w1 ⟨vb, rfl, hvb, hb1⟩)
  have R1 := HR.out.after hb1
  have B1 : Hid (Below w.heap.size w w1) := Lib.hid (HB.out.trans (hb1.mono HB.out.size))
  have HVB := Lib.hid hvb
  clear HR HB hb1 k1 hvb P0
  by_cases hc : re = 0 ∧ rk = 1
  · obtain ⟨rfl, rfl⟩ := hc
    have HT1 := HT.out
    rw [if_pos ⟨rfl, rfl⟩] at HT1
    have HT2 := Lib.hid HT1
    clear HT HT1
    have k2 := newreader_any vb rb w1 HVB.out (by omega)
    have HR1 := Lib.hid R1
    have HBL := Lib.hid hbl
    clear R1 hbl
    go_wp2_with ((with_reducible refine k2.mono ?_); rintro e w2 ⟨g, q, rfl, Q2, hg, hq1, hq2, b2⟩)
    have R2 := Lib.hid (HR1.out.after b2)
    have B2 := Lib.hid (B1.out.trans (b2.mono B1.out.size))
    have k3 := rnum8 g q rb false w2 Q2
    obtain ⟨m, hm⟩ : ∃ m : Nat, m = if 8 ≤ rb.length then le (rb.take 8) else 0 := ⟨_, rfl⟩
    rw [← hm] at k3
    have HM := Lib.hid hm
    have HQ1 := Lib.hid hq1
    have HQ2 := Lib.hid hq2
    have HG : Hid (w.heap.size + 1 < g ∧ w.heap.size ≤ g) := Lib.hid (by have := HR1.out.lt; omega)
    clear k2 b2 Q2 hm B1 HR1 HVB hg hq1 hq2
    go_wp2_with ((with_reducible refine k3.mono ?_); rintro e w3 ⟨rfl, ⟨bad3, Q3⟩, g3⟩)
    have R3 := Lib.hid (R2.out.grown g3 (by have := HG.out.1; simp; omega))
    have B3 := Lib.hid (B2.out.grown g3 B2.out.size (fun k e => by cases e; exact HG.out.2))
    have k4 := parse_any n hn1 hn2 g q (rb.drop 8) bad3 w3 Q3 (by have := g3.size; have := HQ2.out; omega)
    obtain ⟨pr, hpr⟩ : ∃ pr, pr = Lay.parse n (rb.drop 8) := ⟨_, rfl⟩
    rw [← hpr] at k4
    have HP := Lib.hid hpr
    have HF := Lib.hid (hpr ▸ HT2.out)
    have hC4 : ∀ w4, Chg w3 w4 (fun k => k = g) → Blk w4 (w.heap.size + 1) 123 (Lay.of 0).row ∧ Below w.heap.size w w4 := fun w4 c => ⟨R3.out.chg c (by have := HG.out.1; omega), ⟨c.os.trans B3.out.os, c.tape.trans B3.out.tape, c.output.trans B3.out.output, Nat.le_trans B3.out.size c.size, fun k hk => (c.block k (Nat.lt_of_lt_of_le hk B3.out.size) (by have := HG.out.2; omega)).trans (B3.out.block k hk)⟩⟩
    have HC4 := Lib.hid hC4
    have hprl : (pr.getD (Lay.of 0)).row.length = 75 := by
      cases pr with
      | none => exact HL0.out
      | some l => exact Lay.row_length (parse_ok hn1 hn2 HP.out.symm)
    obtain ⟨rw', hrw⟩ : ∃ r, r = (pr.getD (Lay.of 0)).row := ⟨_, rfl⟩
    have h1' : ∀ v ∈ rw', v.oneCell' = true := by rw [hrw]; exact Lay.one _
    rw [← hrw] at k4 hprl
    obtain ⟨ok, hok⟩ : ∃ ok, ok = pr.isSome := ⟨_, rfl⟩
    rw [← hok] at k4
    have HRW := Lib.hid hrw
    have HOK := Lib.hid hok
    have HPL := Lib.hid hprl
    clear hpr k3 R2 B2 Q3 g3 hC4 hrw hok hprl
    go_wp2_with (first
      | ((with_reducible refine k4.mono ?_); rintro e w4 ⟨rfl, c4⟩; have L4 := Blk.new w4 123 (Lay.of 0).row; have hsA := segSet_all (HL0.out.trans HPL.out.symm))
      | (with_reducible refine wpl_seg_store sizeLay (.tmp 13) (.tmp 37) rfl rfl L4 0 rw' HPL.out (by rw [HL0.out]; exact Nat.le_refl _) h1' rfl rfl _ hsA ?_; intro w5 L5 g5 e5))
    have R5 := Lib.hid ((((HC4.out w4 c4).1).alloc (.cells (Lay.of 0).row.toArray 123)).grown g5 (by simp; have := (HC4.out w4 c4).1.lt; omega))
    have B5 : Hid (Below w.heap.size w w5) := Lib.hid (((HC4.out w4 c4).2.alloc (HC4.out w4 c4).2.size (.cells (Lay.of 0).row.toArray 123)).grown g5 (by rw [World.size_alloc]; have := (HC4.out w4 c4).2.size; omega) (fun k e => by cases e; exact (HC4.out w4 c4).2.size))
    obtain ⟨gL, hLL⟩ : ∃ gL, gL = w4.heap.size := ⟨_, rfl⟩
    rw [← hLL] at L5
    simp only [← hLL]
    have hne : Hid (w.heap.size + 1 ≠ gL) := Lib.hid (by rw [hLL]; have := (HC4.out w4 c4).1.lt; omega)
    clear L4 g5 e5 hLL c4 HC4 R3 B3 k4
    obtain ⟨w6, hst, R6, g6, _⟩ := seg_cells (P := Tryz.prog) (w := w5.drew) R5.out (HL0.out.trans HPL.out.symm) h1'
    have L6 := Lib.hid (Blk.grown (w := w5.drew) L5 g6 (by simp; have := hne.out; omega))
    refine wp_region_held_drew (S := fun w' => Blk w' gL 123 rw') (by kernel_rfl) L5 (fun _ => ?_)
    refine wpAnyH_take (i := 0) (v := .int .u64 (m : Int)) rfl (by kernel_rfl) (by kernel_rfl) (by kernel_rfl) (fun _ _ _ h => h) (Or.inl ⟨by kernel_rfl, fun w _ => by go_simp⟩) L5 ?_
    refine wpAnyH_take (i := 1) (v := .agg rw'.toArray) rfl (by kernel_rfl) (by kernel_rfl) (by kernel_rfl) (fun _ _ _ h => h) (yields_seg aggLay sizeLay (.tmp 13) (by kernel_rfl) (by kernel_rfl) (by kernel_rfl) (g := gL) (i := 0) (fun _ h => h) (by rw [List.drop_zero, List.take_of_length_le (by rw [HPL.out]; exact Nat.le_refl _)]) HPL.out) L5 ?_
    refine wpAnyH_take (i := 2) (v := .bool ok) rfl (by kernel_rfl) (by kernel_rfl) (by kernel_rfl) (fun _ _ _ h => h) (Or.inl ⟨by kernel_rfl, fun w _ => by go_simp⟩) L5 ?_
    refine wpAnyH_take (i := 3) (v := .int .u64 (m : Int)) rfl (by kernel_rfl) (by kernel_rfl) (by kernel_rfl) (fun _ _ _ h => h) (Or.inl ⟨by kernel_rfl, fun w _ => by go_simp⟩) L5 ?_
    refine wpAnyH_ready (rs := [4]) (by kernel_rfl) (by simp) (AllReadyH.cons rfl (fun K hK => ?_) AllReadyH.nil)
    have hpl := HPL.out
    go_simp
    refine hK.out _ _ L6.out (fun _ => ?_)
    clear hK K
    refine wpAnyH_take (i := 5) (v := .bool ok) rfl (by kernel_rfl) (by kernel_rfl) (by kernel_rfl) (fun _ _ _ h => h) (Or.inl ⟨by kernel_rfl, fun w _ => by go_simp⟩) L6.out ?_
    refine wpAnyH_done (by kernel_rfl) ?_ _
    go_wp2_with fail
    refine bodyPost_ret (lay_ret3 rfl _ R6 HPL.out rfl) rfl ?_
    have e1 : ((tableOf n L).map (·.2)).getD (Lay.of 0) = pr.getD (Lay.of 0) := by rw [HF.out]; cases pr <;> rfl
    have e2 : (tableOf n L).isSome = ok := by rw [HF.out, HOK.out]; cases pr <;> rfl
    refine ⟨m, by rw [e1, e2, ← HRW.out]; rfl, fun x hx => ?_, (B5.out.drew).grown g6 (show w.heap.size ≤ w5.heap.size from B5.out.size) (fun k e => by have := Option.some.inj e; omega)⟩
    rw [HF.out] at hx
    rw [HM.out]
    by_cases h8 : 8 ≤ rb.length
    · rw [if_pos h8]
      cases pr with
      | none => cases hx
      | some l => cases hx; rfl
    · rw [List.drop_eq_nil_of_le (by omega), parse_nil hn1] at HP
      rw [HP.out] at hx
      cases hx
  · have HT2 := Lib.hid (HT.out.trans (if_neg hc))
    obtain ⟨d, hd⟩ : ∃ d : Bool, d = ((re : Int) != 0) := ⟨_, rfl⟩
    have hd' := hd.symm
    have HC := Lib.hid hc
    have HD := Lib.hid hd
    clear hc hd HT
    cases d with
    | true =>
      have d2 : ((re : Int) = 0) = False := by have := HD.out; simpa using this
      go_wp2_with (with_reducible refine wpl_seg_store sizeLay (.tmp 5) (.tmp 28) rfl rfl R1 0 (Lay.of 0).row HL0.out (by rw [HL0.out]; exact Nat.le_refl _) (Lay.one _) rfl rfl _ hs00 ?_; intro w2 R2 g2 e2)
      refine bodyPost_ret (lay_ret3 rfl _ R2 HL0.out rfl) rfl ?_
      rw [HT2.out]
      exact ⟨0, rfl, fun x hx => (by cases hx), B1.out.grown g2 (by have := B1.out.size; omega) (fun k e => by cases e; omega)⟩
    | false =>
      have he0 : re = 0 := by have := HD.out; simpa using this
      subst he0
      have hk1 : ((rk.toNat : Nat) : Int) ≠ 1 := fun h => HC.out ⟨rfl, by
        have h2 : rk.toNat = 1 := by omega
        exact UInt8.toNat_inj.1 h2⟩
      have d3 : ((((rk.toNat : Nat) : Int)) != 1) = true := by simpa using hk1
      clear hk1
      go_wp2_with (with_reducible refine wpl_seg_store sizeLay (.tmp 5) (.tmp 28) rfl rfl R1 0 (Lay.of 0).row HL0.out (by rw [HL0.out]; exact Nat.le_refl _) (Lay.one _) rfl rfl _ hs00 ?_; intro w2 R2 g2 e2)
      refine bodyPost_ret (lay_ret3 rfl _ R2 HL0.out rfl) rfl ?_
      rw [HT2.out]
      exact ⟨0, rfl, fun x hx => (by cases hx), B1.out.grown g2 (by have := B1.out.size; omega) (fun k e => by cases e; omega)⟩
end Go.Proofs.YtdiocjneakfdgaaGreatDoor

