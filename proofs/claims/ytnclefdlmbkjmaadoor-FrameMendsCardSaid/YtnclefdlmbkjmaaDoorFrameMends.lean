/- The walk of FrameMends: it answers true, and changes nothing that was there. Condition: the table holds its sixteen numbers. -/
import Derived.Test.YtnclefdlmbkjmaaDoorTwo
import Derived.Test.YtnclefdlmbkjmaaDoorFrameTurn
namespace Go.Proofs.YtnclefdlmbkjmaaDoor
open Go.RowKit
set_option maxRecDepth 100000 in
set_option maxHeartbeats 4000000 in
theorem mends_main (v : Value) (kind : UInt8) (body : List UInt8) (i k : Int) (w : World) (ht : Tab w) (hv : Bytes w w.heap.size v body) (hl : body.length ≤ 240) :
    Calls Tryd.prog 5 #[.int .u8 ((kind.toNat : Nat) : Int), v, .agg #[.int .i64 i, .int .i64 k]] w fun e w' => e = .returned (.bool true) ∧ Below w.heap.size w w' := by
  have HT := Lib.hid ht
  have HV := Lib.hid hv
  have z := zeroPage
  have T0 := Lib.hid (Blk.new w 38 [.int .i64 i, .int .i64 k])
  have B0 : Hid (Below w.heap.size w (w.alloc (.cells #[.int .i64 i, .int .i64 k] 38))) := Lib.hid ((Below.refl _ _).alloc (Nat.le_refl _) _)
  have s0 := speaks_any _ (HT.out.below B0.out HT.out.lt)
  obtain ⟨Aa, ca, eva, hca, hma, hra⟩ := hv
  unfold maxLen at hma
  have d1 : decide ((240 : Int) < (body.length : Int)) = false := by simp; omega
  subst eva
  obtain ⟨P, hP⟩ : ∃ P, P = (FM.writeM kind body).1 := ⟨_, rfl⟩
  obtain ⟨e1, he1⟩ : ∃ e1, e1 = (FM.writeM kind body).2 := ⟨_, rfl⟩
  have l1 : P.length = 258 := hP ▸ FM.writeM_length kind body
  clear hra ht
  go_enter Tryd.func5, Tryd.ntmps5
  go_wp2_with fail
  ((with_reducible refine s0.mono ?_); rintro e w2 ⟨rfl, hb2⟩)
  have T2 := Lib.hid (T0.out.after hb2)
  have B2 := Lib.hid (B0.out.trans (hb2.mono B0.out.size))
  clear s0 hb2 T0 B0
  have Y2 := HV.out.below B2.out
  have b3 : Below w.heap.size w (w2.alloc (.cells #[.slice Aa body.length ca] 24)) := B2.out.alloc B2.out.size _
  obtain ⟨LL, hPL, hLL⟩ := Joined.one Y2 B2.out.size w2.heap.size rfl (w2.heap.size + 1) (by omega) 24
  have s1 := write_any kind _ LL _ _ (by rw [World.size_alloc]; exact Nat.le_refl _) hPL (HT.out.below b3 HT.out.lt) (by rw [hLL]; omega)
  rw [hLL, ← hP, ← he1] at s1
  have T3 := Lib.hid (T2.out.alloc (.cells #[.slice Aa body.length ca] 24))
  have HPE : Hid (P = (FM.writeM kind body).1 ∧ e1 = (FM.writeM kind body).2) := Lib.hid ⟨hP, he1⟩
  clear hPL hLL Y2 T2 hP he1
  go_wp2_with fail
  ((with_reducible refine s1.mono ?_); rintro e w3 ⟨rfl, hb3⟩)
  have T3' := Lib.hid (T3.out.after hb3)
  have B3 := Lib.hid (b3.trans (hb3.mono b3.size))
  clear s1 hb3 b3 B2 T3
  by_cases h1 : e1 = 0
  · subst h1
    go_wp2_with (with_reducible refine wpl_pstore (.tmp 7) (.tmp 25) rfl rfl (PArr.new w3 pzeros_length) rfl l1 rfl ?_; intro w4 Q4 gg4 e4)
    have hlt3 := T3'.out.lt
    have T4 := Lib.hid ((T3'.out.alloc (.cells (cl pzeros) 26)).grown gg4 (by simp; omega))
    have B4 := Lib.hid (pkeep_new B3.out B3.out.size gg4)
    have Q4' := Lib.hid Q4
    obtain ⟨g, hg⟩ : ∃ g, g = w3.heap.size := ⟨_, rfl⟩
    rw [← hg] at Q4' hlt3 ⊢
    have c0 := T4.out.cell 0
    have c1 := T4.out.cell 1
    simp only [List.getElem?_cons_succ, List.getElem?_cons_zero] at c0 c1
    have m1 := i64_mask i 16 (by omega)
    have m2 := i64_mask k 16 (by omega)
    obtain ⟨x, hx⟩ : ∃ x : Nat, x = (i % 65536).toNat % 2064 := ⟨_, rfl⟩
    obtain ⟨y, hy⟩ : ∃ y : Nat, y = (k % 65536).toNat % 2064 := ⟨_, rfl⟩
    have hx2 : x < 2064 := by omega
    have hy2 : y < 2064 := by omega
    have q1 : (i % 65536) % 2064 = (x : Int) := by omega
    have q2 : (k % 65536) % 2064 = (y : Int) := by omega
    have m1' : bits .and .i64 i 65535 = i % 65536 := m1
    have m2' : bits .and .i64 k 65535 = k % 65536 := m2
    clear m1 m2 hg gg4 e4 Q4 T3' B3 hx hy
    go_wp2_with fail
    go_quiet (fail)
    rw [q1, q2]
    have hPK : kind ≠ 0 ∧ kind ≠ 255 ∧ P = FM.page kind body := by
      obtain ⟨r1, r2⟩ := HPE.out
      unfold FM.writeM at r1 r2
      split at r2
      · cases r2
      · rename_i hn
        rw [if_neg hn] at r1
        exact ⟨fun e => hn (.inl e), fun e => hn (.inr (.inl e)), r1⟩
    obtain ⟨hk0, hk1, hPP⟩ := hPK
    have Q5 : Hid (PArr (w4.drewN nq) g P) := Q4'
    have B5 : Hid (Below w.heap.size w (w4.drewN nq)) := Lib.hid ⟨B4.out.os, B4.out.tape, B4.out.output, B4.out.size, B4.out.block⟩
    obtain ⟨W, hW⟩ : ∃ W, W = w4.drewN nq := ⟨_, rfl⟩
    rw [← hW] at Q5 B5 ⊢
    have R1 : Hid (FM.readM (HM.fl P x) = (kind, body, 1, 0)) := Lib.hid (by rw [hPP]; exact FM.turn_one hl hk0 hk1 hx2)
    have R2 : Hid (x = y → FM.readM (HM.fl (HM.fl P x) y) = (kind, body, 0, 0)) := Lib.hid (fun e => by rw [← e, FM.fl_two x (by omega), hPP]; exact FM.turn_none hl hk0 hk1)
    have R3 : Hid (x ≠ y → FM.readM (HM.fl (HM.fl P x) y) = if decide (2061 ≤ x) = decide (2061 ≤ y) then (0, [], 0, 21) else (kind, body, 2, 0)) := Lib.hid (fun e => by rw [hPP]; exact FM.turn_two hl hk0 hk1 hx2 hy2 e)
    clear hW q1 q2 m1' m2' c0 c1 T4 B4 Q4' HPE hPP hk0 hk1
    obtain ⟨bb, hbb, hcl, HBB⟩ := pbyte_at P l1 (k := x / 8) (by omega)
    have hcell := (Q5.out.cell (x / 8)).trans hcl
    obtain ⟨m, hm, HM'⟩ := flip_byte hbb HBB.out
    have l2 : (HM.fl P x).length = 258 := by rw [HM.fl_length, l1]
    obtain ⟨L1, hL1⟩ : ∃ L1, L1 = HM.fl P x := ⟨_, rfl⟩
    rw [← hL1] at R1 R2 R3 HM' l2
    clear hcl hL1 HBB
    go_wp2_with (first | (with_reducible refine wpl_pload (.tmp 7) rfl rfl D7 rfl ?_) | (with_reducible refine wpl_pput (.tmp 52) (.tmp 51) rfl rfl Q5.out (x / 8) (by omega) m rfl rfl ?_; intro w7 D7 g7; rw [HM'.out] at D7; have B7 := B5.out.grown g7 B5.out.size (fun k e => by cases e; omega); clear g7 hcell hm Q5 B5))
    have s2 := read_any L1 l2 _ (HT.out.below B7 HT.out.lt)
    rw [R1.out] at s2
    ((with_reducible refine s2.mono ?_); rintro e w8 ⟨v8, rfl, Y8, hb8⟩)
    have Q8 := Lib.hid (D7.after hb8)
    have B8 := Lib.hid (B7.trans (hb8.mono B7.size))
    have HY8 := Lib.hid Y8
    obtain ⟨A8, c8, rfl, _, _, _⟩ := Y8
    have S1 := str_of HY8.out
    have S2 := str_of (HV.out.below B8.out)
    simp only at S1
    clear s2 hb8 R1 HM' D7 B7
    obtain ⟨cb, hcb, hcl, HCB⟩ := pbyte_at L1 l2 (k := y / 8) (by omega)
    have hcell := (Q8.out.cell (y / 8)).trans hcl
    obtain ⟨m2, hm2, HM2⟩ := flip_byte hcb HCB.out
    have l3 : (HM.fl L1 y).length = 258 := by rw [HM.fl_length, l2]
    obtain ⟨L2, hL2⟩ : ∃ L2, L2 = HM.fl L1 y := ⟨_, rfl⟩
    rw [← hL2] at R2 R3 HM2 l3
    clear hcl hL2 HCB
    go_wp2_with (first | (with_reducible refine wpl_pload (.tmp 7) rfl rfl D9 rfl ?_) | (with_reducible refine wpl_pput (.tmp 87) (.tmp 86) rfl rfl Q8.out (y / 8) (by omega) m2 rfl rfl ?_; intro w9 D9 g9; rw [HM2.out] at D9; have B9 := B8.out.grown g9 B8.out.size (fun k e => by cases e; omega); clear g9 hcell hm2 Q8 B8))
    have s3 := read_any L2 l3 _ (HT.out.below B9 HT.out.lt)
    by_cases hxy : x = y
    · rw [R2.out hxy] at s3
      have dxy : ((x : Int) == (y : Int)) = true := by simp; omega
      clear R2 R3 hxy
      ((with_reducible refine s3.mono ?_); rintro e w10 ⟨v10, rfl, Y10, hb10⟩)
      have B10 := Lib.hid (B9.trans (hb10.mono B9.size))
      have HY10 := Lib.hid Y10
      obtain ⟨A10, c10, rfl, _, _, _⟩ := Y10
      have S3 := str_of HY10.out
      have S4 := str_of (HV.out.below B10.out)
      simp only at S3
      clear s3 hb10 B9 D9 S1 S2 HM2
      go_wp2_with fail
      go_ret
      exact ⟨rfl, B10.out⟩
    · rw [R3.out hxy] at s3
      have dxy : ((x : Int) == (y : Int)) = false := by simp; omega
      clear R2 R3 hxy
      by_cases hc : decide (2061 ≤ x) = decide (2061 ≤ y)
      · rw [if_pos hc] at s3
        ((with_reducible refine s3.mono ?_); rintro e w10 ⟨v10, rfl, Y10, hb10⟩)
        have B10 := Lib.hid (B9.trans (hb10.mono B9.size))
        obtain ⟨A10, c10, rfl, _, _, _⟩ := Y10
        clear s3 hb10 B9 D9 S1 S2 HM2
        by_cases hx : 2061 ≤ x
        · have hy : 2061 ≤ y := by rw [decide_eq_true hx] at hc; exact of_decide_eq_true hc.symm
          have e1 : decide ((2061 : Int) ≤ (x : Int)) = true := by simp; omega
          have e2 : decide ((2061 : Int) ≤ (y : Int)) = true := by simp; omega
          clear hc
          go_wp2_with fail
          go_ret
          exact ⟨rfl, B10.out⟩
        · have hy : ¬ 2061 ≤ y := by rw [decide_eq_false hx] at hc; exact of_decide_eq_false hc.symm
          have e1 : decide ((2061 : Int) ≤ (x : Int)) = false := by simp; omega
          have e2 : decide ((2061 : Int) ≤ (y : Int)) = false := by simp; omega
          clear hc
          go_wp2_with fail
          go_ret
          exact ⟨rfl, B10.out⟩
      · rw [if_neg hc] at s3
        ((with_reducible refine s3.mono ?_); rintro e w10 ⟨v10, rfl, Y10, hb10⟩)
        have B10 := Lib.hid (B9.trans (hb10.mono B9.size))
        have HY10 := Lib.hid Y10
        obtain ⟨A10, c10, rfl, _, _, _⟩ := Y10
        have S3 := str_of HY10.out
        have S4 := str_of (HV.out.below B10.out)
        simp only at S3
        clear s3 hb10 B9 D9 S1 S2 HM2
        by_cases hx : 2061 ≤ x
        · have hy : ¬ 2061 ≤ y := fun h => hc (by rw [decide_eq_true hx, decide_eq_true h])
          have e1 : decide ((2061 : Int) ≤ (x : Int)) = true := by simp; omega
          have e2 : decide ((2061 : Int) ≤ (y : Int)) = false := by simp; omega
          clear hc
          go_wp2_with fail
          go_ret
          exact ⟨rfl, B10.out⟩
        · have hy : 2061 ≤ y := Decidable.byContradiction fun h => hc (by rw [decide_eq_false hx, decide_eq_false h])
          have e1 : decide ((2061 : Int) ≤ (x : Int)) = false := by simp; omega
          have e2 : decide ((2061 : Int) ≤ (y : Int)) = true := by simp; omega
          clear hc
          go_wp2_with fail
          go_ret
          exact ⟨rfl, B10.out⟩
  · have d3 : ((e1 : Int) != 0) = true := by simp; omega
    have hke : kind = 0 ∨ kind = 255 := by
      obtain ⟨_, r2⟩ := HPE.out
      unfold FM.writeM at r2
      split at r2
      · rename_i hn
        rcases hn with h | h | h
        · exact .inl h
        · exact .inr h
        · omega
      · exact absurd r2 h1
    by_cases hz0 : kind.toNat = 0
    · have d4 : ((kind.toNat : Int) == 0) = true := by simp; omega
      go_wp2_with (with_reducible refine wpl_pstore (.tmp 7) (.tmp 25) rfl rfl (PArr.new w3 pzeros_length) rfl l1 rfl ?_; intro w4 Q4 gg4 e4)
      go_ret
      exact ⟨rfl, pkeep_new B3.out B3.out.size gg4⟩
    · have d4 : ((kind.toNat : Int) == 0) = false := by simp; omega
      have h255 : kind.toNat = 255 := by
        rcases hke with h | h
        · exact absurd (by rw [h]; rfl) hz0
        · rw [h]; rfl
      have d5 : ((kind.toNat : Int) == 255) = true := by simp; omega
      clear hke h255 hz0
      go_wp2_with (with_reducible refine wpl_pstore (.tmp 7) (.tmp 25) rfl rfl (PArr.new w3 pzeros_length) rfl l1 rfl ?_; intro w4 Q4 gg4 e4)
      go_ret
      exact ⟨rfl, pkeep_new B3.out B3.out.size gg4⟩
set_option maxHeartbeats 2000000 in
theorem mends_long (v : Value) (kind : UInt8) (body : List UInt8) (i k : Int) (w : World) (ht : Tab w) (hv : Bytes w w.heap.size v body) (hl : 240 < body.length) :
    Calls Tryd.prog 5 #[.int .u8 ((kind.toNat : Nat) : Int), v, .agg #[.int .i64 i, .int .i64 k]] w fun e w' => e = .returned (.bool true) ∧ Below w.heap.size w w' := by
  have HT := Lib.hid ht
  have B0 : Hid (Below w.heap.size w (w.alloc (.cells #[.int .i64 i, .int .i64 k] 38))) := Lib.hid ((Below.refl _ _).alloc (Nat.le_refl _) _)
  have s0 := speaks_any _ (HT.out.below B0.out HT.out.lt)
  obtain ⟨Aa, ca, rfl, hca, hma, hra⟩ := hv
  unfold maxLen at hma
  have d1 : decide ((240 : Int) < (body.length : Int)) = true := by simp; omega
  clear hra ht
  go_enter Tryd.func5, Tryd.ntmps5
  go_wp2_with fail
  ((with_reducible refine s0.mono ?_); rintro e w2 ⟨rfl, hb2⟩)
  have B2 := Lib.hid (B0.out.trans (hb2.mono B0.out.size))
  go_wp2_with fail
  go_ret
  exact ⟨rfl, B2.out⟩
theorem frameMends_any (a : Int) (v v2 : Value) (w : World) (ht : Tab w) (ha : (Lit.int .u8 a).wf = true) (h1 : ∃ l, Bytes w w.heap.size v l) (h2 : ∃ a b, v2 = .agg #[.int .i64 a, .int .i64 b] ∧ (Lit.int .i64 a).wf = true ∧ (Lit.int .i64 b).wf = true) :
    Calls Tryd.prog 5 #[.int .u8 a, v, v2] w fun e w' => e = .returned (.bool true) ∧ Below w.heap.size w w' := by
  obtain ⟨b, hb⟩ := h1
  obtain ⟨x, y, rfl, _, _⟩ := h2
  obtain ⟨k, rfl⟩ := u8_of_wf ha
  by_cases hl : 240 < b.length
  · exact mends_long v k b x y w ht hb hl
  · exact mends_main v k b x y w ht hb (by omega)
end Go.Proofs.YtnclefdlmbkjmaaDoor
