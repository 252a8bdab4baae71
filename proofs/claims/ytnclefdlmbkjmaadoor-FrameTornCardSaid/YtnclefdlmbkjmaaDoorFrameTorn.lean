/- The walk of FrameTorn: it answers true, and changes nothing that was there. Condition: the table holds its sixteen numbers. -/
import Derived.Test.YtnclefdlmbkjmaaDoorTwo
namespace Go.Proofs.YtnclefdlmbkjmaaDoor
open Go.RowKit
namespace FM
/-- from the place n on, as far as j, all bits are 1 -/
def torn (P : List UInt8) (n j : Nat) : List UInt8 := P.take n ++ List.replicate (j - n) 255 ++ P.drop j
theorem torn_start (P : List UInt8) (n : Nat) : torn P n n = P := by simp [torn]
theorem torn_length {P : List UInt8} {n j : Nat} (h1 : n ≤ j) (h2 : j ≤ P.length) : (torn P n j).length = P.length := by
  simp [torn]
  omega
theorem torn_step {P : List UInt8} {n j : Nat} (h1 : n ≤ j) (h2 : j < P.length) : (torn P n j).set j 255 = torn P n (j + 1) := by
  unfold torn
  rw [List.set_append_right _ _ (by simp; omega)]
  have hl : (P.take n ++ List.replicate (j - n) (255 : UInt8)).length = j := by simp; omega
  rw [hl, Nat.sub_self, List.drop_eq_getElem_cons h2, List.set_cons_zero, show j + 1 - n = (j - n) + 1 by omega, List.replicate_succ', List.append_assoc, List.append_assoc, List.append_assoc]
  rfl
theorem torn_last {P : List UInt8} {n : Nat} (hP : P.length = 258) (hn : n < 258) : (torn P n 258).getD 257 0 = 255 := by
  unfold torn
  rw [List.drop_of_length_le (by omega), List.append_nil, List.getD_eq_getElem?_getD, List.getElem?_append_right (by simp; omega), List.getElem?_replicate, if_pos (by simp; omega), Option.getD_some]
theorem top_flip : ∀ k : Fin 8, 1 < HM.popT ((255 ^^^ UInt8.ofNat (2 ^ k.val)).toNat / 32) 3 := by decide
/-- a page that was torn is blank, or corrupt -/
theorem torn_read {Q : List UInt8} (h : Q.getD 257 0 = 255 ∨ ∃ k : Fin 8, Q.getD 257 0 = 255 ^^^ UInt8.ofNat (2 ^ k.val)) : FM.readM Q = (0, [], 0, 21) ∨ FM.readM Q = (0, [], 0, 20) ∧ FM.blank Q = true := by
  have ha : 1 < FM.above Q := by
    unfold FM.above
    rcases h with h | ⟨k, h⟩
    · rw [h]; decide
    · rw [h]; exact top_flip k
  unfold FM.readM
  by_cases hb : FM.blank Q = true
  · rw [if_pos hb]; exact .inr ⟨rfl, hb⟩
  · rw [if_neg hb, if_pos ha]; exact .inl rfl
theorem flip_last {Q : List UInt8} (hQ : Q.length = 258) (x : Nat) (h : Q.getD 257 0 = 255) : (HM.fl Q x).getD 257 0 = 255 ∨ ∃ k : Fin 8, (HM.fl Q x).getD 257 0 = 255 ^^^ UInt8.ofNat (2 ^ k.val) := by
  unfold HM.fl
  rw [List.getD_eq_getElem?_getD, List.getElem?_set]
  by_cases e : x / 8 = 257
  · rw [if_pos e, if_pos (by omega), Option.getD_some, e, h]
    exact .inr ⟨⟨x % 8, by omega⟩, rfl⟩
  · rw [if_neg e, ← List.getD_eq_getElem?_getD]
    exact .inl h
end FM
set_option maxRecDepth 100000 in
set_option maxHeartbeats 4000000 in
theorem torn_main (v : Value) (kind : UInt8) (body : List UInt8) (i k : Int) (w : World) (ht : Tab w) (hv : Bytes w w.heap.size v body) (hl : body.length ≤ 240) :
    Calls Tryd.prog 6 #[.int .u8 ((kind.toNat : Nat) : Int), v, .agg #[.int .i64 i, .int .i64 k]] w fun e w' => e = .returned (.bool true) ∧ Below w.heap.size w w' := by
  have HT := Lib.hid ht
  have HV := Lib.hid hv
  have z := zeroPage
  have T0 := Lib.hid (Blk.new w 38 [.int .i64 i, .int .i64 k])
  have B0 : Hid (Below w.heap.size w (w.alloc (.cells #[.int .i64 i, .int .i64 k] 38))) := Lib.hid ((Below.refl _ _).alloc (Nat.le_refl _) _)
  have s0 := speaks_any _ (HT.out.below B0.out HT.out.lt)
  obtain ⟨Aa, ca, eva, hca, hma, hra⟩ := hv
  unfold maxLen at hma
  have d1 : decide ((240 : Int) < (body.length : Int)) = false := by simp; omega
  subst eva
  obtain ⟨P, hP⟩ : ∃ P, P = (FM.writeM kind body).1 := ⟨_, rfl⟩
  obtain ⟨e1, he1⟩ : ∃ e1, e1 = (FM.writeM kind body).2 := ⟨_, rfl⟩
  have l1 : P.length = 258 := hP ▸ FM.writeM_length kind body
  clear hra ht
  go_enter Tryd.func6, Tryd.ntmps6
  go_wp2_with fail
  ((with_reducible refine s0.mono ?_); rintro e w2 ⟨rfl, hb2⟩)
  have T2 := Lib.hid (T0.out.after hb2)
  have B2 := Lib.hid (B0.out.trans (hb2.mono B0.out.size))
  clear s0 hb2 T0 B0
  have Y2 := HV.out.below B2.out
  have b3 : Below w.heap.size w (w2.alloc (.cells #[.slice Aa body.length ca] 24)) := B2.out.alloc B2.out.size _
  obtain ⟨LL, hPL, hLL⟩ := Joined.one Y2 B2.out.size w2.heap.size rfl (w2.heap.size + 1) (by omega) 24
  have s1 := write_any kind _ LL _ _ (by rw [World.size_alloc]; exact Nat.le_refl _) hPL (HT.out.below b3 HT.out.lt) (by rw [hLL]; omega)
  rw [hLL, ← hP, ← he1] at s1
  have T3 := Lib.hid (T2.out.alloc (.cells #[.slice Aa body.length ca] 24))
  clear hPL hLL Y2 T2 hP he1
  go_wp2_with fail
  ((with_reducible refine s1.mono ?_); rintro e w3 ⟨rfl, hb3⟩)
  have T3' := Lib.hid (T3.out.after hb3)
  have B3 := Lib.hid (b3.trans (hb3.mono b3.size))
  clear s1 hb3 b3 B2 T3
  by_cases h1 : e1 = 0
  · subst h1
    go_wp2_with (with_reducible refine wpl_pstore (.tmp 7) (.tmp 26) rfl rfl (PArr.new w3 pzeros_length) rfl l1 rfl ?_; intro w4 Q4 gg4 e4)
    have hlt3 := T3'.out.lt
    have T4 := Lib.hid ((T3'.out.alloc (.cells (cl pzeros) 26)).grown gg4 (by simp; omega))
    have B4 := Lib.hid (pkeep_new B3.out B3.out.size gg4)
    have Q4' := Lib.hid Q4
    obtain ⟨g, hg⟩ : ∃ g, g = w3.heap.size := ⟨_, rfl⟩
    rw [← hg] at Q4' hlt3 ⊢
    have c0 := T4.out.cell 0
    have c1 := T4.out.cell 1
    simp only [List.getElem?_cons_succ, List.getElem?_cons_zero] at c0 c1
    have m1 := i64_mask i 16 (by omega)
    have m2 := i64_mask k 16 (by omega)
    obtain ⟨n, hn⟩ : ∃ n : Nat, n = (i % 65536).toNat % 258 := ⟨_, rfl⟩
    obtain ⟨x, hx⟩ : ∃ x : Nat, x = (k % 65536).toNat := ⟨_, rfl⟩
    have hn2 : n < 258 := by omega
    have q1 : (i % 65536) % 258 = (n : Int) := by omega
    have q2 : k % 65536 = (x : Int) := by omega
    have m1' : bits .and .i64 i 65535 = i % 65536 := m1
    have m2' : bits .and .i64 k 65535 = (x : Int) := by rw [← q2]; exact m2
    clear m1 m2 hg gg4 e4 Q4 T3' B3 hn hx q2
    go_wp2_with fail
    go_quiet (fail)
    go_wp2_with fail
    rw [q1]
    have Q5 : Hid (PArr (w4.drewN nq) g P) := Q4'
    have B5 : Hid (Below w.heap.size w (w4.drewN nq)) := Lib.hid ⟨B4.out.os, B4.out.tape, B4.out.output, B4.out.size, B4.out.block⟩
    obtain ⟨W, hW⟩ : ∃ W, W = w4.drewN nq := ⟨_, rfl⟩
    rw [← hW] at Q5 B5 ⊢
    clear hW q1 m1' m2' c0 c1 T4 B4 Q4'
    go_loopw [11] (fun z wr => ∃ j : Nat, n ≤ j ∧ j ≤ 258 ∧ z = .int .i64 j ∧ PArr wr g (FM.torn P n j) ∧ Below w.heap.size w wr) (fun z _ => 258 - (intOf z).toNat)
    case atStart => exact ⟨n, Nat.le_refl _, by omega, rfl, by rw [FM.torn_start]; exact Q5.out, B5.out⟩
    case round =>
      obtain ⟨j, hj1, hj2, rfl, hQ, hB⟩ := hrel
      have HQ := Lib.hid hQ
      have HB := Lib.hid hB
      clear hQ hB Q5 B5
      by_cases hlt : j < 258
      · have dj : decide ((j : Int) < 258) = true := by simp; omega
        go_wp2_with (with_reducible refine wpl_pput (.tmp 43) (.const (.int .u8 255)) rfl rfl HQ.out j (by omega) 255 rfl rfl ?_; intro w7 D7 g7)
        rw [FM.torn_step hj1 (by omega)] at D7
        have b7 := HB.out.grown g7 HB.out.size (fun k e => by cases e; omega)
        clear g7
        exact ⟨⟨j + 1, by omega, by omega, by go_num, D7, b7⟩, by simp [intOf]; omega⟩
      · obtain rfl : j = 258 := by omega
        obtain ⟨Q, hQ⟩ : ∃ Q, Q = FM.torn P n 258 := ⟨_, rfl⟩
        have hlast : Q.getD 257 0 = 255 := hQ ▸ FM.torn_last l1 hn2
        rw [← hQ] at HQ
        have hQL : Q.length = 258 := HQ.out.2
        have dj : decide (((258 : Nat) : Int) < 258) = false := by decide
        clear hQ hlt
        by_cases hx : x < 2064
        · have dx : decide ((x : Int) < 2064) = true := by simp; omega
          obtain ⟨bb, hbb, hcl, HBB⟩ := pbyte_at Q hQL (k := x / 8) (by omega)
          have hcell := (HQ.out.cell (x / 8)).trans hcl
          obtain ⟨m, hm, HM'⟩ := flip_byte hbb HBB.out
          have hread := FM.torn_read (FM.flip_last hQL x hlast)
          have HR := Lib.hid hread
          have hqL : (HM.fl Q x).length = 258 := by rw [HM.fl_length, hQL]
          clear hcl hlast hread
          go_wp2_with (first | (with_reducible refine wpl_pload (.tmp 7) rfl rfl D7 rfl ?_) | (with_reducible refine wpl_pput (.tmp 55) (.tmp 54) rfl rfl HQ.out (x / 8) (by omega) m rfl rfl ?_; intro w7 D7 g7; rw [HM'.out] at D7; have B7 := HB.out.grown g7 HB.out.size (fun k e => by cases e; omega); clear g7 hcell hm HQ))
          have s2 := read_any (HM.fl Q x) hqL _ (HT.out.below B7 HT.out.lt)
          ((with_reducible refine s2.mono ?_); rintro e w8 ⟨v8, rfl, Y8, hb8⟩)
          have Q8 := Lib.hid (D7.after hb8)
          have B8 := Lib.hid (B7.trans (hb8.mono B7.size))
          obtain ⟨A8, c8, rfl, _, _, _⟩ := Y8
          clear s2 hb8
          rcases HR.out with hr | ⟨hr, hbl⟩
          · rw [hr]
            go_wp2_with fail
            go_ret
            exact ⟨rfl, B8.out⟩
          · rw [hr]
            have s3 := blank_any (HM.fl Q x) hqL
            rw [hbl] at s3
            clear hr hbl HR
            go_wp2_with (with_reducible refine wpl_pload (.tmp 7) rfl rfl Q8.out rfl ?_)
            ((with_reducible refine (s3 _).mono ?_); rintro e w9 ⟨rfl, hb9⟩)
            go_wp2_with fail
            go_ret
            exact ⟨rfl, B8.out.trans (hb9.mono B8.out.size)⟩
        · have dx : decide ((x : Int) < 2064) = false := by simp; omega
          have HR := Lib.hid (FM.torn_read (.inl hlast))
          clear hlast
          have s2 := read_any Q hQL _ (HT.out.below HB.out HT.out.lt)
          go_wp2_with (with_reducible refine wpl_pload (.tmp 7) rfl rfl HQ.out rfl ?_)
          ((with_reducible refine s2.mono ?_); rintro e w8 ⟨v8, rfl, Y8, hb8⟩)
          have Q8 := Lib.hid (HQ.out.after hb8)
          have B8 := Lib.hid (HB.out.trans (hb8.mono HB.out.size))
          obtain ⟨A8, c8, rfl, _, _, _⟩ := Y8
          clear s2 hb8
          rcases HR.out with hr | ⟨hr, hbl⟩
          · rw [hr]
            go_wp2_with fail
            go_ret
            exact ⟨rfl, B8.out⟩
          · rw [hr]
            have s3 := blank_any Q hQL
            rw [hbl] at s3
            clear hr hbl HR
            go_wp2_with (with_reducible refine wpl_pload (.tmp 7) rfl rfl Q8.out rfl ?_)
            ((with_reducible refine (s3 _).mono ?_); rintro e w9 ⟨rfl, hb9⟩)
            go_wp2_with fail
            go_ret
            exact ⟨rfl, B8.out.trans (hb9.mono B8.out.size)⟩
  · have d3 : ((e1 : Int) != 0) = true := by simp; omega
    go_wp2_with (with_reducible refine wpl_pstore (.tmp 7) (.tmp 26) rfl rfl (PArr.new w3 pzeros_length) rfl l1 rfl ?_; intro w4 Q4 gg4 e4)
    go_ret
    exact ⟨rfl, pkeep_new B3.out B3.out.size gg4⟩
set_option maxHeartbeats 2000000 in
theorem torn_long (v : Value) (kind : UInt8) (body : List UInt8) (i k : Int) (w : World) (ht : Tab w) (hv : Bytes w w.heap.size v body) (hl : 240 < body.length) :
    Calls Tryd.prog 6 #[.int .u8 ((kind.toNat : Nat) : Int), v, .agg #[.int .i64 i, .int .i64 k]] w fun e w' => e = .returned (.bool true) ∧ Below w.heap.size w w' := by
  have HT := Lib.hid ht
  have B0 : Hid (Below w.heap.size w (w.alloc (.cells #[.int .i64 i, .int .i64 k] 38))) := Lib.hid ((Below.refl _ _).alloc (Nat.le_refl _) _)
  have s0 := speaks_any _ (HT.out.below B0.out HT.out.lt)
  obtain ⟨Aa, ca, rfl, hca, hma, hra⟩ := hv
  unfold maxLen at hma
  have d1 : decide ((240 : Int) < (body.length : Int)) = true := by simp; omega
  clear hra ht
  go_enter Tryd.func6, Tryd.ntmps6
  go_wp2_with fail
  ((with_reducible refine s0.mono ?_); rintro e w2 ⟨rfl, hb2⟩)
  have B2 := Lib.hid (B0.out.trans (hb2.mono B0.out.size))
  go_wp2_with fail
  go_ret
  exact ⟨rfl, B2.out⟩
theorem frameTorn_any (a : Int) (v v2 : Value) (w : World) (ht : Tab w) (ha : (Lit.int .u8 a).wf = true) (h1 : ∃ l, Bytes w w.heap.size v l) (h2 : ∃ a b, v2 = .agg #[.int .i64 a, .int .i64 b] ∧ (Lit.int .i64 a).wf = true ∧ (Lit.int .i64 b).wf = true) :
    Calls Tryd.prog 6 #[.int .u8 a, v, v2] w fun e w' => e = .returned (.bool true) ∧ Below w.heap.size w w' := by
  obtain ⟨b, hb⟩ := h1
  obtain ⟨x, y, rfl, _, _⟩ := h2
  obtain ⟨k, rfl⟩ := u8_of_wf ha
  by_cases hl : 240 < b.length
  · exact torn_long v k b x y w ht hb hl
  · exact torn_main v k b x y w ht hb (by omega)
end Go.Proofs.YtnclefdlmbkjmaaDoor
