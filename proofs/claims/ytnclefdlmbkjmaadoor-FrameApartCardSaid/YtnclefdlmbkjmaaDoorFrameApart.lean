/- The walk of FrameApart: it answers true, and changes nothing that was there. Condition: the table holds its sixteen numbers. -/
import Derived.Test.YtnclefdlmbkjmaaDoorTwo
namespace Go.Proofs.YtnclefdlmbkjmaaDoor
open Go.RowKit
theorem FM.page_inj {k k' : UInt8} {a b : List UInt8} (ha : a.length ≤ 240) (hb : b.length ≤ 240) (h : FM.page k a = FM.page k' b) : k = k' ∧ a = b := by
  have h1 : ∀ (k : UInt8) (a : List UInt8), a.length ≤ 240 → (FM.page k a).take 252 = FM.rec252 k a := by
    intro k a ha
    unfold FM.page FM.dat
    rw [List.append_assoc, List.take_append_of_le_length (by rw [FM.rec252_length k a ha]; omega), List.take_of_length_le (by rw [FM.rec252_length k a ha]; omega)]
  have e : FM.rec252 k a = FM.rec252 k' b := by rw [← h1 k a ha, ← h1 k' b hb, h]
  have g : ∀ i : Nat, (FM.rec252 k a)[i]? = (FM.rec252 k' b)[i]? := fun i => by rw [e]
  have g0 := g 0
  have g1 := g 1
  rw [FM.rec_get _ _ ha, FM.rec_get _ _ hb] at g0 g1
  simp only [if_true, if_neg (show ¬ (1 : Nat) = 0 by omega), Option.some.injEq] at g0 g1
  have hl : a.length = b.length := by
    have := congrArg UInt8.toNat g1
    rw [UInt8.toNat_ofNat', UInt8.toNat_ofNat'] at this
    omega
  refine ⟨g0, List.ext_getElem hl fun i h1 h2 => ?_⟩
  have gi := g (2 + i)
  rw [FM.rec_get _ _ ha, FM.rec_get _ _ hb, if_neg (by omega), if_neg (by omega), if_pos (by omega), if_neg (by omega), if_neg (by omega), if_pos (by omega), show 2 + i - 2 = i by omega, List.getElem?_eq_getElem h1, List.getElem?_eq_getElem h2] at gi
  exact Option.some.inj gi
set_option maxRecDepth 100000 in
set_option maxHeartbeats 4000000 in
theorem apart_main (va vb : Value) (a b : List UInt8) (k0 k1 : UInt8) (w : World) (ht : Tab w) (ha : Bytes w w.heap.size va a) (hb : Bytes w w.heap.size vb b) (hla : a.length ≤ 300) (hlb : b.length ≤ 300) :
    Calls Tryd.prog 7 #[va, vb, .agg #[.int .u8 ((k0.toNat : Nat) : Int), .int .u8 ((k1.toNat : Nat) : Int)]] w fun e w' => e = .returned (.bool true) ∧ Below w.heap.size w w' := by
  have HT := Lib.hid ht
  have HA := Lib.hid ha
  have HB := Lib.hid hb
  have z := zeroPage
  have T0 := Lib.hid (Blk.new w 41 [.int .u8 ((k0.toNat : Nat) : Int), .int .u8 ((k1.toNat : Nat) : Int)])
  have B0 : Hid (Below w.heap.size w (w.alloc (.cells #[.int .u8 ((k0.toNat : Nat) : Int), .int .u8 ((k1.toNat : Nat) : Int)] 41))) := Lib.hid ((Below.refl _ _).alloc (Nat.le_refl _) _)
  have s0 := speaks_any _ (HT.out.below B0.out HT.out.lt)
  obtain ⟨Aa, ca, eva, hca, hma, hra⟩ := ha
  obtain ⟨Ab, cb, evb, hcb, hmb, hrb⟩ := hb
  unfold maxLen at hma hmb
  have d1 : decide ((300 : Int) < (a.length : Int)) = false := by simp; omega
  have d2 : decide ((300 : Int) < (b.length : Int)) = false := by simp; omega
  subst eva evb
  obtain ⟨P1, hP1⟩ : ∃ P1, P1 = (FM.writeM k0 a).1 := ⟨_, rfl⟩
  obtain ⟨e1, he1⟩ : ∃ e1, e1 = (FM.writeM k0 a).2 := ⟨_, rfl⟩
  obtain ⟨P2, hP2⟩ : ∃ P2, P2 = (FM.writeM k1 b).1 := ⟨_, rfl⟩
  obtain ⟨e2, he2⟩ : ∃ e2, e2 = (FM.writeM k1 b).2 := ⟨_, rfl⟩
  have l1 : P1.length = 258 := hP1 ▸ FM.writeM_length k0 a
  have l2 : P2.length = 258 := hP2 ▸ FM.writeM_length k1 b
  have HQ : Hid (P1 = (FM.writeM k0 a).1 ∧ e1 = (FM.writeM k0 a).2 ∧ P2 = (FM.writeM k1 b).1 ∧ e2 = (FM.writeM k1 b).2) := Lib.hid ⟨hP1, he1, hP2, he2⟩
  clear hra hrb ht
  go_enter Tryd.func7, Tryd.ntmps7
  go_wp2_with fail
  ((with_reducible refine s0.mono ?_); rintro e w2 ⟨rfl, hb2⟩)
  have T2 := Lib.hid (T0.out.after hb2)
  have B2 := Lib.hid (B0.out.trans (hb2.mono B0.out.size))
  have c0 := T2.out.cell 0
  simp only [List.getElem?_cons_zero] at c0
  clear s0 hb2 T0 B0
  have Y2 := HA.out.below B2.out
  have b3 : Below w.heap.size w (w2.alloc (.cells #[.slice Aa a.length ca] 24)) := B2.out.alloc B2.out.size _
  obtain ⟨LL, hPL, hLL⟩ := Joined.one Y2 B2.out.size w2.heap.size rfl (w2.heap.size + 1) (by omega) 24
  have s1 := write_any k0 _ LL _ _ (by rw [World.size_alloc]; exact Nat.le_refl _) hPL (HT.out.below b3 HT.out.lt) (by rw [hLL]; omega)
  rw [hLL, ← hP1, ← he1] at s1
  have T3 := Lib.hid (T2.out.alloc (.cells #[.slice Aa a.length ca] 24))
  clear hPL hLL Y2 T2 hP1 he1
  go_wp2_with fail
  ((with_reducible refine s1.mono ?_); rintro e w3 ⟨rfl, hb3⟩)
  have T3' := Lib.hid (T3.out.after hb3)
  have B3 := Lib.hid (b3.trans (hb3.mono b3.size))
  clear s1 hb3 b3 B2 T3 c0
  go_wp2_with (with_reducible refine wpl_pstore (.tmp 7) (.tmp 27) rfl rfl (PArr.new w3 pzeros_length) rfl l1 rfl ?_; intro w4 Q4 gg4 e4; have T4 := (T3'.out.alloc (.cells (cl pzeros) 26)).grown gg4 (by have := T3'.out.lt; simp; omega); have c1 := T4.cell 1; simp only [List.getElem?_cons_succ, List.getElem?_cons_zero] at c1)
  have hz4 : w4.heap.size = w3.heap.size + 1 := by rw [e4, World.size_alloc]
  have Q4' := Lib.hid Q4
  have T4' := Lib.hid T4
  have B4 := pkeep_new B3.out B3.out.size gg4
  have Y4 := HB.out.below B4
  have b5 : Below w.heap.size w (w4.alloc (.cells #[.slice Ab b.length cb] 24)) := B4.alloc B4.size _
  obtain ⟨LL, hPL, hLL⟩ := Joined.one Y4 B4.size (w3.heap.size + 1) hz4.symm (w3.heap.size + 2) (by omega) 24
  have s2 := write_any k1 _ LL _ _ (by rw [World.size_alloc]; omega) hPL (HT.out.below b5 HT.out.lt) (by rw [hLL]; omega)
  rw [hLL, ← hP2, ← he2] at s2
  have Q5 := Lib.hid (Q4.alloc (.cells #[.slice Ab b.length cb] 24))
  have T5 := Lib.hid (T4.alloc (.cells #[.slice Ab b.length cb] 24))
  have hgt := T3'.out.lt
  clear hPL hLL Y4 hP2 he2 T4 c1 Q4 gg4 e4 T3' B3 T4' Q4' B4
  ((with_reducible refine s2.mono ?_); rintro e wo ⟨rfl, hb5⟩)
  have Q6 := Lib.hid (Q5.out.after hb5)
  have T6 := Lib.hid (T5.out.after hb5)
  have B6 := Lib.hid (b5.trans (hb5.mono b5.size))
  obtain ⟨g7, hg7⟩ : ∃ g7, g7 = w3.heap.size := ⟨_, rfl⟩
  rw [← hg7] at Q6 hgt
  have hg79 : g7 < wo.heap.size := Q6.out.lt
  clear s2 hb5 b5 Q5 T5 hz4
  go_wp2_with (with_reducible refine wpl_pstore (.tmp 9) (.tmp 35) rfl rfl (PArr.new wo pzeros_length) rfl l2 rfl ?_; intro w5 R6 gg6 e6)
  have Q7 := Lib.hid ((Q6.out.alloc (.cells (cl pzeros) 26)).grown gg6 (by omega))
  have T7 := Lib.hid ((T6.out.alloc (.cells (cl pzeros) 26)).grown gg6 (by have := T6.out.lt; simp; omega))
  have R7 := Lib.hid R6
  have B5 := Lib.hid (pkeep_new B6.out B6.out.size gg6)
  obtain ⟨g9, hg9⟩ : ∃ g9, g9 = wo.heap.size := ⟨_, rfl⟩
  rw [← hg9] at R7
  rw [← hg7, ← hg9]
  clear Q6 T6 B6 gg6 e6 R6 hg79 hg9 hg7 hgt
  have HP1 : Hid (∀ w', Below w5.heap.size w5 w' → PArr w' g7 P1) := Lib.hid (fun w' h => Q7.out.after h)
  have HP2 : Hid (∀ w', Below w5.heap.size w5 w' → PArr w' g9 P2) := Lib.hid (fun w' h => R7.out.after h)
  have HK0 : Hid (∀ w', Below w5.heap.size w5 w' → w'.cell? ⟨w.heap.size, 0, none⟩ = some (.int .u8 ((k0.toNat : Nat) : Int))) := Lib.hid (fun w' h => (T7.out.after h).cell 0)
  have HK1 : Hid (∀ w', Below w5.heap.size w5 w' → w'.cell? ⟨w.heap.size, 1, none⟩ = some (.int .u8 ((k1.toNat : Nat) : Int))) := Lib.hid (fun w' h => (T7.out.after h).cell 1)
  obtain ⟨va, hva⟩ : ∃ va, va = Value.slice Aa a.length ca := ⟨_, rfl⟩
  obtain ⟨vb, hvb⟩ : ∃ vb, vb = Value.slice Ab b.length cb := ⟨_, rfl⟩
  have HS0 : Hid (∀ w', Below w5.heap.size w5 w' → (convert 24 9 va).run Tryd.prog w' = .ok (.string ⟨a.toArray⟩) w') := Lib.hid (fun w' h => hva ▸ str_of (HA.out.below (B5.out.trans (h.mono B5.out.size))))
  have HS1 : Hid (∀ w', Below w5.heap.size w5 w' → (convert 24 9 vb).run Tryd.prog w' = .ok (.string ⟨b.toArray⟩) w') := Lib.hid (fun w' h => hvb ▸ str_of (HB.out.below (B5.out.trans (h.mono B5.out.size))))
  have B6 : Below w5.heap.size w5 w5.drew := (Below.refl _ _).drew
  rw [← hva, ← hvb]
  clear hva hvb Q7 T7 R7
  by_cases h1 : e1 = 0
  · subst h1
    by_cases h2 : e2 = 0
    · subst h2
      have hg1 : k0 ≠ 0 ∧ a.length ≤ 240 ∧ P1 = FM.page k0 a := by
        obtain ⟨q1, q2, _, _⟩ := HQ.out
        unfold FM.writeM at q1 q2
        split at q2
        · cases q2
        · rename_i hn
          rw [if_neg hn] at q1
          exact ⟨fun e => hn (.inl e), by omega, q1⟩
      have hg2 : k1 ≠ 0 ∧ b.length ≤ 240 ∧ P2 = FM.page k1 b := by
        obtain ⟨_, _, q1, q2⟩ := HQ.out
        unfold FM.writeM at q1 q2
        split at q2
        · cases q2
        · rename_i hn
          rw [if_neg hn] at q1
          exact ⟨fun e => hn (.inl e), by omega, q1⟩
      have hEq := fun w => equalIn_pcl l1 l2 w
      clear HQ
      by_cases hk : k0 = k1
      · subst hk
        by_cases hab : a = b
        · subst hab
          have hP : P1 = P2 := by rw [hg1.2.2, hg2.2.2]
          rw [decide_eq_true hP] at hEq
          clear hg1 hg2 hP
          refine wp_region_held_drew (S := fun w' => Below w5.heap.size w5 w') (by kernel_rfl) B6 (fun _ => ?_)
          refine wpAnyH_take (i := 0) (v := .int .i64 0) rfl (by kernel_rfl) (by kernel_rfl) (by kernel_rfl) (fun _ _ _ h => h) (Or.inl ⟨by kernel_rfl, fun w _ => by go_simp⟩) B6 ?_
          refine wpAnyH_take (i := 1) (v := .bool false) rfl (by kernel_rfl) (by kernel_rfl) (by kernel_rfl) (fun _ _ _ h => h) (Or.inl ⟨by kernel_rfl, fun w _ => by go_simp⟩) B6 ?_
          refine wpAnyH_take (i := 2) (v := .bool false) rfl (by kernel_rfl) (by kernel_rfl) (by kernel_rfl) (fun _ _ _ h => h) (Or.inl ⟨by kernel_rfl, fun w _ => by go_simp⟩) B6 ?_
          refine wpAnyH_take (i := 3) (v := .int .i64 0) rfl (by kernel_rfl) (by kernel_rfl) (by kernel_rfl) (fun _ _ _ h => h) (Or.inl ⟨by kernel_rfl, fun w _ => by go_simp⟩) B6 ?_
          refine wpAnyH_take (i := 4) (v := .bool false) rfl (by kernel_rfl) (by kernel_rfl) (by kernel_rfl) (fun _ _ _ h => h) (Or.inl ⟨by kernel_rfl, fun w _ => by go_simp⟩) B6 ?_
          refine wpAnyH_take (i := 5) (v := .bool false) rfl (by kernel_rfl) (by kernel_rfl) (by kernel_rfl) (fun _ _ _ h => h) (Or.inl ⟨by kernel_rfl, fun w _ => by go_simp⟩) B6 ?_
          refine wpAnyH_take (i := 6) (v := .bool false) rfl (by kernel_rfl) (by kernel_rfl) (by kernel_rfl) (fun _ _ _ h => h) (Or.inl ⟨by kernel_rfl, fun w _ => by go_simp⟩) B6 ?_
          refine wpAnyH_take (i := 7) (v := .agg (cl P1)) rfl (by kernel_rfl) (by kernel_rfl) (by kernel_rfl) (fun _ _ _ h => h) (yields_pload (g := g7) (.tmp 7) (by kernel_rfl) (by kernel_rfl) (by kernel_rfl) HP1.out) B6 ?_
          refine wpAnyH_take (i := 8) (v := .agg (cl P2)) rfl (by kernel_rfl) (by kernel_rfl) (by kernel_rfl) (fun _ _ _ h => h) (yields_pload (g := g9) (.tmp 9) (by kernel_rfl) (by kernel_rfl) (by kernel_rfl) HP2.out) B6 ?_
          refine wpAnyH_take (i := 9) (v := .bool true) rfl (by kernel_rfl) (by kernel_rfl) (by kernel_rfl) (fun _ _ _ h => h) (Or.inl ⟨by kernel_rfl, fun w _ => by go_simp⟩) B6 ?_
          refine wpAnyH_take (i := 10) (v := .pointer (some ⟨w.heap.size, 0, none⟩)) rfl (by kernel_rfl) (by kernel_rfl) (by kernel_rfl) (fun _ _ _ h => h) (Or.inl ⟨by kernel_rfl, fun w _ => by go_simp⟩) B6 ?_
          refine wpAnyH_take (i := 11) (v := .int .u8 ((k0.toNat : Nat) : Int)) rfl (by kernel_rfl) (by kernel_rfl) (by kernel_rfl) (fun _ _ _ h => h) (yields_cell (p := ⟨w.heap.size, 0, none⟩) u8_flat (.tmp 47) (by kernel_rfl) (by kernel_rfl) (by kernel_rfl) HK0.out) B6 ?_
          refine wpAnyH_take (i := 12) (v := .pointer (some ⟨w.heap.size, 1, none⟩)) rfl (by kernel_rfl) (by kernel_rfl) (by kernel_rfl) (fun _ _ _ h => h) (Or.inl ⟨by kernel_rfl, fun w _ => by go_simp⟩) B6 ?_
          refine wpAnyH_take (i := 13) (v := .int .u8 ((k0.toNat : Nat) : Int)) rfl (by kernel_rfl) (by kernel_rfl) (by kernel_rfl) (fun _ _ _ h => h) (yields_cell (p := ⟨w.heap.size, 1, none⟩) u8_flat (.tmp 49) (by kernel_rfl) (by kernel_rfl) (by kernel_rfl) HK1.out) B6 ?_
          refine wpAnyH_take (i := 14) (v := .bool true) rfl (by kernel_rfl) (by kernel_rfl) (by kernel_rfl) (fun _ _ _ h => h) (Or.inl ⟨by kernel_rfl, fun w _ => by go_simp⟩) B6 ?_
          refine wpAnyH_take (i := 15) (v := .bool true) rfl (by kernel_rfl) (by kernel_rfl) (by kernel_rfl) (fun _ _ _ h => h) (Or.inl ⟨by kernel_rfl, fun w _ => by go_simp⟩) B6 ?_
          refine wpAnyH_take (i := 16) (v := va) rfl (by kernel_rfl) (by kernel_rfl) (by kernel_rfl) (fun _ _ _ h => h) (Or.inl ⟨by kernel_rfl, fun w _ => by go_simp⟩) B6 ?_
          refine wpAnyH_take (i := 17) (v := .string ⟨a.toArray⟩) rfl (by kernel_rfl) (by kernel_rfl) (by kernel_rfl) (fun _ _ _ h => h) (yields_conv (src := 24) (dst := 9) (v := va) (.tmp 53) (by kernel_rfl) (by kernel_rfl) (by kernel_rfl) HS0.out) B6 ?_
          refine wpAnyH_take (i := 18) (v := vb) rfl (by kernel_rfl) (by kernel_rfl) (by kernel_rfl) (fun _ _ _ h => h) (Or.inl ⟨by kernel_rfl, fun w _ => by go_simp⟩) B6 ?_
          refine wpAnyH_take (i := 19) (v := .string ⟨a.toArray⟩) rfl (by kernel_rfl) (by kernel_rfl) (by kernel_rfl) (fun _ _ _ h => h) (yields_conv (src := 24) (dst := 9) (v := vb) (.tmp 55) (by kernel_rfl) (by kernel_rfl) (by kernel_rfl) HS1.out) B6 ?_
          refine wpAnyH_take (i := 20) (v := .bool true) rfl (by kernel_rfl) (by kernel_rfl) (by kernel_rfl) (fun _ _ _ h => h) (Or.inl ⟨by kernel_rfl, fun w _ => by go_simp⟩) B6 ?_
          refine wpAnyH_take (i := 21) (v := .bool true) rfl (by kernel_rfl) (by kernel_rfl) (by kernel_rfl) (fun _ _ _ h => h) (Or.inl ⟨by kernel_rfl, fun w _ => by go_simp⟩) B6 ?_
          refine wpAnyH_take (i := 22) (v := .bool true) rfl (by kernel_rfl) (by kernel_rfl) (by kernel_rfl) (fun _ _ _ h => h) (Or.inl ⟨by kernel_rfl, fun w _ => by go_simp⟩) B6 ?_
          refine wpAnyH_take (i := 23) (v := .bool true) rfl (by kernel_rfl) (by kernel_rfl) (by kernel_rfl) (fun _ _ _ h => h) (Or.inl ⟨by kernel_rfl, fun w _ => by go_simp⟩) B6 ?_
          refine wpAnyH_ready (rs := [24]) (by kernel_rfl) (by simp) (AllReadyH.cons rfl (fun K hK => ?_) AllReadyH.nil)
          go_simp
          refine hK.out _ _ B6 (fun _ => ?_)
          clear hK K
          refine wpAnyH_done (by kernel_rfl) ?_ _
          go_wp2_with fail
          go_ret
          exact ⟨rfl, B5.out.trans (B6.mono B5.out.size)⟩
        · have hP : P1 ≠ P2 := fun e => hab (FM.page_inj hg1.2.1 hg2.2.1 (by rw [← hg1.2.2, ← hg2.2.2, e])).2
          rw [decide_eq_false hP] at hEq
          have hbn : (a == b) = false := by simp [hab]
          clear hg1 hg2 hP hab
          refine wp_region_held_drew (S := fun w' => Below w5.heap.size w5 w') (by kernel_rfl) B6 (fun _ => ?_)
          refine wpAnyH_take (i := 0) (v := .int .i64 0) rfl (by kernel_rfl) (by kernel_rfl) (by kernel_rfl) (fun _ _ _ h => h) (Or.inl ⟨by kernel_rfl, fun w _ => by go_simp⟩) B6 ?_
          refine wpAnyH_take (i := 1) (v := .bool false) rfl (by kernel_rfl) (by kernel_rfl) (by kernel_rfl) (fun _ _ _ h => h) (Or.inl ⟨by kernel_rfl, fun w _ => by go_simp⟩) B6 ?_
          refine wpAnyH_take (i := 2) (v := .bool false) rfl (by kernel_rfl) (by kernel_rfl) (by kernel_rfl) (fun _ _ _ h => h) (Or.inl ⟨by kernel_rfl, fun w _ => by go_simp⟩) B6 ?_
          refine wpAnyH_take (i := 3) (v := .int .i64 0) rfl (by kernel_rfl) (by kernel_rfl) (by kernel_rfl) (fun _ _ _ h => h) (Or.inl ⟨by kernel_rfl, fun w _ => by go_simp⟩) B6 ?_
          refine wpAnyH_take (i := 4) (v := .bool false) rfl (by kernel_rfl) (by kernel_rfl) (by kernel_rfl) (fun _ _ _ h => h) (Or.inl ⟨by kernel_rfl, fun w _ => by go_simp⟩) B6 ?_
          refine wpAnyH_take (i := 5) (v := .bool false) rfl (by kernel_rfl) (by kernel_rfl) (by kernel_rfl) (fun _ _ _ h => h) (Or.inl ⟨by kernel_rfl, fun w _ => by go_simp⟩) B6 ?_
          refine wpAnyH_take (i := 6) (v := .bool false) rfl (by kernel_rfl) (by kernel_rfl) (by kernel_rfl) (fun _ _ _ h => h) (Or.inl ⟨by kernel_rfl, fun w _ => by go_simp⟩) B6 ?_
          refine wpAnyH_take (i := 7) (v := .agg (cl P1)) rfl (by kernel_rfl) (by kernel_rfl) (by kernel_rfl) (fun _ _ _ h => h) (yields_pload (g := g7) (.tmp 7) (by kernel_rfl) (by kernel_rfl) (by kernel_rfl) HP1.out) B6 ?_
          refine wpAnyH_take (i := 8) (v := .agg (cl P2)) rfl (by kernel_rfl) (by kernel_rfl) (by kernel_rfl) (fun _ _ _ h => h) (yields_pload (g := g9) (.tmp 9) (by kernel_rfl) (by kernel_rfl) (by kernel_rfl) HP2.out) B6 ?_
          refine wpAnyH_take (i := 9) (v := .bool false) rfl (by kernel_rfl) (by kernel_rfl) (by kernel_rfl) (fun _ _ _ h => h) (Or.inl ⟨by kernel_rfl, fun w _ => by go_simp⟩) B6 ?_
          refine wpAnyH_take (i := 10) (v := .pointer (some ⟨w.heap.size, 0, none⟩)) rfl (by kernel_rfl) (by kernel_rfl) (by kernel_rfl) (fun _ _ _ h => h) (Or.inl ⟨by kernel_rfl, fun w _ => by go_simp⟩) B6 ?_
          refine wpAnyH_take (i := 11) (v := .int .u8 ((k0.toNat : Nat) : Int)) rfl (by kernel_rfl) (by kernel_rfl) (by kernel_rfl) (fun _ _ _ h => h) (yields_cell (p := ⟨w.heap.size, 0, none⟩) u8_flat (.tmp 47) (by kernel_rfl) (by kernel_rfl) (by kernel_rfl) HK0.out) B6 ?_
          refine wpAnyH_take (i := 12) (v := .pointer (some ⟨w.heap.size, 1, none⟩)) rfl (by kernel_rfl) (by kernel_rfl) (by kernel_rfl) (fun _ _ _ h => h) (Or.inl ⟨by kernel_rfl, fun w _ => by go_simp⟩) B6 ?_
          refine wpAnyH_take (i := 13) (v := .int .u8 ((k0.toNat : Nat) : Int)) rfl (by kernel_rfl) (by kernel_rfl) (by kernel_rfl) (fun _ _ _ h => h) (yields_cell (p := ⟨w.heap.size, 1, none⟩) u8_flat (.tmp 49) (by kernel_rfl) (by kernel_rfl) (by kernel_rfl) HK1.out) B6 ?_
          refine wpAnyH_take (i := 14) (v := .bool true) rfl (by kernel_rfl) (by kernel_rfl) (by kernel_rfl) (fun _ _ _ h => h) (Or.inl ⟨by kernel_rfl, fun w _ => by go_simp⟩) B6 ?_
          refine wpAnyH_take (i := 15) (v := .bool true) rfl (by kernel_rfl) (by kernel_rfl) (by kernel_rfl) (fun _ _ _ h => h) (Or.inl ⟨by kernel_rfl, fun w _ => by go_simp⟩) B6 ?_
          refine wpAnyH_take (i := 16) (v := va) rfl (by kernel_rfl) (by kernel_rfl) (by kernel_rfl) (fun _ _ _ h => h) (Or.inl ⟨by kernel_rfl, fun w _ => by go_simp⟩) B6 ?_
          refine wpAnyH_take (i := 17) (v := .string ⟨a.toArray⟩) rfl (by kernel_rfl) (by kernel_rfl) (by kernel_rfl) (fun _ _ _ h => h) (yields_conv (src := 24) (dst := 9) (v := va) (.tmp 53) (by kernel_rfl) (by kernel_rfl) (by kernel_rfl) HS0.out) B6 ?_
          refine wpAnyH_take (i := 18) (v := vb) rfl (by kernel_rfl) (by kernel_rfl) (by kernel_rfl) (fun _ _ _ h => h) (Or.inl ⟨by kernel_rfl, fun w _ => by go_simp⟩) B6 ?_
          refine wpAnyH_take (i := 19) (v := .string ⟨b.toArray⟩) rfl (by kernel_rfl) (by kernel_rfl) (by kernel_rfl) (fun _ _ _ h => h) (yields_conv (src := 24) (dst := 9) (v := vb) (.tmp 55) (by kernel_rfl) (by kernel_rfl) (by kernel_rfl) HS1.out) B6 ?_
          refine wpAnyH_take (i := 20) (v := .bool false) rfl (by kernel_rfl) (by kernel_rfl) (by kernel_rfl) (fun _ _ _ h => h) (Or.inl ⟨by kernel_rfl, fun w _ => by go_simp⟩) B6 ?_
          refine wpAnyH_take (i := 21) (v := .bool false) rfl (by kernel_rfl) (by kernel_rfl) (by kernel_rfl) (fun _ _ _ h => h) (Or.inl ⟨by kernel_rfl, fun w _ => by go_simp⟩) B6 ?_
          refine wpAnyH_take (i := 22) (v := .bool true) rfl (by kernel_rfl) (by kernel_rfl) (by kernel_rfl) (fun _ _ _ h => h) (Or.inl ⟨by kernel_rfl, fun w _ => by go_simp⟩) B6 ?_
          refine wpAnyH_take (i := 23) (v := .bool true) rfl (by kernel_rfl) (by kernel_rfl) (by kernel_rfl) (fun _ _ _ h => h) (Or.inl ⟨by kernel_rfl, fun w _ => by go_simp⟩) B6 ?_
          refine wpAnyH_ready (rs := [24]) (by kernel_rfl) (by simp) (AllReadyH.cons rfl (fun K hK => ?_) AllReadyH.nil)
          go_simp
          refine hK.out _ _ B6 (fun _ => ?_)
          clear hK K
          refine wpAnyH_done (by kernel_rfl) ?_ _
          go_wp2_with fail
          go_ret
          exact ⟨rfl, B5.out.trans (B6.mono B5.out.size)⟩
      · have hP : P1 ≠ P2 := fun e => hk (FM.page_inj hg1.2.1 hg2.2.1 (by rw [← hg1.2.2, ← hg2.2.2, e])).1
        rw [decide_eq_false hP] at hEq
        have d5 : (((k0.toNat : Nat) : Int) == ((k1.toNat : Nat) : Int)) = false := beq_eq_false_iff_ne.2 (fun e => hk (UInt8.toNat_inj.1 (Int.ofNat.inj e)))
        clear hg1 hg2 hP hk
        refine wp_region_held_drew (S := fun w' => Below w5.heap.size w5 w') (by kernel_rfl) B6 (fun _ => ?_)
        refine wpAnyH_take (i := 0) (v := .int .i64 0) rfl (by kernel_rfl) (by kernel_rfl) (by kernel_rfl) (fun _ _ _ h => h) (Or.inl ⟨by kernel_rfl, fun w _ => by go_simp⟩) B6 ?_
        refine wpAnyH_take (i := 1) (v := .bool false) rfl (by kernel_rfl) (by kernel_rfl) (by kernel_rfl) (fun _ _ _ h => h) (Or.inl ⟨by kernel_rfl, fun w _ => by go_simp⟩) B6 ?_
        refine wpAnyH_take (i := 2) (v := .bool false) rfl (by kernel_rfl) (by kernel_rfl) (by kernel_rfl) (fun _ _ _ h => h) (Or.inl ⟨by kernel_rfl, fun w _ => by go_simp⟩) B6 ?_
        refine wpAnyH_take (i := 3) (v := .int .i64 0) rfl (by kernel_rfl) (by kernel_rfl) (by kernel_rfl) (fun _ _ _ h => h) (Or.inl ⟨by kernel_rfl, fun w _ => by go_simp⟩) B6 ?_
        refine wpAnyH_take (i := 4) (v := .bool false) rfl (by kernel_rfl) (by kernel_rfl) (by kernel_rfl) (fun _ _ _ h => h) (Or.inl ⟨by kernel_rfl, fun w _ => by go_simp⟩) B6 ?_
        refine wpAnyH_take (i := 5) (v := .bool false) rfl (by kernel_rfl) (by kernel_rfl) (by kernel_rfl) (fun _ _ _ h => h) (Or.inl ⟨by kernel_rfl, fun w _ => by go_simp⟩) B6 ?_
        refine wpAnyH_take (i := 6) (v := .bool false) rfl (by kernel_rfl) (by kernel_rfl) (by kernel_rfl) (fun _ _ _ h => h) (Or.inl ⟨by kernel_rfl, fun w _ => by go_simp⟩) B6 ?_
        refine wpAnyH_take (i := 7) (v := .agg (cl P1)) rfl (by kernel_rfl) (by kernel_rfl) (by kernel_rfl) (fun _ _ _ h => h) (yields_pload (g := g7) (.tmp 7) (by kernel_rfl) (by kernel_rfl) (by kernel_rfl) HP1.out) B6 ?_
        refine wpAnyH_take (i := 8) (v := .agg (cl P2)) rfl (by kernel_rfl) (by kernel_rfl) (by kernel_rfl) (fun _ _ _ h => h) (yields_pload (g := g9) (.tmp 9) (by kernel_rfl) (by kernel_rfl) (by kernel_rfl) HP2.out) B6 ?_
        refine wpAnyH_take (i := 9) (v := .bool false) rfl (by kernel_rfl) (by kernel_rfl) (by kernel_rfl) (fun _ _ _ h => h) (Or.inl ⟨by kernel_rfl, fun w _ => by go_simp⟩) B6 ?_
        refine wpAnyH_take (i := 10) (v := .pointer (some ⟨w.heap.size, 0, none⟩)) rfl (by kernel_rfl) (by kernel_rfl) (by kernel_rfl) (fun _ _ _ h => h) (Or.inl ⟨by kernel_rfl, fun w _ => by go_simp⟩) B6 ?_
        refine wpAnyH_take (i := 11) (v := .int .u8 ((k0.toNat : Nat) : Int)) rfl (by kernel_rfl) (by kernel_rfl) (by kernel_rfl) (fun _ _ _ h => h) (yields_cell (p := ⟨w.heap.size, 0, none⟩) u8_flat (.tmp 47) (by kernel_rfl) (by kernel_rfl) (by kernel_rfl) HK0.out) B6 ?_
        refine wpAnyH_take (i := 12) (v := .pointer (some ⟨w.heap.size, 1, none⟩)) rfl (by kernel_rfl) (by kernel_rfl) (by kernel_rfl) (fun _ _ _ h => h) (Or.inl ⟨by kernel_rfl, fun w _ => by go_simp⟩) B6 ?_
        refine wpAnyH_take (i := 13) (v := .int .u8 ((k1.toNat : Nat) : Int)) rfl (by kernel_rfl) (by kernel_rfl) (by kernel_rfl) (fun _ _ _ h => h) (yields_cell (p := ⟨w.heap.size, 1, none⟩) u8_flat (.tmp 49) (by kernel_rfl) (by kernel_rfl) (by kernel_rfl) HK1.out) B6 ?_
        refine wpAnyH_take (i := 14) (v := .bool false) rfl (by kernel_rfl) (by kernel_rfl) (by kernel_rfl) (fun _ _ _ h => h) (Or.inl ⟨by kernel_rfl, fun w _ => by go_simp⟩) B6 ?_
        refine wpAnyH_take (i := 15) (v := .bool false) rfl (by kernel_rfl) (by kernel_rfl) (by kernel_rfl) (fun _ _ _ h => h) (Or.inl ⟨by kernel_rfl, fun w _ => by go_simp⟩) B6 ?_
        refine wpAnyH_take (i := 16) (v := undef) rfl (by kernel_rfl) (by kernel_rfl) (by kernel_rfl) (fun _ _ _ h => h) (Or.inr ⟨by kernel_rfl, rfl⟩) B6 ?_
        refine wpAnyH_take (i := 17) (v := undef) rfl (by kernel_rfl) (by kernel_rfl) (by kernel_rfl) (fun _ _ _ h => h) (Or.inr ⟨by kernel_rfl, rfl⟩) B6 ?_
        refine wpAnyH_take (i := 18) (v := undef) rfl (by kernel_rfl) (by kernel_rfl) (by kernel_rfl) (fun _ _ _ h => h) (Or.inr ⟨by kernel_rfl, rfl⟩) B6 ?_
        refine wpAnyH_take (i := 19) (v := undef) rfl (by kernel_rfl) (by kernel_rfl) (by kernel_rfl) (fun _ _ _ h => h) (Or.inr ⟨by kernel_rfl, rfl⟩) B6 ?_
        refine wpAnyH_take (i := 20) (v := undef) rfl (by kernel_rfl) (by kernel_rfl) (by kernel_rfl) (fun _ _ _ h => h) (Or.inr ⟨by kernel_rfl, rfl⟩) B6 ?_
        refine wpAnyH_take (i := 21) (v := .bool false) rfl (by kernel_rfl) (by kernel_rfl) (by kernel_rfl) (fun _ _ _ h => h) (Or.inl ⟨by kernel_rfl, fun w _ => by go_simp⟩) B6 ?_
        refine wpAnyH_take (i := 22) (v := .bool true) rfl (by kernel_rfl) (by kernel_rfl) (by kernel_rfl) (fun _ _ _ h => h) (Or.inl ⟨by kernel_rfl, fun w _ => by go_simp⟩) B6 ?_
        refine wpAnyH_take (i := 23) (v := .bool true) rfl (by kernel_rfl) (by kernel_rfl) (by kernel_rfl) (fun _ _ _ h => h) (Or.inl ⟨by kernel_rfl, fun w _ => by go_simp⟩) B6 ?_
        refine wpAnyH_ready (rs := [24]) (by kernel_rfl) (by simp) (AllReadyH.cons rfl (fun K hK => ?_) AllReadyH.nil)
        go_simp
        refine hK.out _ _ B6 (fun _ => ?_)
        clear hK K
        refine wpAnyH_done (by kernel_rfl) ?_ _
        go_wp2_with fail
        go_ret
        exact ⟨rfl, B5.out.trans (B6.mono B5.out.size)⟩
    · have d4 : ((e2 : Int) != 0) = true := by simp; omega
      refine wp_region_held_drew (S := fun w' => Below w5.heap.size w5 w') (by kernel_rfl) B6 (fun _ => ?_)
      refine wpAnyH_take (i := 0) (v := .int .i64 0) rfl (by kernel_rfl) (by kernel_rfl) (by kernel_rfl) (fun _ _ _ h => h) (Or.inl ⟨by kernel_rfl, fun w _ => by go_simp⟩) B6 ?_
      refine wpAnyH_take (i := 1) (v := .bool false) rfl (by kernel_rfl) (by kernel_rfl) (by kernel_rfl) (fun _ _ _ h => h) (Or.inl ⟨by kernel_rfl, fun w _ => by go_simp⟩) B6 ?_
      refine wpAnyH_take (i := 2) (v := .bool false) rfl (by kernel_rfl) (by kernel_rfl) (by kernel_rfl) (fun _ _ _ h => h) (Or.inl ⟨by kernel_rfl, fun w _ => by go_simp⟩) B6 ?_
      refine wpAnyH_take (i := 3) (v := .int .i64 (e2 : Int)) rfl (by kernel_rfl) (by kernel_rfl) (by kernel_rfl) (fun _ _ _ h => h) (Or.inl ⟨by kernel_rfl, fun w _ => by go_simp⟩) B6 ?_
      refine wpAnyH_take (i := 4) (v := .bool true) rfl (by kernel_rfl) (by kernel_rfl) (by kernel_rfl) (fun _ _ _ h => h) (Or.inl ⟨by kernel_rfl, fun w _ => by go_simp⟩) B6 ?_
      refine wpAnyH_take (i := 5) (v := .bool true) rfl (by kernel_rfl) (by kernel_rfl) (by kernel_rfl) (fun _ _ _ h => h) (Or.inl ⟨by kernel_rfl, fun w _ => by go_simp⟩) B6 ?_
      refine wpAnyH_take (i := 6) (v := .bool true) rfl (by kernel_rfl) (by kernel_rfl) (by kernel_rfl) (fun _ _ _ h => h) (Or.inl ⟨by kernel_rfl, fun w _ => by go_simp⟩) B6 ?_
      refine wpAnyH_take (i := 7) (v := undef) rfl (by kernel_rfl) (by kernel_rfl) (by kernel_rfl) (fun _ _ _ h => h) (Or.inr ⟨by kernel_rfl, rfl⟩) B6 ?_
      refine wpAnyH_take (i := 8) (v := undef) rfl (by kernel_rfl) (by kernel_rfl) (by kernel_rfl) (fun _ _ _ h => h) (Or.inr ⟨by kernel_rfl, rfl⟩) B6 ?_
      refine wpAnyH_take (i := 9) (v := undef) rfl (by kernel_rfl) (by kernel_rfl) (by kernel_rfl) (fun _ _ _ h => h) (Or.inr ⟨by kernel_rfl, rfl⟩) B6 ?_
      refine wpAnyH_take (i := 10) (v := undef) rfl (by kernel_rfl) (by kernel_rfl) (by kernel_rfl) (fun _ _ _ h => h) (Or.inr ⟨by kernel_rfl, rfl⟩) B6 ?_
      refine wpAnyH_take (i := 11) (v := undef) rfl (by kernel_rfl) (by kernel_rfl) (by kernel_rfl) (fun _ _ _ h => h) (Or.inr ⟨by kernel_rfl, rfl⟩) B6 ?_
      refine wpAnyH_take (i := 12) (v := undef) rfl (by kernel_rfl) (by kernel_rfl) (by kernel_rfl) (fun _ _ _ h => h) (Or.inr ⟨by kernel_rfl, rfl⟩) B6 ?_
      refine wpAnyH_take (i := 13) (v := undef) rfl (by kernel_rfl) (by kernel_rfl) (by kernel_rfl) (fun _ _ _ h => h) (Or.inr ⟨by kernel_rfl, rfl⟩) B6 ?_
      refine wpAnyH_take (i := 14) (v := undef) rfl (by kernel_rfl) (by kernel_rfl) (by kernel_rfl) (fun _ _ _ h => h) (Or.inr ⟨by kernel_rfl, rfl⟩) B6 ?_
      refine wpAnyH_take (i := 15) (v := undef) rfl (by kernel_rfl) (by kernel_rfl) (by kernel_rfl) (fun _ _ _ h => h) (Or.inr ⟨by kernel_rfl, rfl⟩) B6 ?_
      refine wpAnyH_take (i := 16) (v := undef) rfl (by kernel_rfl) (by kernel_rfl) (by kernel_rfl) (fun _ _ _ h => h) (Or.inr ⟨by kernel_rfl, rfl⟩) B6 ?_
      refine wpAnyH_take (i := 17) (v := undef) rfl (by kernel_rfl) (by kernel_rfl) (by kernel_rfl) (fun _ _ _ h => h) (Or.inr ⟨by kernel_rfl, rfl⟩) B6 ?_
      refine wpAnyH_take (i := 18) (v := undef) rfl (by kernel_rfl) (by kernel_rfl) (by kernel_rfl) (fun _ _ _ h => h) (Or.inr ⟨by kernel_rfl, rfl⟩) B6 ?_
      refine wpAnyH_take (i := 19) (v := undef) rfl (by kernel_rfl) (by kernel_rfl) (by kernel_rfl) (fun _ _ _ h => h) (Or.inr ⟨by kernel_rfl, rfl⟩) B6 ?_
      refine wpAnyH_take (i := 20) (v := undef) rfl (by kernel_rfl) (by kernel_rfl) (by kernel_rfl) (fun _ _ _ h => h) (Or.inr ⟨by kernel_rfl, rfl⟩) B6 ?_
      refine wpAnyH_take (i := 21) (v := undef) rfl (by kernel_rfl) (by kernel_rfl) (by kernel_rfl) (fun _ _ _ h => h) (Or.inr ⟨by kernel_rfl, rfl⟩) B6 ?_
      refine wpAnyH_take (i := 22) (v := undef) rfl (by kernel_rfl) (by kernel_rfl) (by kernel_rfl) (fun _ _ _ h => h) (Or.inr ⟨by kernel_rfl, rfl⟩) B6 ?_
      refine wpAnyH_take (i := 23) (v := .bool true) rfl (by kernel_rfl) (by kernel_rfl) (by kernel_rfl) (fun _ _ _ h => h) (Or.inl ⟨by kernel_rfl, fun w _ => by go_simp⟩) B6 ?_
      refine wpAnyH_ready (rs := [24]) (by kernel_rfl) (by simp) (AllReadyH.cons rfl (fun K hK => ?_) AllReadyH.nil)
      go_simp
      refine hK.out _ _ B6 (fun _ => ?_)
      clear hK K
      refine wpAnyH_done (by kernel_rfl) ?_ _
      go_wp2_with fail
      go_ret
      exact ⟨rfl, B5.out.trans (B6.mono B5.out.size)⟩
  · have d3 : ((e1 : Int) != 0) = true := by simp; omega
    refine wp_region_held_drew (S := fun w' => Below w5.heap.size w5 w') (by kernel_rfl) B6 (fun _ => ?_)
    refine wpAnyH_take (i := 0) (v := .int .i64 (e1 : Int)) rfl (by kernel_rfl) (by kernel_rfl) (by kernel_rfl) (fun _ _ _ h => h) (Or.inl ⟨by kernel_rfl, fun w _ => by go_simp⟩) B6 ?_
    refine wpAnyH_take (i := 1) (v := .bool true) rfl (by kernel_rfl) (by kernel_rfl) (by kernel_rfl) (fun _ _ _ h => h) (Or.inl ⟨by kernel_rfl, fun w _ => by go_simp⟩) B6 ?_
    refine wpAnyH_take (i := 2) (v := .bool true) rfl (by kernel_rfl) (by kernel_rfl) (by kernel_rfl) (fun _ _ _ h => h) (Or.inl ⟨by kernel_rfl, fun w _ => by go_simp⟩) B6 ?_
    refine wpAnyH_take (i := 3) (v := undef) rfl (by kernel_rfl) (by kernel_rfl) (by kernel_rfl) (fun _ _ _ h => h) (Or.inr ⟨by kernel_rfl, rfl⟩) B6 ?_
    refine wpAnyH_take (i := 4) (v := undef) rfl (by kernel_rfl) (by kernel_rfl) (by kernel_rfl) (fun _ _ _ h => h) (Or.inr ⟨by kernel_rfl, rfl⟩) B6 ?_
    refine wpAnyH_take (i := 5) (v := .bool true) rfl (by kernel_rfl) (by kernel_rfl) (by kernel_rfl) (fun _ _ _ h => h) (Or.inl ⟨by kernel_rfl, fun w _ => by go_simp⟩) B6 ?_
    refine wpAnyH_take (i := 6) (v := .bool true) rfl (by kernel_rfl) (by kernel_rfl) (by kernel_rfl) (fun _ _ _ h => h) (Or.inl ⟨by kernel_rfl, fun w _ => by go_simp⟩) B6 ?_
    refine wpAnyH_take (i := 7) (v := undef) rfl (by kernel_rfl) (by kernel_rfl) (by kernel_rfl) (fun _ _ _ h => h) (Or.inr ⟨by kernel_rfl, rfl⟩) B6 ?_
    refine wpAnyH_take (i := 8) (v := undef) rfl (by kernel_rfl) (by kernel_rfl) (by kernel_rfl) (fun _ _ _ h => h) (Or.inr ⟨by kernel_rfl, rfl⟩) B6 ?_
    refine wpAnyH_take (i := 9) (v := undef) rfl (by kernel_rfl) (by kernel_rfl) (by kernel_rfl) (fun _ _ _ h => h) (Or.inr ⟨by kernel_rfl, rfl⟩) B6 ?_
    refine wpAnyH_take (i := 10) (v := undef) rfl (by kernel_rfl) (by kernel_rfl) (by kernel_rfl) (fun _ _ _ h => h) (Or.inr ⟨by kernel_rfl, rfl⟩) B6 ?_
    refine wpAnyH_take (i := 11) (v := undef) rfl (by kernel_rfl) (by kernel_rfl) (by kernel_rfl) (fun _ _ _ h => h) (Or.inr ⟨by kernel_rfl, rfl⟩) B6 ?_
    refine wpAnyH_take (i := 12) (v := undef) rfl (by kernel_rfl) (by kernel_rfl) (by kernel_rfl) (fun _ _ _ h => h) (Or.inr ⟨by kernel_rfl, rfl⟩) B6 ?_
    refine wpAnyH_take (i := 13) (v := undef) rfl (by kernel_rfl) (by kernel_rfl) (by kernel_rfl) (fun _ _ _ h => h) (Or.inr ⟨by kernel_rfl, rfl⟩) B6 ?_
    refine wpAnyH_take (i := 14) (v := undef) rfl (by kernel_rfl) (by kernel_rfl) (by kernel_rfl) (fun _ _ _ h => h) (Or.inr ⟨by kernel_rfl, rfl⟩) B6 ?_
    refine wpAnyH_take (i := 15) (v := undef) rfl (by kernel_rfl) (by kernel_rfl) (by kernel_rfl) (fun _ _ _ h => h) (Or.inr ⟨by kernel_rfl, rfl⟩) B6 ?_
    refine wpAnyH_take (i := 16) (v := undef) rfl (by kernel_rfl) (by kernel_rfl) (by kernel_rfl) (fun _ _ _ h => h) (Or.inr ⟨by kernel_rfl, rfl⟩) B6 ?_
    refine wpAnyH_take (i := 17) (v := undef) rfl (by kernel_rfl) (by kernel_rfl) (by kernel_rfl) (fun _ _ _ h => h) (Or.inr ⟨by kernel_rfl, rfl⟩) B6 ?_
    refine wpAnyH_take (i := 18) (v := undef) rfl (by kernel_rfl) (by kernel_rfl) (by kernel_rfl) (fun _ _ _ h => h) (Or.inr ⟨by kernel_rfl, rfl⟩) B6 ?_
    refine wpAnyH_take (i := 19) (v := undef) rfl (by kernel_rfl) (by kernel_rfl) (by kernel_rfl) (fun _ _ _ h => h) (Or.inr ⟨by kernel_rfl, rfl⟩) B6 ?_
    refine wpAnyH_take (i := 20) (v := undef) rfl (by kernel_rfl) (by kernel_rfl) (by kernel_rfl) (fun _ _ _ h => h) (Or.inr ⟨by kernel_rfl, rfl⟩) B6 ?_
    refine wpAnyH_take (i := 21) (v := undef) rfl (by kernel_rfl) (by kernel_rfl) (by kernel_rfl) (fun _ _ _ h => h) (Or.inr ⟨by kernel_rfl, rfl⟩) B6 ?_
    refine wpAnyH_take (i := 22) (v := undef) rfl (by kernel_rfl) (by kernel_rfl) (by kernel_rfl) (fun _ _ _ h => h) (Or.inr ⟨by kernel_rfl, rfl⟩) B6 ?_
    refine wpAnyH_take (i := 23) (v := .bool true) rfl (by kernel_rfl) (by kernel_rfl) (by kernel_rfl) (fun _ _ _ h => h) (Or.inl ⟨by kernel_rfl, fun w _ => by go_simp⟩) B6 ?_
    refine wpAnyH_ready (rs := [24]) (by kernel_rfl) (by simp) (AllReadyH.cons rfl (fun K hK => ?_) AllReadyH.nil)
    go_simp
    refine hK.out _ _ B6 (fun _ => ?_)
    clear hK K
    refine wpAnyH_done (by kernel_rfl) ?_ _
    go_wp2_with fail
    go_ret
    exact ⟨rfl, B5.out.trans (B6.mono B5.out.size)⟩
set_option maxHeartbeats 2000000 in
theorem apart_long (va vb : Value) (a b : List UInt8) (k0 k1 : UInt8) (w : World) (ht : Tab w) (ha : Bytes w w.heap.size va a) (hb : Bytes w w.heap.size vb b) (hl : 300 < a.length ∨ 300 < b.length) :
    Calls Tryd.prog 7 #[va, vb, .agg #[.int .u8 ((k0.toNat : Nat) : Int), .int .u8 ((k1.toNat : Nat) : Int)]] w fun e w' => e = .returned (.bool true) ∧ Below w.heap.size w w' := by
  have HT := Lib.hid ht
  have B0 : Hid (Below w.heap.size w (w.alloc (.cells #[.int .u8 ((k0.toNat : Nat) : Int), .int .u8 ((k1.toNat : Nat) : Int)] 41))) := Lib.hid ((Below.refl _ _).alloc (Nat.le_refl _) _)
  have s0 := speaks_any _ (HT.out.below B0.out HT.out.lt)
  obtain ⟨Aa, ca, rfl, hca, hma, hra⟩ := ha
  obtain ⟨Ab, cb, rfl, hcb, hmb, hrb⟩ := hb
  unfold maxLen at hma hmb
  clear hra hrb ht
  by_cases h1 : 300 < a.length
  · have d1 : decide ((300 : Int) < (a.length : Int)) = true := by simp; omega
    clear hl
    go_enter Tryd.func7, Tryd.ntmps7
    go_wp2_with fail
    ((with_reducible refine s0.mono ?_); rintro e w2 ⟨rfl, hb2⟩)
    have B2 := Lib.hid (B0.out.trans (hb2.mono B0.out.size))
    go_wp2_with fail
    go_ret
    exact ⟨rfl, B2.out⟩
  · have h2 : 300 < b.length := hl.resolve_left h1
    have d1 : decide ((300 : Int) < (a.length : Int)) = false := by simp; omega
    have d2 : decide ((300 : Int) < (b.length : Int)) = true := by simp; omega
    clear hl
    go_enter Tryd.func7, Tryd.ntmps7
    go_wp2_with fail
    ((with_reducible refine s0.mono ?_); rintro e w2 ⟨rfl, hb2⟩)
    have B2 := Lib.hid (B0.out.trans (hb2.mono B0.out.size))
    go_wp2_with fail
    go_ret
    exact ⟨rfl, B2.out⟩
theorem frameApart_any (v0 v1 v2 : Value) (w : World) (ht : Tab w) (h0 : ∃ l, Bytes w w.heap.size v0 l) (h1 : ∃ l, Bytes w w.heap.size v1 l) (h2 : ∃ a b, v2 = .agg #[.int .u8 a, .int .u8 b] ∧ (Lit.int .u8 a).wf = true ∧ (Lit.int .u8 b).wf = true) :
    Calls Tryd.prog 7 #[v0, v1, v2] w fun e w' => e = .returned (.bool true) ∧ Below w.heap.size w w' := by
  obtain ⟨a, ha⟩ := h0
  obtain ⟨b, hb⟩ := h1
  obtain ⟨x, y, rfl, hx, hy⟩ := h2
  obtain ⟨k0, rfl⟩ := u8_of_wf hx
  obtain ⟨k1, rfl⟩ := u8_of_wf hy
  by_cases hl : 300 < a.length ∨ 300 < b.length
  · exact apart_long v0 v1 a b k0 k1 w ht ha hb hl
  · exact apart_main v0 v1 a b k0 k1 w ht ha hb (by omega) (by omega)
end Go.Proofs.YtnclefdlmbkjmaaDoor
