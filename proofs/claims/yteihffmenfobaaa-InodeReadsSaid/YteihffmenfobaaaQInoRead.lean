/- What Read of inode answers: the inode of bytes. No condition but that the bytes are there. -/
import Derived.Test.YteihffmenfobaaaQInoReadM
import Derived.Test.YteihffmenfobaaaQCore
namespace Go.Proofs.Yteihffmenfobaaa
open Go.RowKit
def rn2 (l : List UInt8) : Nat := if 2 ≤ l.length then le (l.take 2) else 0
theorem rn2_lt (l : List UInt8) : rn2 l < 65536 := by
  have h := le_lt (l.take 2)
  have h2 : 256 ^ (l.take 2).length ≤ 256 ^ 2 := Nat.pow_le_pow_right (by omega) (by rw [List.length_take]; omega)
  unfold rn2
  split <;> omega
theorem rnum2' (g h : Nat) (l : List UInt8) (bad : Bool) (w : World) (hr : Rd w g h l bad) :
    Calls Try.prog 47 #[.pointer (some ⟨g, 0, none⟩), .int .i64 2] w fun e w' => e = .returned (.int .u64 (rn2 l : Int)) ∧ Rd w' g h (l.drop 2) (bad || decide (l.length < 2)) ∧ w.grownBy w' (some g) := by
  have e1 : wid 2 = 2 := rfl
  by_cases hl : 2 ≤ l.length
  · refine (rnum_yes g h l bad 2 w hr (by rw [e1]; exact hl)).mono ?_
    rintro e w' ⟨rfl, h1, h2⟩
    rw [e1] at h1 ⊢
    rw [decide_eq_false (by omega), Bool.or_false, show rn2 l = le (l.take 2) from if_pos hl]
    exact ⟨rfl, h1, h2⟩
  · refine (rnum_no g h l bad 2 w hr (by rw [e1]; omega)).mono ?_
    rintro e w' ⟨rfl, h1, h2⟩
    rw [show rn2 l = 0 from if_neg hl, decide_eq_true (by omega), Bool.or_true, List.drop_eq_nil_of_le (by omega)]
    exact ⟨rfl, h1, h2⟩
/-- what is read, before it is looked at: the inode, what is left, and whether it was too little -/
def rPre (l : List UInt8) : IN × List UInt8 × Bool :=
  if r1 l = 1 then (⟨1, (rn2 (l.drop 1) : Int), []⟩, (l.drop 1).drop 2, (decide (l.length < 1) || decide ((l.drop 1).length < 2)))
  else if r1 l = 2 then (⟨2, 0, (rEs (r1 (l.drop 1)) ((l.drop 1).drop 1) (decide (l.length < 1) || decide ((l.drop 1).length < 1))).1⟩, (rEs (r1 (l.drop 1)) ((l.drop 1).drop 1) (decide (l.length < 1) || decide ((l.drop 1).length < 1))).2)
  else (⟨(r1 l : Int), 0, []⟩, l.drop 1, decide (l.length < 1))
/-- the inode of bytes -/
def inoR (l : List UInt8) : Option IN := if l.length ≤ 114 ∧ (rPre l).2.2 = false ∧ (rPre l).2.1 = [] ∧ (rPre l).1.ok then some (rPre l).1 else none
def errR (o : Option IN) : Int := if o.isSome then 0 else 11
theorem iret2 {fn : Func} {p u : Tmp} {w : World} {g : Nat} {vs : List Value} (h : fn.results = #[.cell p 24, .tmp u]) (tmps : Array Value) (hB : Blk w g 24 vs) (hn : vs.length = 3) (hp : tmps.getD p undef = .pointer (some ⟨g, 0, none⟩)) :
    (results fn tmps).run Try.prog w = .ok (.tuple #[.agg vs.toArray, tmps.getD u undef]) w :=
  sret2 aggI sizeI h tmps hB (by rw [List.drop_zero, List.take_of_length_le (by omega)]) hn hp
theorem OwnE.kept2 {w w' : World} {base g : Nat} {v : Value} {es : List EN} (h : OwnE w base v es) (k : w.grownBy w' (some g)) (hne : v.ownBlock ≠ some g) : OwnE w' base v es :=
  World.ownsRow.kept h k (.inr hne)
set_option maxRecDepth 100000 in
set_option maxHeartbeats 8000000 in
theorem read_any (v : Value) (l : List UInt8) (w : World) (hv : Bytes w w.heap.size v l) :
    Calls Try.prog 17 #[v] w fun x w' => ∃ n, Hid (n = (inoR l).getD ⟨0, 0, []⟩) ∧ ∃ A c, x = .returned (.tuple #[.agg #[.int .i64 n.k, .int .i64 n.z, .slice A n.es.length c], .int .i64 (errR (inoR l))]) ∧ OwnE w' w.heap.size (.slice A n.es.length c) n.es ∧ Below w.heap.size w w' := by
  obtain ⟨A0, c0, rfl, hc, hm, hr⟩ := id hv
  have HV := Lib.hid hv
  unfold maxLen at hm
  clear hr hv
  have b1 := Lib.hid ((Below.refl w.heap.size w).alloc (Nat.le_refl _) (.cells #[.int .i64 0, .int .i64 0, .slice none 0 0] 24))
  have B1 : Blk (w.alloc (.cells #[.int .i64 0, .int .i64 0, .slice none 0 0] 24)) w.heap.size 24 [.int .i64 0, .int .i64 0, .slice none 0 0] := heap_alloc_new w _
  have HB1 := Lib.hid B1
  have V1 := Lib.hid ((HV.out.below b1.out).more b1.out.size)
  by_cases h114 : l.length ≤ 114
  · have i0 : ¬ (114 : Int) < (l.length : Int) := by omega
    have HL1 : Hid ((l.drop 1).length ≤ 1000000) := Lib.hid (by rw [List.length_drop]; omega)
    have KN := Lib.hid (newreader_any _ _ _ V1.out (by omega))
    have KA := Lib.hid (fun g h w hr => rnum1' g h l false w hr)
    have hk := r1_lt l
    obtain ⟨k, hkk⟩ : ∃ k, r1 l = k := ⟨_, rfl⟩
    obtain ⟨l1, hl1⟩ : ∃ l1, l.drop 1 = l1 := ⟨_, rfl⟩
    obtain ⟨b1', hb1'⟩ : ∃ b, decide (l.length < 1) = b := ⟨_, rfl⟩
    have HP := Lib.hid (show rPre l = rPre l from rfl)
    rw [Bool.false_or] at KA
    have HP1 : Hid (k = 1 → rPre l = (⟨1, (rn2 l1 : Int), []⟩, l1.drop 2, (b1' || decide (l1.length < 2)))) := Lib.hid fun e => by rw [rPre, if_pos (hkk.trans e), hl1, hb1']
    have HP2 : Hid (k = 2 → rPre l = (⟨2, 0, (rEs (r1 l1) (l1.drop 1) (b1' || decide (l1.length < 1))).1⟩, (rEs (r1 l1) (l1.drop 1) (b1' || decide (l1.length < 1))).2)) := Lib.hid fun e => by rw [rPre, if_neg (by omega), if_pos (hkk.trans e), hl1, hb1']
    have HP3 : Hid (k ≠ 1 → k ≠ 2 → rPre l = (⟨(k : Int), 0, []⟩, l1, b1')) := Lib.hid fun e1 e2 => by rw [rPre, if_neg (by omega), if_neg (by omega), hl1, hb1', hkk]
    rw [hkk, hl1, hb1'] at KA
    rw [hkk] at hk
    rw [hl1] at HL1
    clear hkk hl1 hb1' HP B1
    have hk2 : (k : Int) < 256 := by omega
    go_enter Try.func17, Try.ntmps17
    go_wp2_with fail
    refine KN.out.mono ?_
    rintro e w2 ⟨g, h, rfl, hrd, hg, hh, hh2, hb2⟩
    have T2 := Lib.hid (b1.out.trans (hb2.mono b1.out.size))
    have B2 := Lib.hid (HB1.out.after hb2)
    have G2 : Hid (w.heap.size < g ∧ w.heap.size < h) := Lib.hid (by have := b1.out.size; simp only [World.size_alloc] at hg hh; omega)
    have K2 := Lib.hid (KA.out _ _ _ hrd)
    have HH2 := Lib.hid hh2
    clear hrd hg hh hh2 hb2 KN KA HB1 HV V1
    go_wp2_with fail
    refine K2.out.mono ?_
    rintro e w3 ⟨rfl, R3, g3⟩
    have T3 := Lib.hid (T2.out.grown g3 T2.out.size (fun q e => by cases e; have := G2.out; omega))
    have B3 := Lib.hid (B2.out.grown g3 (by have := G2.out; simp; omega))
    have HH3 := Lib.hid (Nat.lt_of_lt_of_le HH2.out g3.size)
    have L3 := Lib.hid (Blk.new w3 24 [.int .i64 0, .int .i64 0, .slice none 0 0])
    have H34 := Lib.hid ((Below.refl w3.heap.size w3).alloc (Nat.le_refl _) (.cells #[.int .i64 0, .int .i64 0, .slice none 0 0] 24))
    have R4 := Lib.hid (R3.same H34.out HH3.out)
    have T4 := Lib.hid (T3.out.alloc T3.out.size (.cells #[.int .i64 0, .int .i64 0, .slice none 0 0] 24))
    have B4 := Lib.hid (B3.out.after H34.out)
    have GG := Lib.hid (And.intro R3.lt (And.intro HH3.out (And.intro B3.out.lt (Nat.le_of_lt (Nat.lt_of_le_of_lt T3.out.size (Nat.lt_succ_self _))))))
    clear R3 g3 T2 B2 K2 T3 B3 HH2
    by_cases e1 : k = 1
    · subst e1
      have HPa := Lib.hid (HP1.out rfl)
      clear HP1 HP2 HP3
      go_wp2_with ((with_reducible refine wpl_seg_store sizeI (.tmp 5) (.tmp 15) rfl rfl L3.out 0 [.int .i64 1, .int .i64 0, .slice none 0 0] rfl (Nat.le_refl _) (by simp [Value.oneCell']) rfl rfl _ rfl ?_); intro w5 N5 g5 e5; have c0 : w5.cell? ⟨w3.heap.size, 0, none⟩ = some (.int .i64 1) := N5.cell 0)
      have N5b : Hid (Blk w5 w3.heap.size 24 [.int .i64 1, .int .i64 0, .slice none 0 0]) := Lib.hid N5
      have B5 := Lib.hid (B4.out.grown g5 (by have := GG.out.2.2.1; simp; omega))
      have T5 := Lib.hid (T4.out.grown g5 T4.out.size (fun q e => by cases e; have := GG.out.2.2.1; omega))
      have R5 := Lib.hid (R4.out.beside g5 (by have := GG.out; simp; omega) (by have := GG.out.1; simp; omega) (by have := GG.out.2.1; simp; omega))
      have Z5 : Hid (w3.heap.size < w5.heap.size) := Lib.hid N5.lt
      obtain ⟨gn, hgn⟩ : ∃ gn, w3.heap.size = gn := ⟨_, rfl⟩
      have GN : Hid (g < gn ∧ h < gn ∧ w.heap.size < gn) := Lib.hid (by have := GG.out; omega)
      rw [hgn] at N5b Z5
      simp only [hgn]
      clear N5 g5 e5 c0 L3 H34 R4 T4 B4 hgn GG HH3
      have hz := rn2_lt l1
      have K6 := Lib.hid (rnum2' g h l1 b1' w5 R5.out)
      obtain ⟨zz, hzz⟩ : ∃ zz, rn2 l1 = zz := ⟨_, rfl⟩
      rw [hzz] at K6 HPa hz
      have uz : (zz : Int) < 65536 := by omega
      have HP1 := HPa
      clear hzz hz HPa
      go_wp2_with fail
      refine K6.out.mono ?_
      rintro e w6 ⟨rfl, R6', g6⟩
      have R6a := Lib.hid R6'
      have N6a := Lib.hid (N5b.out.grown g6 (by have := GN.out.1; simp; omega))
      have B6a := Lib.hid (B5.out.grown g6 (by have := G2.out; simp; omega))
      have T6a := Lib.hid (T5.out.grown g6 T5.out.size (fun q e => by cases e; have := G2.out; omega))
      have H6 : Hid (h < w6.heap.size) := Lib.hid (by have := GN.out; have := Z5.out; have := g6.size; omega)
      clear R6' g6 K6 N5b B5 T5 R5 Z5
      have c1 : w6.cell? ⟨gn, 1, none⟩ = some (.int .i64 0) := N6a.out.cell 1
      have f1 := N6a.out.free 1
      have gs : w6.grownBy (w6.setCell ⟨gn, 1, none⟩ (.int .i64 (zz : Int))) (some gn) := only_set w6 ⟨gn, 1, none⟩ (.int .i64 (zz : Int))
      have N6 : Hid (Blk (w6.setCell ⟨gn, 1, none⟩ (.int .i64 (zz : Int))) gn 24 [.int .i64 1, .int .i64 (zz : Int), .slice none 0 0]) := Lib.hid (N6a.out.set 1 (.int .i64 (zz : Int)))
      have B6 := Lib.hid (B6a.out.grown gs (by have := GN.out.2.2; simp; omega))
      have T6 := Lib.hid (T6a.out.grown gs T6a.out.size (fun q e => by cases e; have := GN.out.2.2; omega))
      have R6 := Lib.hid (R6a.out.beside gs H6.out (by have := GN.out.1; simp; omega) (by have := GN.out.2.1; simp; omega))
      have E6 := Lib.hid (OwnE.nil (w6.setCell ⟨gn, 1, none⟩ (.int .i64 (zz : Int))) w.heap.size)
      have hne : Hid ((Value.slice none 0 0).ownBlock ≠ some w.heap.size) := Lib.hid (by simp [Value.ownBlock])
      clear gs R6a N6a B6a T6a
      have HRP := Lib.hid (show rPre l = (⟨1, (zz : Int), []⟩, l1.drop 2, (b1' || decide (l1.length < 2))) from HP1.out)
      have KB := Lib.hid (bad_any g h (l1.drop 2) ((b1' || decide (l1.length < 2))) _ R6.out)
      have KL := Lib.hid (left_any g h (l1.drop 2) ((b1' || decide (l1.length < 2))) _ R6.out)
      obtain ⟨bq, hbq⟩ : ∃ bq, ((b1' || decide (l1.length < 2))) = bq := ⟨_, rfl⟩
      obtain ⟨nq, hnq⟩ : ∃ nq, (l1.drop 2).length = nq := ⟨_, rfl⟩
      rw [hbq] at KB HRP
      rw [hnq] at KL
      have HNQ := Lib.hid hnq
      clear hbq hnq R6
      cases bq with
      | true =>
        have HI : Hid (inoR l = none) := Lib.hid (by unfold inoR; rw [HRP.out]; exact if_neg (fun h => by cases h.2.1))
        clear HNQ KL HRP
        go_wp2_with fail
        generalize w6.setCell ⟨gn, 1, none⟩ (.int .i64 (zz : Int)) = W6 at B6 N6 T6 E6 KB ⊢
        clear c1 f1 uz
        refine KB.out.mono ?_
        rintro e w7 ⟨rfl, rfl⟩
        go_wp2_with ((with_reducible refine wpl_seg_store sizeI (.tmp 2) (.tmp 41) rfl rfl B6.out 0 [.int .i64 0, .int .i64 0, .slice none 0 0] rfl (Nat.le_refl _) (by simp [Value.oneCell']) rfl rfl _ rfl ?_); intro w10 B10 g10 e10)
        refine bodyPost_ret (iret2 rfl _ B10 rfl rfl) rfl ?_
        exact ⟨⟨0, 0, []⟩, Lib.hid (by rw [HI.out]; rfl), none, 0, by rw [HI.out]; rfl, OwnE.nil _ _, T6.out.grown g10 T6.out.size (fun k e => by cases e; exact Nat.le_refl _)⟩
      | false =>
        by_cases hq0 : nq = 0
        · subst hq0
          have KC := Lib.hid (check_any ⟨1, (zz : Int), []⟩ _ _ E6.out.ents)
          obtain ⟨C, hC⟩ : ∃ C : Int, (if (IN.ok ⟨1, (zz : Int), []⟩) then (0 : Int) else 1) = C := ⟨_, rfl⟩
          rw [hC] at KC
          have HC := Lib.hid hC
          clear hC
          have HNS := True.intro
          have E6b := Lib.hid (E6.out)
          go_wp2_with fail
          generalize w6.setCell ⟨gn, 1, none⟩ (.int .i64 (zz : Int)) = W6 at B6 N6 T6 E6 E6b KB KL KC ⊢
          clear c1 f1 uz
          refine KB.out.mono ?_
          rintro e w7 ⟨rfl, rfl⟩
          go_wp2_with fail
          refine KL.out.mono ?_
          rintro e w8 ⟨rfl, rfl⟩
          go_wp2_with (with_reducible refine wpl_seg_load aggI sizeI (.tmp 5) rfl rfl N6.out 0 [.int .i64 1, .int .i64 (zz : Int), .slice none 0 0] rfl rfl rfl ?_)
          have KC2 := KC.out
          refine KC2.mono ?_
          clear KC2
          rintro e w9 ⟨rfl, b9⟩
          have T9 := Lib.hid (T6.out.trans (b9.mono T6.out.size))
          have N9 := Lib.hid (N6.out.after b9)
          have B9 := Lib.hid (B6.out.after b9)
          have E9 := Lib.hid (E6b.out.kept b9)
          clear b9 N6 E6 E6b B6 T6 KB KL
          by_cases hok : (IN.ok ⟨1, (zz : Int), []⟩)
          · obtain rfl : C = 0 := by rw [← HC.out]; exact if_pos hok
            have HI : Hid (inoR l = some ⟨1, (zz : Int), []⟩) := Lib.hid (by
              unfold inoR
              rw [HRP.out]
              refine if_pos ⟨h114, rfl, List.eq_nil_of_length_eq_zero HNQ.out, hok⟩)
            clear hok
            go_wp2_with (first
              | (with_reducible refine wpl_seg_load aggI sizeI (.tmp 5) rfl rfl N9.out 0 [.int .i64 1, .int .i64 (zz : Int), .slice none 0 0] rfl rfl rfl ?_)
              | ((with_reducible refine wpl_seg_store sizeI (.tmp 2) (.tmp 42) rfl rfl B9.out 0 [.int .i64 1, .int .i64 (zz : Int), .slice none 0 0] rfl (Nat.le_refl _) (by simp [Value.oneCell']) rfl rfl _ rfl ?_); intro w10 B10 g10 e10))
            refine bodyPost_ret (iret2 rfl _ B10 rfl rfl) rfl ?_
            refine ⟨⟨1, (zz : Int), []⟩, Lib.hid (by rw [HI.out]; rfl), _, _, by rw [HI.out]; exact congrArg _ (by rfl), E9.out.kept2 g10 hne.out, T9.out.grown g10 T9.out.size (fun k e => by cases e; exact Nat.le_refl _)⟩
          · obtain rfl : C = 1 := by rw [← HC.out]; exact if_neg hok
            have HI : Hid (inoR l = none) := Lib.hid (by
              unfold inoR
              rw [HRP.out]
              exact if_neg fun h => hok h.2.2.2)
            clear hok
            go_wp2_with ((with_reducible refine wpl_seg_store sizeI (.tmp 2) (.tmp 41) rfl rfl B9.out 0 [.int .i64 0, .int .i64 0, .slice none 0 0] rfl (Nat.le_refl _) (by simp [Value.oneCell']) rfl rfl _ rfl ?_); intro w10 B10 g10 e10)
            refine bodyPost_ret (iret2 rfl _ B10 rfl rfl) rfl ?_
            exact ⟨⟨0, 0, []⟩, Lib.hid (by rw [HI.out]; rfl), none, 0, by rw [HI.out]; rfl, OwnE.nil _ _, T9.out.grown g10 T9.out.size (fun k e => by cases e; exact Nat.le_refl _)⟩
        · have HI : Hid (inoR l = none) := Lib.hid (by unfold inoR; rw [HRP.out]; exact if_neg (fun h => by have h2 : (l1.drop 2) = [] := h.2.2.1; have := HNQ.out; rw [h2] at this; exact hq0 this.symm))
          have q0 : (0 : Int) < (nq : Int) := by omega
          clear hq0 HNQ HRP
          go_wp2_with fail
          generalize w6.setCell ⟨gn, 1, none⟩ (.int .i64 (zz : Int)) = W6 at B6 N6 T6 E6 KB KL ⊢
          clear c1 f1 uz
          refine KB.out.mono ?_
          rintro e w7 ⟨rfl, rfl⟩
          go_wp2_with fail
          refine KL.out.mono ?_
          rintro e w8 ⟨rfl, rfl⟩
          go_wp2_with ((with_reducible refine wpl_seg_store sizeI (.tmp 2) (.tmp 41) rfl rfl B6.out 0 [.int .i64 0, .int .i64 0, .slice none 0 0] rfl (Nat.le_refl _) (by simp [Value.oneCell']) rfl rfl _ rfl ?_); intro w10 B10 g10 e10)
          refine bodyPost_ret (iret2 rfl _ B10 rfl rfl) rfl ?_
          exact ⟨⟨0, 0, []⟩, Lib.hid (by rw [HI.out]; rfl), none, 0, by rw [HI.out]; rfl, OwnE.nil _ _, T6.out.grown g10 T6.out.size (fun k e => by cases e; exact Nat.le_refl _)⟩
    · by_cases e2 : k = 2
      · subst e2
        have HPa := Lib.hid (HP2.out rfl)
        clear HP1 HP2 HP3
        go_wp2_with ((with_reducible refine wpl_seg_store sizeI (.tmp 5) (.tmp 15) rfl rfl L3.out 0 [.int .i64 2, .int .i64 0, .slice none 0 0] rfl (Nat.le_refl _) (by simp [Value.oneCell']) rfl rfl _ rfl ?_); intro w5 N5 g5 e5; have c0 : w5.cell? ⟨w3.heap.size, 0, none⟩ = some (.int .i64 2) := N5.cell 0)
        have N5b : Hid (Blk w5 w3.heap.size 24 [.int .i64 2, .int .i64 0, .slice none 0 0]) := Lib.hid N5
        have B5 := Lib.hid (B4.out.grown g5 (by have := GG.out.2.2.1; simp; omega))
        have T5 := Lib.hid (T4.out.grown g5 T4.out.size (fun q e => by cases e; have := GG.out.2.2.1; omega))
        have R5 := Lib.hid (R4.out.beside g5 (by have := GG.out; simp; omega) (by have := GG.out.1; simp; omega) (by have := GG.out.2.1; simp; omega))
        have Z5 : Hid (w3.heap.size < w5.heap.size) := Lib.hid N5.lt
        obtain ⟨gn, hgn⟩ : ∃ gn, w3.heap.size = gn := ⟨_, rfl⟩
        have GN : Hid (g < gn ∧ h < gn ∧ w.heap.size < gn) := Lib.hid (by have := GG.out; omega)
        rw [hgn] at N5b Z5
        simp only [hgn]
        clear N5 g5 e5 c0 L3 H34 R4 T4 B4 hgn GG HH3
        have K6 := Lib.hid (readEntries_any g h l1 b1' w5 R5.out (by have := GN.out; have := Z5.out; omega) HL1.out)
        obtain ⟨rr, hrr⟩ : ∃ rr, rEs (r1 l1) (l1.drop 1) (b1' || decide (l1.length < 1)) = rr := ⟨_, rfl⟩
        rw [hrr] at K6 HPa
        obtain ⟨es0, lq, bd⟩ := rr
        have HP2 := HPa
        clear hrr HPa
        go_wp2_with fail
        refine K6.out.mono ?_
        rintro e w6 ⟨A, c, es, hes, rfl, O6, R6', g6⟩
        obtain rfl : es = es0 := hes.out
        obtain ⟨m, hm6⟩ : ∃ m, es.length = m := ⟨_, rfl⟩
        rw [hm6] at O6 ⊢
        have HM := Lib.hid hm6
        have R6a := Lib.hid R6'
        have N6a := Lib.hid (N5b.out.grown g6 (by have := GN.out.1; simp; omega))
        have B6a := Lib.hid (B5.out.grown g6 (by have := G2.out; simp; omega))
        have T6a := Lib.hid (T5.out.grown g6 T5.out.size (fun q e => by cases e; have := G2.out; omega))
        have H6 : Hid (h < w6.heap.size) := Lib.hid (by have := GN.out; have := Z5.out; have := g6.size; omega)
        have hlo : Hid (∀ q, (Value.slice A m c).ownBlock = some q → w5.heap.size ≤ q) := Lib.hid fun q e => (World.ownsRow.lt O6 q e).1
        have O6a := Lib.hid O6
        clear R6' g6 K6 N5b B5 R5 O6 hes hm6
        have c1 : w6.cell? ⟨gn, 2, none⟩ = some (.slice none 0 0) := N6a.out.cell 2
        have f1 := N6a.out.free 2
        have gs : w6.grownBy (w6.setCell ⟨gn, 2, none⟩ (.slice A m c)) (some gn) := only_set w6 ⟨gn, 2, none⟩ (.slice A m c)
        have N6 : Hid (Blk (w6.setCell ⟨gn, 2, none⟩ (.slice A m c)) gn 24 [.int .i64 2, .int .i64 0, .slice A m c]) := Lib.hid (N6a.out.set 2 (.slice A m c))
        have B6 := Lib.hid (B6a.out.grown gs (by have := GN.out.2.2; simp; omega))
        have T6 := Lib.hid (T6a.out.grown gs T6a.out.size (fun q e => by cases e; have := GN.out.2.2; omega))
        have R6 := Lib.hid (R6a.out.beside gs H6.out (by have := GN.out.1; simp; omega) (by have := GN.out.2.1; simp; omega))
        have E6 := Lib.hid ((O6a.out.kept2 gs (fun e => by have := hlo.out _ e; have := Z5.out; omega)).lower T5.out.size)
        have hne : Hid ((Value.slice A m c).ownBlock ≠ some w.heap.size) := Lib.hid (fun e => by have := hlo.out _ e; have := Z5.out; have := GN.out; omega)
        clear gs R6a N6a B6a T6a O6a hlo Z5 T5
        have HRP := Lib.hid (show rPre l = (⟨2, 0, es⟩, lq, bd) from HP2.out)
        have KB := Lib.hid (bad_any g h (lq) (bd) _ R6.out)
        have KL := Lib.hid (left_any g h (lq) (bd) _ R6.out)
        obtain ⟨bq, hbq⟩ : ∃ bq, (bd) = bq := ⟨_, rfl⟩
        obtain ⟨nq, hnq⟩ : ∃ nq, (lq).length = nq := ⟨_, rfl⟩
        rw [hbq] at KB HRP
        rw [hnq] at KL
        have HNQ := Lib.hid hnq
        clear hbq hnq R6
        cases bq with
        | true =>
          have HI : Hid (inoR l = none) := Lib.hid (by unfold inoR; rw [HRP.out]; exact if_neg (fun h => by cases h.2.1))
          clear HNQ KL HRP
          go_wp2_with fail
          generalize w6.setCell ⟨gn, 2, none⟩ (.slice A m c) = W6 at B6 N6 T6 E6 KB ⊢
          refine KB.out.mono ?_
          rintro e w7 ⟨rfl, rfl⟩
          go_wp2_with ((with_reducible refine wpl_seg_store sizeI (.tmp 2) (.tmp 41) rfl rfl B6.out 0 [.int .i64 0, .int .i64 0, .slice none 0 0] rfl (Nat.le_refl _) (by simp [Value.oneCell']) rfl rfl _ rfl ?_); intro w10 B10 g10 e10)
          refine bodyPost_ret (iret2 rfl _ B10 rfl rfl) rfl ?_
          exact ⟨⟨0, 0, []⟩, Lib.hid (by rw [HI.out]; rfl), none, 0, by rw [HI.out]; rfl, OwnE.nil _ _, T6.out.grown g10 T6.out.size (fun k e => by cases e; exact Nat.le_refl _)⟩
        | false =>
          by_cases hq0 : nq = 0
          · subst hq0
            have KC := Lib.hid (check_any ⟨2, 0, es⟩ _ _ E6.out.ents)
            obtain ⟨C, hC⟩ : ∃ C : Int, (if (IN.ok ⟨2, 0, es⟩) then (0 : Int) else 1) = C := ⟨_, rfl⟩
            rw [hC] at KC
            have HC := Lib.hid hC
            clear hC
            have HNS := HM.out
            have E6b := Lib.hid (E6.out)
            go_wp2_with fail
            generalize w6.setCell ⟨gn, 2, none⟩ (.slice A m c) = W6 at B6 N6 T6 E6 E6b KB KL KC ⊢
            refine KB.out.mono ?_
            rintro e w7 ⟨rfl, rfl⟩
            go_wp2_with fail
            refine KL.out.mono ?_
            rintro e w8 ⟨rfl, rfl⟩
            go_wp2_with (with_reducible refine wpl_seg_load aggI sizeI (.tmp 5) rfl rfl N6.out 0 [.int .i64 2, .int .i64 0, .slice A m c] rfl rfl rfl ?_)
            have KC2 := KC.out
            refine KC2.mono ?_
            clear KC2
            rintro e w9 ⟨rfl, b9⟩
            have T9 := Lib.hid (T6.out.trans (b9.mono T6.out.size))
            have N9 := Lib.hid (N6.out.after b9)
            have B9 := Lib.hid (B6.out.after b9)
            have E9 := Lib.hid (E6b.out.kept b9)
            clear b9 N6 E6 E6b B6 T6 KB KL
            by_cases hok : (IN.ok ⟨2, 0, es⟩)
            · obtain rfl : C = 0 := by rw [← HC.out]; exact if_pos hok
              have HI : Hid (inoR l = some ⟨2, 0, es⟩) := Lib.hid (by
                unfold inoR
                rw [HRP.out]
                refine if_pos ⟨h114, rfl, List.eq_nil_of_length_eq_zero HNQ.out, hok⟩)
              clear hok
              go_wp2_with (first
                | (with_reducible refine wpl_seg_load aggI sizeI (.tmp 5) rfl rfl N9.out 0 [.int .i64 2, .int .i64 0, .slice A m c] rfl rfl rfl ?_)
                | ((with_reducible refine wpl_seg_store sizeI (.tmp 2) (.tmp 42) rfl rfl B9.out 0 [.int .i64 2, .int .i64 0, .slice A m c] rfl (Nat.le_refl _) (by simp [Value.oneCell']) rfl rfl _ rfl ?_); intro w10 B10 g10 e10))
              refine bodyPost_ret (iret2 rfl _ B10 rfl rfl) rfl ?_
              refine ⟨⟨2, 0, es⟩, Lib.hid (by rw [HI.out]; rfl), _, _, by rw [HI.out]; exact congrArg _ (by have hm := HM.out; subst hm; rfl), by have hm := HM.out; subst hm; exact E9.out.kept2 g10 hne.out, T9.out.grown g10 T9.out.size (fun k e => by cases e; exact Nat.le_refl _)⟩
            · obtain rfl : C = 1 := by rw [← HC.out]; exact if_neg hok
              have HI : Hid (inoR l = none) := Lib.hid (by
                unfold inoR
                rw [HRP.out]
                exact if_neg fun h => hok h.2.2.2)
              clear hok
              go_wp2_with ((with_reducible refine wpl_seg_store sizeI (.tmp 2) (.tmp 41) rfl rfl B9.out 0 [.int .i64 0, .int .i64 0, .slice none 0 0] rfl (Nat.le_refl _) (by simp [Value.oneCell']) rfl rfl _ rfl ?_); intro w10 B10 g10 e10)
              refine bodyPost_ret (iret2 rfl _ B10 rfl rfl) rfl ?_
              exact ⟨⟨0, 0, []⟩, Lib.hid (by rw [HI.out]; rfl), none, 0, by rw [HI.out]; rfl, OwnE.nil _ _, T9.out.grown g10 T9.out.size (fun k e => by cases e; exact Nat.le_refl _)⟩
          · have HI : Hid (inoR l = none) := Lib.hid (by unfold inoR; rw [HRP.out]; exact if_neg (fun h => by have h2 : (lq) = [] := h.2.2.1; have := HNQ.out; rw [h2] at this; exact hq0 this.symm))
            have q0 : (0 : Int) < (nq : Int) := by omega
            clear hq0 HNQ HRP
            go_wp2_with fail
            generalize w6.setCell ⟨gn, 2, none⟩ (.slice A m c) = W6 at B6 N6 T6 E6 KB KL ⊢
            refine KB.out.mono ?_
            rintro e w7 ⟨rfl, rfl⟩
            go_wp2_with fail
            refine KL.out.mono ?_
            rintro e w8 ⟨rfl, rfl⟩
            go_wp2_with ((with_reducible refine wpl_seg_store sizeI (.tmp 2) (.tmp 41) rfl rfl B6.out 0 [.int .i64 0, .int .i64 0, .slice none 0 0] rfl (Nat.le_refl _) (by simp [Value.oneCell']) rfl rfl _ rfl ?_); intro w10 B10 g10 e10)
            refine bodyPost_ret (iret2 rfl _ B10 rfl rfl) rfl ?_
            exact ⟨⟨0, 0, []⟩, Lib.hid (by rw [HI.out]; rfl), none, 0, by rw [HI.out]; rfl, OwnE.nil _ _, T6.out.grown g10 T6.out.size (fun k e => by cases e; exact Nat.le_refl _)⟩
      · have HP3b := Lib.hid (HP3.out e1 e2)
        clear HP1 HP2 HP3
        have HP3 := HP3b
        have i1 : ((k : Int) == 1) = false := by rw [beq_eq_false_iff_ne]; omega
        have i2 : ((k : Int) == 2) = false := by rw [beq_eq_false_iff_ne]; omega
        clear e1 e2 HP3b
        go_wp2_with ((with_reducible refine wpl_seg_store sizeI (.tmp 5) (.tmp 15) rfl rfl L3.out 0 [.int .i64 (k : Int), .int .i64 0, .slice none 0 0] rfl (Nat.le_refl _) (by simp [Value.oneCell']) rfl rfl _ rfl ?_); intro w5 N5 g5 e5; have c0 : w5.cell? ⟨w3.heap.size, 0, none⟩ = some (.int .i64 (k : Int)) := N5.cell 0)
        have N5b : Hid (Blk w5 w3.heap.size 24 [.int .i64 (k : Int), .int .i64 0, .slice none 0 0]) := Lib.hid N5
        have B5 := Lib.hid (B4.out.grown g5 (by have := GG.out.2.2.1; simp; omega))
        have T5 := Lib.hid (T4.out.grown g5 T4.out.size (fun q e => by cases e; have := GG.out.2.2.1; omega))
        have R5 := Lib.hid (R4.out.beside g5 (by have := GG.out; simp; omega) (by have := GG.out.1; simp; omega) (by have := GG.out.2.1; simp; omega))
        have Z5 : Hid (w3.heap.size < w5.heap.size) := Lib.hid N5.lt
        obtain ⟨gn, hgn⟩ : ∃ gn, w3.heap.size = gn := ⟨_, rfl⟩
        have GN : Hid (g < gn ∧ h < gn ∧ w.heap.size < gn) := Lib.hid (by have := GG.out; omega)
        rw [hgn] at N5b Z5
        simp only [hgn]
        clear N5 g5 e5 c0 L3 H34 R4 T4 B4 hgn GG HH3
        have N6 := N5b
        have B6 := B5
        have T6 := T5
        have R6 := R5
        have E6 := Lib.hid (OwnE.nil w5 w.heap.size)
        have hne : Hid ((Value.slice none 0 0).ownBlock ≠ some w.heap.size) := Lib.hid (by simp [Value.ownBlock])
        clear N5b B5 T5 R5
        have HRP := Lib.hid (show rPre l = (⟨(k : Int), 0, []⟩, l1, b1') from HP3.out)
        have KB := Lib.hid (bad_any g h (l1) (b1') _ R6.out)
        have KL := Lib.hid (left_any g h (l1) (b1') _ R6.out)
        obtain ⟨bq, hbq⟩ : ∃ bq, (b1') = bq := ⟨_, rfl⟩
        obtain ⟨nq, hnq⟩ : ∃ nq, (l1).length = nq := ⟨_, rfl⟩
        rw [hbq] at KB HRP
        rw [hnq] at KL
        have HNQ := Lib.hid hnq
        clear hbq hnq R6
        cases bq with
        | true =>
          have HI : Hid (inoR l = none) := Lib.hid (by unfold inoR; rw [HRP.out]; exact if_neg (fun h => by cases h.2.1))
          clear HNQ KL HRP
          go_wp2_with fail
          refine KB.out.mono ?_
          rintro e w7 ⟨rfl, rfl⟩
          go_wp2_with ((with_reducible refine wpl_seg_store sizeI (.tmp 2) (.tmp 41) rfl rfl B6.out 0 [.int .i64 0, .int .i64 0, .slice none 0 0] rfl (Nat.le_refl _) (by simp [Value.oneCell']) rfl rfl _ rfl ?_); intro w10 B10 g10 e10)
          refine bodyPost_ret (iret2 rfl _ B10 rfl rfl) rfl ?_
          exact ⟨⟨0, 0, []⟩, Lib.hid (by rw [HI.out]; rfl), none, 0, by rw [HI.out]; rfl, OwnE.nil _ _, T6.out.grown g10 T6.out.size (fun k e => by cases e; exact Nat.le_refl _)⟩
        | false =>
          by_cases hq0 : nq = 0
          · subst hq0
            have KC := Lib.hid (check_any ⟨(k : Int), 0, []⟩ _ _ E6.out.ents)
            obtain ⟨C, hC⟩ : ∃ C : Int, (if (IN.ok ⟨(k : Int), 0, []⟩) then (0 : Int) else 1) = C := ⟨_, rfl⟩
            rw [hC] at KC
            have HC := Lib.hid hC
            clear hC
            have HNS := True.intro
            have E6b := Lib.hid (E6.out)
            go_wp2_with fail
            refine KB.out.mono ?_
            rintro e w7 ⟨rfl, rfl⟩
            go_wp2_with fail
            refine KL.out.mono ?_
            rintro e w8 ⟨rfl, rfl⟩
            go_wp2_with (with_reducible refine wpl_seg_load aggI sizeI (.tmp 5) rfl rfl N6.out 0 [.int .i64 (k : Int), .int .i64 0, .slice none 0 0] rfl rfl rfl ?_)
            have KC2 := KC.out
            refine KC2.mono ?_
            clear KC2
            rintro e w9 ⟨rfl, b9⟩
            have T9 := Lib.hid (T6.out.trans (b9.mono T6.out.size))
            have N9 := Lib.hid (N6.out.after b9)
            have B9 := Lib.hid (B6.out.after b9)
            have E9 := Lib.hid (E6b.out.kept b9)
            clear b9 N6 E6 E6b B6 T6 KB KL
            by_cases hok : (IN.ok ⟨(k : Int), 0, []⟩)
            · obtain rfl : C = 0 := by rw [← HC.out]; exact if_pos hok
              have HI : Hid (inoR l = some ⟨(k : Int), 0, []⟩) := Lib.hid (by
                unfold inoR
                rw [HRP.out]
                refine if_pos ⟨h114, rfl, List.eq_nil_of_length_eq_zero HNQ.out, hok⟩)
              clear hok
              go_wp2_with (first
                | (with_reducible refine wpl_seg_load aggI sizeI (.tmp 5) rfl rfl N9.out 0 [.int .i64 (k : Int), .int .i64 0, .slice none 0 0] rfl rfl rfl ?_)
                | ((with_reducible refine wpl_seg_store sizeI (.tmp 2) (.tmp 42) rfl rfl B9.out 0 [.int .i64 (k : Int), .int .i64 0, .slice none 0 0] rfl (Nat.le_refl _) (by simp [Value.oneCell']) rfl rfl _ rfl ?_); intro w10 B10 g10 e10))
              refine bodyPost_ret (iret2 rfl _ B10 rfl rfl) rfl ?_
              refine ⟨⟨(k : Int), 0, []⟩, Lib.hid (by rw [HI.out]; rfl), _, _, by rw [HI.out]; exact congrArg _ (by rfl), E9.out.kept2 g10 hne.out, T9.out.grown g10 T9.out.size (fun k e => by cases e; exact Nat.le_refl _)⟩
            · obtain rfl : C = 1 := by rw [← HC.out]; exact if_neg hok
              have HI : Hid (inoR l = none) := Lib.hid (by
                unfold inoR
                rw [HRP.out]
                exact if_neg fun h => hok h.2.2.2)
              clear hok
              go_wp2_with ((with_reducible refine wpl_seg_store sizeI (.tmp 2) (.tmp 41) rfl rfl B9.out 0 [.int .i64 0, .int .i64 0, .slice none 0 0] rfl (Nat.le_refl _) (by simp [Value.oneCell']) rfl rfl _ rfl ?_); intro w10 B10 g10 e10)
              refine bodyPost_ret (iret2 rfl _ B10 rfl rfl) rfl ?_
              exact ⟨⟨0, 0, []⟩, Lib.hid (by rw [HI.out]; rfl), none, 0, by rw [HI.out]; rfl, OwnE.nil _ _, T9.out.grown g10 T9.out.size (fun k e => by cases e; exact Nat.le_refl _)⟩
          · have HI : Hid (inoR l = none) := Lib.hid (by unfold inoR; rw [HRP.out]; exact if_neg (fun h => by have h2 : (l1) = [] := h.2.2.1; have := HNQ.out; rw [h2] at this; exact hq0 this.symm))
            have q0 : (0 : Int) < (nq : Int) := by omega
            clear hq0 HNQ HRP
            go_wp2_with fail
            refine KB.out.mono ?_
            rintro e w7 ⟨rfl, rfl⟩
            go_wp2_with fail
            refine KL.out.mono ?_
            rintro e w8 ⟨rfl, rfl⟩
            go_wp2_with ((with_reducible refine wpl_seg_store sizeI (.tmp 2) (.tmp 41) rfl rfl B6.out 0 [.int .i64 0, .int .i64 0, .slice none 0 0] rfl (Nat.le_refl _) (by simp [Value.oneCell']) rfl rfl _ rfl ?_); intro w10 B10 g10 e10)
            refine bodyPost_ret (iret2 rfl _ B10 rfl rfl) rfl ?_
            exact ⟨⟨0, 0, []⟩, Lib.hid (by rw [HI.out]; rfl), none, 0, by rw [HI.out]; rfl, OwnE.nil _ _, T6.out.grown g10 T6.out.size (fun k e => by cases e; exact Nat.le_refl _)⟩
  · have i0 : (114 : Int) < (l.length : Int) := by omega
    have HI : Hid (inoR l = none) := Lib.hid (if_neg fun h => h114 h.1)
    clear h114
    go_enter Try.func17, Try.ntmps17
    go_wp2_with ((with_reducible refine wpl_seg_store sizeI (.tmp 2) (.tmp 9) rfl rfl HB1.out 0 [.int .i64 0, .int .i64 0, .slice none 0 0] rfl (Nat.le_refl _) (by simp [Value.oneCell']) rfl rfl _ rfl ?_); intro w10 B10 g10 e10)
    refine bodyPost_ret (iret2 rfl _ B10 rfl rfl) rfl ?_
    exact ⟨⟨0, 0, []⟩, Lib.hid (by rw [HI.out]; rfl), none, 0, by rw [HI.out]; rfl, OwnE.nil _ _, b1.out.grown g10 b1.out.size (fun k e => by cases e; exact Nat.le_refl _)⟩
end Go.Proofs.Yteihffmenfobaaa

