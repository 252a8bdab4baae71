/- The walk of NodeApart: it answers true, and changes nothing that was there. No condition. -/
import Derived.Test.YtdmganpblkepfaaNodeSpeaks
import Derived.Test.YtdmganpblkepfaaNodeSame
import Derived.Test.YtdmganpblkepfaaCommitOpen
import Derived.Test.YtdmganpblkepfaaCommitRead
import Derived.Test.YtdmganpblkepfaaSegHeld
namespace Go.Proofs.Ytdmganpblkepfaa
open Go.RowKit
theorem yields_strB {ops : Array Oper} {o : Oper} {a : Act} {S : World → Prop} {v : Value} {l : List UInt8} (x : Operand) (ho : o.op = .convert 23 9 x) (hgd : Region.wanted o (yielded ops a.tmps) = true)
    (hx : a.eval x = v) (hS : ∀ w, S w → Bytes w w.heap.size v l) : YieldsIf Try.prog ops S o (.string ⟨l.toArray⟩) a :=
  .inl ⟨hgd, fun w hw => by
    unfold execOp
    simp only [ho, hx, Sem.run_bind, Sem.run_pure, Result.andThen_ok, str_of (hS w hw)]⟩
theorem nwrite_shape (k : Int) (e : Nat) (v : Value) (l : List UInt8) (w : World) (hv : Bytes w w.heap.size v l) :
    Calls Try.prog 13 #[.agg #[.int .i64 k, .int .u64 (e : Int), v]] w fun x w' => ∃ A n c z, x = .returned (.tuple #[.slice A n c, .int .i64 z]) ∧ Below w.heap.size w w' := by
  by_cases h : (k < 0 ∨ 255 < k) ∨ 224 < l.length
  · refine (nwrite_no k e v l w hv h).mono ?_
    rintro x w' ⟨rfl, h⟩
    exact ⟨_, _, _, _, rfl, h⟩
  · obtain ⟨q, rfl⟩ : ∃ q : Nat, k = q := ⟨k.toNat, by omega⟩
    refine (nwrite_yes q e v l w (by omega) hv (by omega)).mono ?_
    rintro x w' ⟨g, c, rfl, _, h⟩
    exact ⟨_, _, _, _, rfl, h⟩
theorem nb_inj {k k' e e' : Nat} {l l' : List UInt8} (hk : k < 256) (hk' : k' < 256) (he : e < 18446744073709551616) (he' : e' < 18446744073709551616) (h : nb k e l = nb k' e' l') : k = k' ∧ e = e' ∧ l = l' := by
  obtain ⟨a1, a2, a3⟩ := read_nb k e l hk he
  obtain ⟨b1, b2, b3⟩ := read_nb k' e' l' hk' he'
  rw [h] at a1 a2 a3
  exact ⟨a1.symm.trans b1, a2.symm.trans b2, a3.symm.trans b3⟩
theorem numB_inj {k a b : Nat} (ha : a < 256 ^ k) (hb : b < 256 ^ k) (h : numB k a = numB k b) : a = b := by
  have h1 := le_numB k a
  have h2 := le_numB k b
  rw [h, h2, Nat.mod_eq_of_lt ha, Nat.mod_eq_of_lt hb] at h1
  exact h1.symm
theorem cb_inj {e e' s s' : Nat} {L L' : List UInt8} (he : e < 18446744073709551616) (he' : e' < 18446744073709551616) (hs : s < 4294967296) (hs' : s' < 4294967296) (h : cb e L s = cb e' L' s') : e = e' ∧ L = L' ∧ s = s' := by
  unfold cb at h
  obtain ⟨h1, h2⟩ := List.append_inj h (by rw [numB_length, numB_length])
  obtain ⟨h3, h4⟩ := List.append_inj h2 (by rw [numB_length, numB_length])
  exact ⟨numB_inj (by omega) (by omega) h1, h4, numB_inj (by omega) (by omega) h3⟩
set_option maxRecDepth 100000 in
set_option maxHeartbeats 8000000 in
theorem nodeApart_any (u1 u2 u3 u4 : Value) (w : World) (hn1 : ∃ n, IsNode w w.heap.size u1 n) (hn2 : ∃ n, IsNode w w.heap.size u2 n) (hc1 : ∃ e L s, IsCommit u3 e L s) (hc2 : ∃ e L s, IsCommit u4 e L s) :
    Calls Try.prog 7 #[u1, u2, u3, u4] w fun e w' => e = .returned (.bool true) ∧ Below w.heap.size w w' := by
  obtain ⟨⟨k1, e1, v1, l1⟩, h1, _, he1, hv1⟩ := hn1
  obtain ⟨⟨k2, e2, v2, l2⟩, h2, _, he2, hv2⟩ := hn2
  obtain ⟨e3, L3, s3, h3, he3, hL3, hs3⟩ := hc1
  obtain ⟨e4, L4, s4, h4, he4, hL4, hs4⟩ := hc2
  obtain rfl := h1
  obtain rfl := h2
  obtain rfl := h3
  obtain rfl := h4
  simp only at he1 he2 hv1 hv2 ⊢
  obtain ⟨rC, hrC⟩ : ∃ rC, rC = eqC e3 e4 L3 L4 s3 s4 := ⟨_, rfl⟩
  have hcd : (cb e3 L3 s3 == cb e4 L4 s4) = rC := by
    rw [hrC, Bool.eq_iff_iff]
    simp only [beq_iff_eq, eqC, decide_eq_true_eq]
    exact ⟨fun h => cb_inj he3 he4 hs3 hs4 h, fun ⟨a, b, c⟩ => by rw [a, b, c]⟩
  obtain ⟨A1, c1, rfl, hc1, hm1, _⟩ := id hv1
  obtain ⟨A2, c2, rfl, hc2, hm2, _⟩ := id hv2
  unfold maxLen at hm1 hm2
  obtain ⟨cC, hcC⟩ : ∃ cC, cC = ccs e3 L3 s3 := ⟨_, rfl⟩
  obtain ⟨cD, hcD⟩ : ∃ cD, cD = ccs e4 L4 s4 := ⟨_, rfl⟩
  obtain ⟨bC, hbC⟩ : ∃ bC, bC = cb e3 L3 s3 := ⟨_, rfl⟩
  obtain ⟨bD, hbD⟩ : ∃ bD, bD = cb e4 L4 s4 := ⟨_, rfl⟩
  have KC : ∀ w : World, Calls Try.prog 18 #[.agg cC.toArray] w fun x w' => ∃ g c, x = .returned (.slice (some ⟨g, 0, none⟩) 44 c) ∧ Own 5 w' w.heap.size (.slice (some ⟨g, 0, none⟩) 44 c) bC ∧ Below w.heap.size w w' := fun w => by rw [hcC, hbC]; exact cwrite_any e3 s3 L3 w hL3 hs3
  have KD : ∀ w : World, Calls Try.prog 18 #[.agg cD.toArray] w fun x w' => ∃ g c, x = .returned (.slice (some ⟨g, 0, none⟩) 44 c) ∧ Own 5 w' w.heap.size (.slice (some ⟨g, 0, none⟩) 44 c) bD ∧ Below w.heap.size w w' := fun w => by rw [hcD, hbD]; exact cwrite_any e4 s4 L4 w hL4 hs4
  have hEq : ∀ w, (Op.equalIn 10000 43 (.agg cC.toArray) (.agg cD.toArray)).run Try.prog w = .ok rC w := fun w => by rw [hcC, hcD, hrC]; exact commit_eq hL3 hL4 w
  have hlC := Lib.hid (show cC.length = 34 by rw [hcC]; exact ccs_length hL3)
  have hlD := Lib.hid (show cD.length = 34 by rw [hcD]; exact ccs_length hL4)
  have hbl := Lib.hid (show bC.length = 44 ∧ bD.length = 44 by rw [hbC, hbD]; exact ⟨cb_length hL3, cb_length hL4⟩)
  rw [← hbC, ← hbD] at hcd
  rw [← hcC, ← hcD]
  have HEq := Lib.hid hEq
  have HCD := Lib.hid hcd
  have HKC := Lib.hid KC
  have HKD := Lib.hid KD
  have HV1 := Lib.hid hv1
  have HV2 := Lib.hid hv2
  have HE1 := Lib.hid he1
  have HE2 := Lib.hid he2
  clear hcC hcD hbC hbD hrC hEq hcd KC KD hL3 hL4 hs3 hs4 he3 he4 hv1 hv2 he1 he2
  have a0 := Below.refl w.heap.size w
  have a1 := a0.alloc (Nat.le_refl _) (.cells #[.int .i64 k1, .int .u64 (e1 : Int), .slice A1 l1.length c1] 25)
  have a2 := a1.alloc a1.size (.cells #[.int .i64 k2, .int .u64 (e2 : Int), .slice A2 l2.length c2] 25)
  have a3 := a2.alloc a2.size (.cells cC.toArray 43)
  have a4 := Lib.hid (a3.alloc a3.size (.cells cD.toArray 43))
  have BA := Lib.hid ((((show Blk (w.alloc (.cells #[.int .i64 k1, .int .u64 (e1 : Int), .slice A1 l1.length c1] 25)) w.heap.size 25 [.int .i64 k1, .int .u64 (e1 : Int), .slice A1 l1.length c1] from heap_alloc_new w _).alloc (.cells #[.int .i64 k2, .int .u64 (e2 : Int), .slice A2 l2.length c2] 25)).alloc (.cells cC.toArray 43)).alloc (.cells cD.toArray 43))
  have BB := Lib.hid (((show Blk ((w.alloc (.cells #[.int .i64 k1, .int .u64 (e1 : Int), .slice A1 l1.length c1] 25)).alloc (.cells #[.int .i64 k2, .int .u64 (e2 : Int), .slice A2 l2.length c2] 25)) (w.heap.size + 1) 25 [.int .i64 k2, .int .u64 (e2 : Int), .slice A2 l2.length c2] by have h := heap_alloc_new (w.alloc (.cells #[.int .i64 k1, .int .u64 (e1 : Int), .slice A1 l1.length c1] 25)) (.cells #[.int .i64 k2, .int .u64 (e2 : Int), .slice A2 l2.length c2] 25); rw [World.size_alloc] at h; exact h).alloc (.cells cC.toArray 43)).alloc (.cells cD.toArray 43))
  have BC := Lib.hid ((show Blk (((w.alloc (.cells #[.int .i64 k1, .int .u64 (e1 : Int), .slice A1 l1.length c1] 25)).alloc (.cells #[.int .i64 k2, .int .u64 (e2 : Int), .slice A2 l2.length c2] 25)).alloc (.cells cC.toArray 43)) (w.heap.size + 1 + 1) 43 cC by have h := heap_alloc_new ((w.alloc (.cells #[.int .i64 k1, .int .u64 (e1 : Int), .slice A1 l1.length c1] 25)).alloc (.cells #[.int .i64 k2, .int .u64 (e2 : Int), .slice A2 l2.length c2] 25)) (.cells cC.toArray 43); rw [World.size_alloc, World.size_alloc] at h; exact h).alloc (.cells cD.toArray 43))
  have BD := Lib.hid (show Blk ((((w.alloc (.cells #[.int .i64 k1, .int .u64 (e1 : Int), .slice A1 l1.length c1] 25)).alloc (.cells #[.int .i64 k2, .int .u64 (e2 : Int), .slice A2 l2.length c2] 25)).alloc (.cells cC.toArray 43)).alloc (.cells cD.toArray 43)) (w.heap.size + 1 + 1 + 1) 43 cD by have h := heap_alloc_new (((w.alloc (.cells #[.int .i64 k1, .int .u64 (e1 : Int), .slice A1 l1.length c1] 25)).alloc (.cells #[.int .i64 k2, .int .u64 (e2 : Int), .slice A2 l2.length c2] 25)).alloc (.cells cC.toArray 43)) (.cells cD.toArray 43); rw [World.size_alloc, World.size_alloc, World.size_alloc] at h; exact h)
  clear a0 a1 a2 a3
  go_enter Try.func7, Try.ntmps7
  go_wp2_with fail
  refine (nodespeaks_any _).mono ?_
  rintro e' w2 ⟨rfl, hb2⟩
  have T2 := Lib.hid (a4.out.trans (hb2.mono a4.out.size))
  have A2' := Lib.hid (BA.out.after hb2)
  have B2 := Lib.hid (BB.out.after hb2)
  have C2 := Lib.hid (BC.out.after hb2)
  have D2 := Lib.hid (BD.out.after hb2)
  clear hb2 BA BB BC BD a4
  obtain ⟨ga, hga⟩ : ∃ ga, ga = w.heap.size := ⟨_, rfl⟩
  obtain ⟨gb, hgb⟩ : ∃ gb, gb = w.heap.size + 1 := ⟨_, rfl⟩
  obtain ⟨gc, hgc⟩ : ∃ gc, gc = w.heap.size + 1 + 1 := ⟨_, rfl⟩
  obtain ⟨gd, hgd⟩ : ∃ gd, gd = w.heap.size + 1 + 1 + 1 := ⟨_, rfl⟩
  rw [← hgd] at D2 ⊢
  rw [← hgc] at C2 ⊢
  rw [← hgb] at B2 ⊢
  rw [← hga] at A2' ⊢
  clear hga hgb hgc hgd
  have V1 := Lib.hid ((HV1.out.below T2.out).more T2.out.size)
  have V2 := Lib.hid ((HV2.out.below T2.out).more T2.out.size)
  have x2 := A2'.out.cell 2
  have y2 := B2.out.cell 2
  simp only [List.getElem?_cons_zero, List.getElem?_cons_succ] at x2 y2
  by_cases hl1 : 500 < l1.length
  · have d1 : decide ((500 : Int) < (l1.length : Int)) = true := by simp; omega
    go_wp2
    go_ret
    exact ⟨rfl, T2.out⟩
  · have d1 : decide ((500 : Int) < (l1.length : Int)) = false := by simp; omega
    by_cases hl2 : 500 < l2.length
    · have d2 : decide ((500 : Int) < (l2.length : Int)) = true := by simp; omega
      go_wp2
      go_ret
      exact ⟨rfl, T2.out⟩
    · have d2 : decide ((500 : Int) < (l2.length : Int)) = false := by simp; omega
      by_cases hk1 : (k1 < 0 ∨ 255 < k1) ∨ 224 < l1.length
      · go_wp2_with (with_reducible refine wpl_seg_load aggNode sizeNode (.tmp 4) rfl rfl A2'.out 0 [.int .i64 k1, .int .u64 (e1 : Int), .slice A1 l1.length c1] rfl rfl rfl ?_)
        ((with_reducible refine (nwrite_no k1 e1 _ l1 _ V1.out hk1).mono ?_); rintro x3 w3 ⟨rfl, h3⟩)
        have A3' := Lib.hid (A2'.out.after h3)
        have B3 := Lib.hid (B2.out.after h3)
        have C3 := Lib.hid (C2.out.after h3)
        have D3 := Lib.hid (D2.out.after h3)
        have T3 := Lib.hid (T2.out.trans (h3.mono T2.out.size))
        have V2b := Lib.hid ((V2.out.below h3).more h3.size)
        clear h3 x2 y2 A2' B2 C2 D2 T2
        go_wp2_with (with_reducible refine wpl_seg_load aggNode sizeNode (.tmp 5) rfl rfl B3.out 0 [.int .i64 k2, .int .u64 (e2 : Int), .slice A2 l2.length c2] rfl rfl rfl ?_)
        ((with_reducible refine (nwrite_shape k2 e2 _ l2 _ V2b.out).mono ?_); rintro x4 w4 ⟨A4, n4, c4, z4, rfl, h4⟩)
        have A4' := Lib.hid (A3'.out.after h4)
        have B4 := Lib.hid (B3.out.after h4)
        have C4 := Lib.hid (C3.out.after h4)
        have D4 := Lib.hid (D3.out.after h4)
        have T4 := Lib.hid (T3.out.trans (h4.mono T3.out.size))
        clear h4 A3' B3 C3 D3 T3
        go_wp2_with fail
        go_quiet (fail)
        go_wp2_with fail
        have h9 : Below w4.heap.size w4 (w4.drewN nq) := ⟨rfl, rfl, rfl, Nat.le_refl _, fun _ _ => rfl⟩
        have C9 := Lib.hid (C4.out.after h9)
        have D9 := Lib.hid (D4.out.after h9)
        have T9 := Lib.hid (T4.out.trans (h9.mono T4.out.size))
        obtain ⟨w9, hw9⟩ : ∃ w9, w9 = w4.drewN nq := ⟨_, rfl⟩
        rw [← hw9] at C9 D9 T9 ⊢
        clear hw9 h9
        have hEq := HEq.out
        have hcd := HCD.out
        have S0 : Below w9.heap.size w9 w9.drew := (Below.refl _ _).drew
        refine wp_region_held_drew (S := (fun w' => Below w9.heap.size w9 w')) (by kernel_rfl) S0 (fun _ => ?_)
        refine wpAnyH_take (i := 0) (v := .agg cC.toArray) rfl (by kernel_rfl) (by kernel_rfl) (by kernel_rfl) (fun _ _ _ h => h) (yields_seg aggCommit sizeCommit (.tmp 6) (by kernel_rfl) (by kernel_rfl) (by kernel_rfl) (g := gc) (i := 0) (fun w h => C9.out.after h) (by rw [List.drop_zero, List.take_of_length_le (Nat.le_of_eq hlC.out)]) hlC.out) S0 ?_
        refine wpAnyH_take (i := 3) (v := .agg cD.toArray) rfl (by kernel_rfl) (by kernel_rfl) (by kernel_rfl) (fun _ _ _ h => h) (yields_seg aggCommit sizeCommit (.tmp 7) (by kernel_rfl) (by kernel_rfl) (by kernel_rfl) (g := gd) (i := 0) (fun w h => D9.out.after h) (by rw [List.drop_zero, List.take_of_length_le (Nat.le_of_eq hlD.out)]) hlD.out) S0 ?_
        refine wpAnyH_take (i := 7) (v := .agg cC.toArray) rfl (by kernel_rfl) (by kernel_rfl) (by kernel_rfl) (fun _ _ _ h => h) (yields_seg aggCommit sizeCommit (.tmp 6) (by kernel_rfl) (by kernel_rfl) (by kernel_rfl) (g := gc) (i := 0) (fun w h => C9.out.after h) (by rw [List.drop_zero, List.take_of_length_le (Nat.le_of_eq hlC.out)]) hlC.out) S0 ?_
        refine wpAnyH_take (i := 8) (v := .agg cD.toArray) rfl (by kernel_rfl) (by kernel_rfl) (by kernel_rfl) (fun _ _ _ h => h) (yields_seg aggCommit sizeCommit (.tmp 7) (by kernel_rfl) (by kernel_rfl) (by kernel_rfl) (g := gd) (i := 0) (fun w h => D9.out.after h) (by rw [List.drop_zero, List.take_of_length_le (Nat.le_of_eq hlD.out)]) hlD.out) S0 ?_
        refine wpAnyH_take (i := 9) (v := .bool rC) rfl (by kernel_rfl) (by kernel_rfl) (by kernel_rfl) (fun _ _ _ h => h) (Or.inl ⟨by kernel_rfl, fun w _ => by go_simp⟩) S0 ?_
        refine wpAnyH_ready (rs := [1]) (by kernel_rfl) (by simp) (AllReadyH.cons rfl (fun K hK => ?_) AllReadyH.nil)
        go_simp
        ((with_reducible refine (HKC.out _).mono ?_); rintro x10 w10 ⟨g10, q10, rfl, O10, h10⟩)
        have S1 := S0.trans (h10.mono S0.size)
        have P10 := Lib.hid (O10.bytes (by rw [hbl.out.1]; simp [maxLen]))
        refine hK.out _ _ S1 (fun _ => ?_)
        clear hK K O10 h10
        refine wpAnyH_weaken (S' := fun w' => Below w10.heap.size w10 w') (fun w h => S1.trans (h.mono S1.size)) _ _ _ _ ?_
        have S2 : Below w10.heap.size w10 w10 := Below.refl _ _
        refine wpAnyH_take (i := 2) (v := .string ⟨bC.toArray⟩) rfl (by kernel_rfl) (by kernel_rfl) (by kernel_rfl) (fun _ _ _ h => h) (yields_strB (v := .slice (some ⟨g10, 0, none⟩) 44 q10) (.tmp 53) (by kernel_rfl) (by kernel_rfl) (by kernel_rfl) (fun w h => (P10.out.below h).more h.size)) S2 ?_
        refine wpAnyH_ready (rs := [4]) (by kernel_rfl) (by simp) (AllReadyH.cons rfl (fun K hK => ?_) AllReadyH.nil)
        go_simp
        ((with_reducible refine (HKD.out _).mono ?_); rintro x11 w11 ⟨g11, q11, rfl, O11, h11⟩)
        have S3 := S2.trans (h11.mono S2.size)
        have P11 := Lib.hid (O11.bytes (by rw [hbl.out.2]; simp [maxLen]))
        refine hK.out _ _ S3 (fun _ => ?_)
        clear hK K O11 h11
        refine wpAnyH_weaken (S' := fun w' => Below w11.heap.size w11 w') (fun w h => S3.trans (h.mono S3.size)) _ _ _ _ ?_
        have S4 : Below w11.heap.size w11 w11 := Below.refl _ _
        refine wpAnyH_take (i := 5) (v := .string ⟨bD.toArray⟩) rfl (by kernel_rfl) (by kernel_rfl) (by kernel_rfl) (fun _ _ _ h => h) (yields_strB (v := .slice (some ⟨g11, 0, none⟩) 44 q11) (.tmp 56) (by kernel_rfl) (by kernel_rfl) (by kernel_rfl) (fun w h => (P11.out.below h).more h.size)) S4 ?_
        refine wpAnyH_take (i := 6) (v := .bool rC) rfl (by kernel_rfl) (by kernel_rfl) (by kernel_rfl) (fun _ _ _ h => h) (Or.inl ⟨by kernel_rfl, fun w _ => by go_simp⟩) S4 ?_
        refine wpAnyH_take (i := 10) (v := .bool true) rfl (by kernel_rfl) (by kernel_rfl) (by kernel_rfl) (fun _ _ _ h => h) (Or.inl ⟨by kernel_rfl, fun w _ => by go_simp⟩) S4 ?_
        refine wpAnyH_ready (rs := [11]) (by kernel_rfl) (by simp) (AllReadyH.cons rfl (fun K hK => ?_) AllReadyH.nil)
        go_simp
        refine hK.out _ _ S4 (fun _ => ?_)
        clear hK K
        refine wpAnyH_done (by kernel_rfl) ?_ _
        have TZ := Lib.hid ((T9.out.trans (S1.mono T9.out.size)).trans (S3.mono (Nat.le_trans T9.out.size S1.size)))
        clear hEq hcd S0 S1 S2 S3 S4
        go_wp2
        go_ret
        exact ⟨rfl, TZ.out⟩
      · obtain ⟨q1, rfl⟩ : ∃ q : Nat, k1 = q := ⟨k1.toNat, by omega⟩
        have hq1 : q1 < 256 := by omega
        have hm1 : l1.length ≤ 224 := by omega
        go_wp2_with (with_reducible refine wpl_seg_load aggNode sizeNode (.tmp 4) rfl rfl A2'.out 0 [.int .i64 (q1 : Int), .int .u64 (e1 : Int), .slice A1 l1.length c1] rfl rfl rfl ?_)
        ((with_reducible refine (nwrite_yes q1 e1 _ l1 _ hq1 V1.out hm1).mono ?_); rintro x3 w3 ⟨g3, c3, rfl, O3, h3⟩)
        have X3 := Lib.hid (O3.bytes (by rw [nb_length]; simp only [maxLen]; omega))
        have A3' := Lib.hid (A2'.out.after h3)
        have B3 := Lib.hid (B2.out.after h3)
        have C3 := Lib.hid (C2.out.after h3)
        have D3 := Lib.hid (D2.out.after h3)
        have T3 := Lib.hid (T2.out.trans (h3.mono T2.out.size))
        have V1b := Lib.hid ((V1.out.below h3).more h3.size)
        have V2b := Lib.hid ((V2.out.below h3).more h3.size)
        clear h3 O3 x2 y2 A2' B2 C2 D2 T2
        by_cases hk2 : (k2 < 0 ∨ 255 < k2) ∨ 224 < l2.length
        · go_wp2_with (with_reducible refine wpl_seg_load aggNode sizeNode (.tmp 5) rfl rfl B3.out 0 [.int .i64 k2, .int .u64 (e2 : Int), .slice A2 l2.length c2] rfl rfl rfl ?_)
          ((with_reducible refine (nwrite_no k2 e2 _ l2 _ V2b.out hk2).mono ?_); rintro x4 w4 ⟨rfl, h4⟩)
          have A4' := Lib.hid (A3'.out.after h4)
          have B4 := Lib.hid (B3.out.after h4)
          have C4 := Lib.hid (C3.out.after h4)
          have D4 := Lib.hid (D3.out.after h4)
          have T4 := Lib.hid (T3.out.trans (h4.mono T3.out.size))
          clear h4 A3' B3 C3 D3 T3
          go_wp2_with fail
          go_quiet (fail)
          go_wp2_with fail
          have h9 : Below w4.heap.size w4 (w4.drewN nq) := ⟨rfl, rfl, rfl, Nat.le_refl _, fun _ _ => rfl⟩
          have C9 := Lib.hid (C4.out.after h9)
          have D9 := Lib.hid (D4.out.after h9)
          have T9 := Lib.hid (T4.out.trans (h9.mono T4.out.size))
          obtain ⟨w9, hw9⟩ : ∃ w9, w9 = w4.drewN nq := ⟨_, rfl⟩
          rw [← hw9] at C9 D9 T9 ⊢
          clear hw9 h9
          have hEq := HEq.out
          have hcd := HCD.out
          have S0 : Below w9.heap.size w9 w9.drew := (Below.refl _ _).drew
          refine wp_region_held_drew (S := (fun w' => Below w9.heap.size w9 w')) (by kernel_rfl) S0 (fun _ => ?_)
          refine wpAnyH_take (i := 0) (v := .agg cC.toArray) rfl (by kernel_rfl) (by kernel_rfl) (by kernel_rfl) (fun _ _ _ h => h) (yields_seg aggCommit sizeCommit (.tmp 6) (by kernel_rfl) (by kernel_rfl) (by kernel_rfl) (g := gc) (i := 0) (fun w h => C9.out.after h) (by rw [List.drop_zero, List.take_of_length_le (Nat.le_of_eq hlC.out)]) hlC.out) S0 ?_
          refine wpAnyH_take (i := 3) (v := .agg cD.toArray) rfl (by kernel_rfl) (by kernel_rfl) (by kernel_rfl) (fun _ _ _ h => h) (yields_seg aggCommit sizeCommit (.tmp 7) (by kernel_rfl) (by kernel_rfl) (by kernel_rfl) (g := gd) (i := 0) (fun w h => D9.out.after h) (by rw [List.drop_zero, List.take_of_length_le (Nat.le_of_eq hlD.out)]) hlD.out) S0 ?_
          refine wpAnyH_take (i := 7) (v := .agg cC.toArray) rfl (by kernel_rfl) (by kernel_rfl) (by kernel_rfl) (fun _ _ _ h => h) (yields_seg aggCommit sizeCommit (.tmp 6) (by kernel_rfl) (by kernel_rfl) (by kernel_rfl) (g := gc) (i := 0) (fun w h => C9.out.after h) (by rw [List.drop_zero, List.take_of_length_le (Nat.le_of_eq hlC.out)]) hlC.out) S0 ?_
          refine wpAnyH_take (i := 8) (v := .agg cD.toArray) rfl (by kernel_rfl) (by kernel_rfl) (by kernel_rfl) (fun _ _ _ h => h) (yields_seg aggCommit sizeCommit (.tmp 7) (by kernel_rfl) (by kernel_rfl) (by kernel_rfl) (g := gd) (i := 0) (fun w h => D9.out.after h) (by rw [List.drop_zero, List.take_of_length_le (Nat.le_of_eq hlD.out)]) hlD.out) S0 ?_
          refine wpAnyH_take (i := 9) (v := .bool rC) rfl (by kernel_rfl) (by kernel_rfl) (by kernel_rfl) (fun _ _ _ h => h) (Or.inl ⟨by kernel_rfl, fun w _ => by go_simp⟩) S0 ?_
          refine wpAnyH_ready (rs := [1]) (by kernel_rfl) (by simp) (AllReadyH.cons rfl (fun K hK => ?_) AllReadyH.nil)
          go_simp
          ((with_reducible refine (HKC.out _).mono ?_); rintro x10 w10 ⟨g10, q10, rfl, O10, h10⟩)
          have S1 := S0.trans (h10.mono S0.size)
          have P10 := Lib.hid (O10.bytes (by rw [hbl.out.1]; simp [maxLen]))
          refine hK.out _ _ S1 (fun _ => ?_)
          clear hK K O10 h10
          refine wpAnyH_weaken (S' := fun w' => Below w10.heap.size w10 w') (fun w h => S1.trans (h.mono S1.size)) _ _ _ _ ?_
          have S2 : Below w10.heap.size w10 w10 := Below.refl _ _
          refine wpAnyH_take (i := 2) (v := .string ⟨bC.toArray⟩) rfl (by kernel_rfl) (by kernel_rfl) (by kernel_rfl) (fun _ _ _ h => h) (yields_strB (v := .slice (some ⟨g10, 0, none⟩) 44 q10) (.tmp 53) (by kernel_rfl) (by kernel_rfl) (by kernel_rfl) (fun w h => (P10.out.below h).more h.size)) S2 ?_
          refine wpAnyH_ready (rs := [4]) (by kernel_rfl) (by simp) (AllReadyH.cons rfl (fun K hK => ?_) AllReadyH.nil)
          go_simp
          ((with_reducible refine (HKD.out _).mono ?_); rintro x11 w11 ⟨g11, q11, rfl, O11, h11⟩)
          have S3 := S2.trans (h11.mono S2.size)
          have P11 := Lib.hid (O11.bytes (by rw [hbl.out.2]; simp [maxLen]))
          refine hK.out _ _ S3 (fun _ => ?_)
          clear hK K O11 h11
          refine wpAnyH_weaken (S' := fun w' => Below w11.heap.size w11 w') (fun w h => S3.trans (h.mono S3.size)) _ _ _ _ ?_
          have S4 : Below w11.heap.size w11 w11 := Below.refl _ _
          refine wpAnyH_take (i := 5) (v := .string ⟨bD.toArray⟩) rfl (by kernel_rfl) (by kernel_rfl) (by kernel_rfl) (fun _ _ _ h => h) (yields_strB (v := .slice (some ⟨g11, 0, none⟩) 44 q11) (.tmp 56) (by kernel_rfl) (by kernel_rfl) (by kernel_rfl) (fun w h => (P11.out.below h).more h.size)) S4 ?_
          refine wpAnyH_take (i := 6) (v := .bool rC) rfl (by kernel_rfl) (by kernel_rfl) (by kernel_rfl) (fun _ _ _ h => h) (Or.inl ⟨by kernel_rfl, fun w _ => by go_simp⟩) S4 ?_
          refine wpAnyH_take (i := 10) (v := .bool true) rfl (by kernel_rfl) (by kernel_rfl) (by kernel_rfl) (fun _ _ _ h => h) (Or.inl ⟨by kernel_rfl, fun w _ => by go_simp⟩) S4 ?_
          refine wpAnyH_ready (rs := [11]) (by kernel_rfl) (by simp) (AllReadyH.cons rfl (fun K hK => ?_) AllReadyH.nil)
          go_simp
          refine hK.out _ _ S4 (fun _ => ?_)
          clear hK K
          refine wpAnyH_done (by kernel_rfl) ?_ _
          have TZ := Lib.hid ((T9.out.trans (S1.mono T9.out.size)).trans (S3.mono (Nat.le_trans T9.out.size S1.size)))
          clear hEq hcd S0 S1 S2 S3 S4
          go_wp2
          go_ret
          exact ⟨rfl, TZ.out⟩
        · obtain ⟨q2, rfl⟩ : ∃ q : Nat, k2 = q := ⟨k2.toNat, by omega⟩
          have hq2 : q2 < 256 := by omega
          have hm2 : l2.length ≤ 224 := by omega
          go_wp2_with (with_reducible refine wpl_seg_load aggNode sizeNode (.tmp 5) rfl rfl B3.out 0 [.int .i64 (q2 : Int), .int .u64 (e2 : Int), .slice A2 l2.length c2] rfl rfl rfl ?_)
          ((with_reducible refine (nwrite_yes q2 e2 _ l2 _ hq2 V2b.out hm2).mono ?_); rintro x4 w4 ⟨g4, c4, rfl, O4, h4⟩)
          have Y4 := Lib.hid (O4.bytes (by rw [nb_length]; simp only [maxLen]; omega))
          have X4 := Lib.hid ((X3.out.below h4).more h4.size)
          have A4' := Lib.hid (A3'.out.after h4)
          have B4 := Lib.hid (B3.out.after h4)
          have C4 := Lib.hid (C3.out.after h4)
          have D4 := Lib.hid (D3.out.after h4)
          have T4 := Lib.hid (T3.out.trans (h4.mono T3.out.size))
          have V1c := Lib.hid ((V1b.out.below h4).more h4.size)
          have V2c := Lib.hid ((V2b.out.below h4).more h4.size)
          clear h4 O4 A3' B3 C3 D3 T3 V1b V2b X3
          obtain ⟨r, hr⟩ : ∃ r, r = sameB q1 q2 e1 e2 l1 l2 := ⟨_, rfl⟩
          obtain ⟨bX, hbX⟩ : ∃ bX, bX = nb q1 e1 l1 := ⟨_, rfl⟩
          obtain ⟨bY, hbY⟩ : ∃ bY, bY = nb q2 e2 l2 := ⟨_, rfl⟩
          have hxy : (bX == bY) = r := by
            rw [hbX, hbY, hr, Bool.eq_iff_iff]
            simp only [beq_iff_eq, sameB, decide_eq_true_eq]
            exact ⟨fun h => by obtain ⟨a, b, c⟩ := nb_inj hq1 hq2 HE1.out HE2.out h; exact ⟨by rw [a], b, c⟩, fun ⟨a, b, c⟩ => by rw [Int.ofNat.inj a, b, c]⟩
          have HSM : Hid (∀ w, Bytes w w.heap.size (.slice A1 l1.length c1) l1 → Bytes w w.heap.size (.slice A2 l2.length c2) l2 → Calls Try.prog 15 #[.agg #[.int .i64 (q1 : Int), .int .u64 (e1 : Int), .slice A1 l1.length c1], .agg #[.int .i64 (q2 : Int), .int .u64 (e2 : Int), .slice A2 l2.length c2]] w fun x w' => x = .returned (.bool r) ∧ Below w.heap.size w w') := Lib.hid fun w ha hb => by rw [hr]; exact nsame_any q1 q2 e1 e2 _ _ l1 l2 w _ _ ha hb (Nat.le_refl _) (Nat.le_refl _)
          have xl := Lib.hid (show bX.length = 9 + l1.length ∧ bY.length = 9 + l2.length by rw [hbX, hbY, nb_length, nb_length]; exact ⟨rfl, rfl⟩)
          rw [← hbX] at X4
          rw [← hbY] at Y4
          clear hr hbX hbY
          go_wp2_with fail
          have S0 : Below w4.heap.size w4 w4.drew := (Below.refl _ _).drew
          refine wp_region_held_drew (S := (fun w' => Below w4.heap.size w4 w')) (by kernel_rfl) S0 (fun _ => ?_)
          refine wpAnyH_take (i := 0) (v := .int .i64 0) rfl (by kernel_rfl) (by kernel_rfl) (by kernel_rfl) (fun _ _ _ h => h) (Or.inl ⟨by kernel_rfl, fun w _ => by go_simp⟩) S0 ?_
          refine wpAnyH_take (i := 1) (v := .bool true) rfl (by kernel_rfl) (by kernel_rfl) (by kernel_rfl) (fun _ _ _ h => h) (Or.inl ⟨by kernel_rfl, fun w _ => by go_simp⟩) S0 ?_
          refine wpAnyH_take (i := 2) (v := .bool true) rfl (by kernel_rfl) (by kernel_rfl) (by kernel_rfl) (fun _ _ _ h => h) (Or.inl ⟨by kernel_rfl, fun w _ => by go_simp⟩) S0 ?_
          refine wpAnyH_take (i := 3) (v := .int .i64 0) rfl (by kernel_rfl) (by kernel_rfl) (by kernel_rfl) (fun _ _ _ h => h) (Or.inl ⟨by kernel_rfl, fun w _ => by go_simp⟩) S0 ?_
          refine wpAnyH_take (i := 4) (v := .bool true) rfl (by kernel_rfl) (by kernel_rfl) (by kernel_rfl) (fun _ _ _ h => h) (Or.inl ⟨by kernel_rfl, fun w _ => by go_simp⟩) S0 ?_
          refine wpAnyH_take (i := 5) (v := .bool true) rfl (by kernel_rfl) (by kernel_rfl) (by kernel_rfl) (fun _ _ _ h => h) (Or.inl ⟨by kernel_rfl, fun w _ => by go_simp⟩) S0 ?_
          refine wpAnyH_take (i := 6) (v := .bool true) rfl (by kernel_rfl) (by kernel_rfl) (by kernel_rfl) (fun _ _ _ h => h) (Or.inl ⟨by kernel_rfl, fun w _ => by go_simp⟩) S0 ?_
          refine wpAnyH_take (i := 7) (v := .slice (some ⟨g3, 0, none⟩) (9 + l1.length) c3) rfl (by kernel_rfl) (by kernel_rfl) (by kernel_rfl) (fun _ _ _ h => h) (Or.inl ⟨by kernel_rfl, fun w _ => by go_simp⟩) S0 ?_
          refine wpAnyH_take (i := 8) (v := .string ⟨bX.toArray⟩) rfl (by kernel_rfl) (by kernel_rfl) (by kernel_rfl) (fun _ _ _ h => h) (yields_strB (v := .slice (some ⟨g3, 0, none⟩) (9 + l1.length) c3) (.tmp 42) (by kernel_rfl) (by kernel_rfl) (by kernel_rfl) (fun w h => (X4.out.below h).more h.size)) S0 ?_
          refine wpAnyH_take (i := 9) (v := .slice (some ⟨g4, 0, none⟩) (9 + l2.length) c4) rfl (by kernel_rfl) (by kernel_rfl) (by kernel_rfl) (fun _ _ _ h => h) (Or.inl ⟨by kernel_rfl, fun w _ => by go_simp⟩) S0 ?_
          refine wpAnyH_take (i := 10) (v := .string ⟨bY.toArray⟩) rfl (by kernel_rfl) (by kernel_rfl) (by kernel_rfl) (fun _ _ _ h => h) (yields_strB (v := .slice (some ⟨g4, 0, none⟩) (9 + l2.length) c4) (.tmp 44) (by kernel_rfl) (by kernel_rfl) (by kernel_rfl) (fun w h => (Y4.out.below h).more h.size)) S0 ?_
          refine wpAnyH_take (i := 11) (v := .bool r) rfl (by kernel_rfl) (by kernel_rfl) (by kernel_rfl) (fun _ _ _ h => h) (Or.inl ⟨by kernel_rfl, fun w _ => by go_simp⟩) S0 ?_
          refine wpAnyH_take (i := 12) (v := .agg #[.int .i64 (q1 : Int), .int .u64 (e1 : Int), .slice A1 l1.length c1]) rfl (by kernel_rfl) (by kernel_rfl) (by kernel_rfl) (fun _ _ _ h => h) (yields_seg aggNode sizeNode (.tmp 4) (by kernel_rfl) (by kernel_rfl) (by kernel_rfl) (g := ga) (i := 0) (fun w h => A4'.out.after h) (vs := [.int .i64 (q1 : Int), .int .u64 (e1 : Int), .slice A1 l1.length c1]) rfl rfl) S0 ?_
          refine wpAnyH_take (i := 13) (v := .agg #[.int .i64 (q2 : Int), .int .u64 (e2 : Int), .slice A2 l2.length c2]) rfl (by kernel_rfl) (by kernel_rfl) (by kernel_rfl) (fun _ _ _ h => h) (yields_seg aggNode sizeNode (.tmp 5) (by kernel_rfl) (by kernel_rfl) (by kernel_rfl) (g := gb) (i := 0) (fun w h => B4.out.after h) (vs := [.int .i64 (q2 : Int), .int .u64 (e2 : Int), .slice A2 l2.length c2]) rfl rfl) S0 ?_
          refine wpAnyH_ready (rs := [14]) (by kernel_rfl) (by simp) (AllReadyH.cons rfl (fun K hK => ?_) AllReadyH.nil)
          go_simp
          ((with_reducible refine (HSM.out _ ((V1c.out.below S0).more S0.size) ((V2c.out.below S0).more S0.size)).mono ?_); rintro x5 w5 ⟨rfl, h5⟩)
          have S1 := S0.trans (h5.mono S0.size)
          refine hK.out _ _ S1 (fun _ => ?_)
          clear hK K h5
          refine wpAnyH_take (i := 15) (v := .bool false) rfl (by kernel_rfl) (by kernel_rfl) (by kernel_rfl) (fun _ _ _ h => h) (Or.inl ⟨by kernel_rfl, fun w _ => by go_simp⟩) S1 ?_
          refine wpAnyH_take (i := 16) (v := .bool false) rfl (by kernel_rfl) (by kernel_rfl) (by kernel_rfl) (fun _ _ _ h => h) (Or.inl ⟨by kernel_rfl, fun w _ => by go_simp⟩) S1 ?_
          refine wpAnyH_done (by kernel_rfl) ?_ _
          go_wp2_with fail
          clear hxy
          have h9 : Below w4.heap.size w4 (w5) := S1
          have C9 := Lib.hid (C4.out.after h9)
          have D9 := Lib.hid (D4.out.after h9)
          have T9 := Lib.hid (T4.out.trans (h9.mono T4.out.size))
          obtain ⟨w9, hw9⟩ : ∃ w9, w9 = w5 := ⟨_, rfl⟩
          rw [← hw9] at C9 D9 T9 ⊢
          clear hw9 h9
          have hEq := HEq.out
          have hcd := HCD.out
          have S0 : Below w9.heap.size w9 w9.drew := (Below.refl _ _).drew
          refine wp_region_held_drew (S := (fun w' => Below w9.heap.size w9 w')) (by kernel_rfl) S0 (fun _ => ?_)
          refine wpAnyH_take (i := 0) (v := .agg cC.toArray) rfl (by kernel_rfl) (by kernel_rfl) (by kernel_rfl) (fun _ _ _ h => h) (yields_seg aggCommit sizeCommit (.tmp 6) (by kernel_rfl) (by kernel_rfl) (by kernel_rfl) (g := gc) (i := 0) (fun w h => C9.out.after h) (by rw [List.drop_zero, List.take_of_length_le (Nat.le_of_eq hlC.out)]) hlC.out) S0 ?_
          refine wpAnyH_take (i := 3) (v := .agg cD.toArray) rfl (by kernel_rfl) (by kernel_rfl) (by kernel_rfl) (fun _ _ _ h => h) (yields_seg aggCommit sizeCommit (.tmp 7) (by kernel_rfl) (by kernel_rfl) (by kernel_rfl) (g := gd) (i := 0) (fun w h => D9.out.after h) (by rw [List.drop_zero, List.take_of_length_le (Nat.le_of_eq hlD.out)]) hlD.out) S0 ?_
          refine wpAnyH_take (i := 7) (v := .agg cC.toArray) rfl (by kernel_rfl) (by kernel_rfl) (by kernel_rfl) (fun _ _ _ h => h) (yields_seg aggCommit sizeCommit (.tmp 6) (by kernel_rfl) (by kernel_rfl) (by kernel_rfl) (g := gc) (i := 0) (fun w h => C9.out.after h) (by rw [List.drop_zero, List.take_of_length_le (Nat.le_of_eq hlC.out)]) hlC.out) S0 ?_
          refine wpAnyH_take (i := 8) (v := .agg cD.toArray) rfl (by kernel_rfl) (by kernel_rfl) (by kernel_rfl) (fun _ _ _ h => h) (yields_seg aggCommit sizeCommit (.tmp 7) (by kernel_rfl) (by kernel_rfl) (by kernel_rfl) (g := gd) (i := 0) (fun w h => D9.out.after h) (by rw [List.drop_zero, List.take_of_length_le (Nat.le_of_eq hlD.out)]) hlD.out) S0 ?_
          refine wpAnyH_take (i := 9) (v := .bool rC) rfl (by kernel_rfl) (by kernel_rfl) (by kernel_rfl) (fun _ _ _ h => h) (Or.inl ⟨by kernel_rfl, fun w _ => by go_simp⟩) S0 ?_
          refine wpAnyH_ready (rs := [1]) (by kernel_rfl) (by simp) (AllReadyH.cons rfl (fun K hK => ?_) AllReadyH.nil)
          go_simp
          ((with_reducible refine (HKC.out _).mono ?_); rintro x10 w10 ⟨g10, q10, rfl, O10, h10⟩)
          have S1 := S0.trans (h10.mono S0.size)
          have P10 := Lib.hid (O10.bytes (by rw [hbl.out.1]; simp [maxLen]))
          refine hK.out _ _ S1 (fun _ => ?_)
          clear hK K O10 h10
          refine wpAnyH_weaken (S' := fun w' => Below w10.heap.size w10 w') (fun w h => S1.trans (h.mono S1.size)) _ _ _ _ ?_
          have S2 : Below w10.heap.size w10 w10 := Below.refl _ _
          refine wpAnyH_take (i := 2) (v := .string ⟨bC.toArray⟩) rfl (by kernel_rfl) (by kernel_rfl) (by kernel_rfl) (fun _ _ _ h => h) (yields_strB (v := .slice (some ⟨g10, 0, none⟩) 44 q10) (.tmp 53) (by kernel_rfl) (by kernel_rfl) (by kernel_rfl) (fun w h => (P10.out.below h).more h.size)) S2 ?_
          refine wpAnyH_ready (rs := [4]) (by kernel_rfl) (by simp) (AllReadyH.cons rfl (fun K hK => ?_) AllReadyH.nil)
          go_simp
          ((with_reducible refine (HKD.out _).mono ?_); rintro x11 w11 ⟨g11, q11, rfl, O11, h11⟩)
          have S3 := S2.trans (h11.mono S2.size)
          have P11 := Lib.hid (O11.bytes (by rw [hbl.out.2]; simp [maxLen]))
          refine hK.out _ _ S3 (fun _ => ?_)
          clear hK K O11 h11
          refine wpAnyH_weaken (S' := fun w' => Below w11.heap.size w11 w') (fun w h => S3.trans (h.mono S3.size)) _ _ _ _ ?_
          have S4 : Below w11.heap.size w11 w11 := Below.refl _ _
          refine wpAnyH_take (i := 5) (v := .string ⟨bD.toArray⟩) rfl (by kernel_rfl) (by kernel_rfl) (by kernel_rfl) (fun _ _ _ h => h) (yields_strB (v := .slice (some ⟨g11, 0, none⟩) 44 q11) (.tmp 56) (by kernel_rfl) (by kernel_rfl) (by kernel_rfl) (fun w h => (P11.out.below h).more h.size)) S4 ?_
          refine wpAnyH_take (i := 6) (v := .bool rC) rfl (by kernel_rfl) (by kernel_rfl) (by kernel_rfl) (fun _ _ _ h => h) (Or.inl ⟨by kernel_rfl, fun w _ => by go_simp⟩) S4 ?_
          refine wpAnyH_take (i := 10) (v := .bool true) rfl (by kernel_rfl) (by kernel_rfl) (by kernel_rfl) (fun _ _ _ h => h) (Or.inl ⟨by kernel_rfl, fun w _ => by go_simp⟩) S4 ?_
          refine wpAnyH_ready (rs := [11]) (by kernel_rfl) (by simp) (AllReadyH.cons rfl (fun K hK => ?_) AllReadyH.nil)
          go_simp
          refine hK.out _ _ S4 (fun _ => ?_)
          clear hK K
          refine wpAnyH_done (by kernel_rfl) ?_ _
          have TZ := Lib.hid ((T9.out.trans (S1.mono T9.out.size)).trans (S3.mono (Nat.le_trans T9.out.size S1.size)))
          clear hEq hcd S0 S1 S2 S3 S4
          go_wp2
          go_ret
          exact ⟨rfl, TZ.out⟩
end Go.Proofs.Ytdmganpblkepfaa
