/- The walk of CachePlays: it answers true, and changes nothing that was there. No condition but that the arguments are there. -/
import Derived.Test.YtppodbijdhcclaaQCachePlaysM
import Derived.Test.YtppodbijdhcclaaQCacheKept
import Derived.Test.YtppodbijdhcclaaQNandAnd
namespace Go.Proofs.Ytppodbijdhcclaa
open Go Go.RowKit Go.Maps
def low5 (z : Int) : Nat := (z % 18446744073709551616).toNat % 32
theorem and_low5 (z : Int) : bits .and .i64 z 31 = (low5 z : Nat) := and_low z 5 31 rfl (by omega)
theorem ChL.n_eq {w : World} {B : Nat} {v : Value} {cs : List CV} {ls : List (List UInt8)} (h : ChL w B v cs ls) : ∀ (i : Nat) (x : CV), cs[i]? = some x → x.n = (ls.getD i []).length := fun i x hx => by
  obtain ⟨A, c, e, _⟩ := h.bods.2 i x hx
  simp only [Value.slice.injEq] at e
  exact e.2.1
set_option maxRecDepth 100000 in
set_option maxHeartbeats 32000000 in
theorem cachePlays_walk (v : Value) (cs : List CV) (ls : List (List UInt8)) (most : Int) (u : Value) (xs : List (List CV × List (List UInt8))) (w : World) (hv : ChL w w.heap.size v cs ls) (hu : Chss w w.heap.size u xs) :
    Calls Try.prog 3 #[v, .int .i64 most, u] w fun e w' => e = .returned (.bool true) ∧ Below w.heap.size w w' := by
  obtain ⟨A, c, rfl, hc, hm⟩ := chL_wid hv
  obtain ⟨B, d, vs, rfl, hvm, hvl, hrow, hel⟩ := hu
  have HV := Lib.hid hv
  have HROW := Lib.hid hrow
  have HEL := Lib.hid hel
  have KS := Lib.hid (cspeaks_any w)
  obtain ⟨N, hN⟩ : ∃ N, cs.length = N := ⟨_, rfl⟩
  have HN := Lib.hid hN
  rw [hN] at hc HV ⊢
  obtain ⟨M, hM⟩ : ∃ M, vs.length = M := ⟨_, rfl⟩
  have HM := Lib.hid hM
  rw [hM] at hvm hvl ⊢
  unfold maxLen at hvm
  have a1 := and_low5 most
  obtain ⟨mo, hmo⟩ : ∃ mo, mo = low5 most := ⟨_, rfl⟩
  rw [← hmo] at a1
  clear hv hN hM hrow hel hvl hmo
  go_enter Try.func3, Try.ntmps3
  go_upto_region 3 with ((with_reducible refine KS.out.mono ?_); rintro e w1 ⟨rfl, b1⟩; have T1 := Lib.hid b1; clear KS b1)
  have V1 := Lib.hid ((HV.out.below T1.out).more T1.out.size)
  have KG := Lib.hid (great19_any _ cs w1 V1.out.rows)
  go_wp2_with fail
  refine KG.out.mono ?_
  rintro e w2 ⟨g, rfl, hg, b2⟩
  have T2 := Lib.hid (T1.out.trans (b2.mono T1.out.size))
  have HG := Lib.hid hg
  clear KG b2 V1 hg T1
  cases g with
  | true =>
    go_wp2_with fail
    go_ret
    exact ⟨rfl, T2.out⟩
  | false =>
    have hsz := HG.out rfl
    have HSZ := Lib.hid hsz
    have hN40 : N ≤ 40 := by rw [← HN.out]; exact hsz.1
    clear hsz HG
    by_cases hM40 : M ≤ 40
    · have d1 : decide ((40 : Int) < (M : Int)) = false := by simp; omega
      have zn := zeroNod
      have hl := nod_len 0
      have hs := nod_set 0 (mo : Int)
      have S2 := Lib.hid (nod_src w2 (mo : Int))
      have H2 := Lib.hid ((Below.refl w2.heap.size w2).alloc (Nat.le_refl _) (.cells (nodCells (mo : Int)).toArray 32))
      go_upto_region 6 with fail
      have T3 := Lib.hid (T2.out.trans (H2.out.mono T2.out.size))
      obtain ⟨s, hs2⟩ : ∃ s, s = w2.heap.size := ⟨_, rfl⟩
      have HSW : Hid (w.heap.size ≤ s) := Lib.hid (by rw [hs2]; exact T2.out.size)
      rw [← hs2] at S2 ⊢
      obtain ⟨W3, hW3⟩ : ∃ W3, W3 = w2.alloc (.cells (nodCells (mo : Int)).toArray 32) := ⟨_, rfl⟩
      rw [← hW3] at S2 T3 ⊢
      clear hW3 hs2 H2 T2 zn hl hs d1 a1
      have z1 := zeroSt
      have l1 := stZ_len
      have X3 := Lib.hid (Blk.new W3 30 stZ)
      have H3 := Lib.hid ((Below.refl W3.heap.size W3).alloc (Nat.le_refl _) (.cells stZ.toArray 30))
      have ST1 := Lib.hid (show ∀ u ∈ stZ, u.oneCell' = true from stCells_one)
      have SG1 := Lib.hid (seg_same (l := stZ))
      go_upto_region 7 with ((with_reducible refine wpl_seg_store sizeSt (.tmp 8) (.tmp 31) rfl rfl X3.out 0 stZ l1 (Nat.le_of_eq l1.symm) ST1.out rfl rfl _ SG1.out ?_); intro w4 X4 g4 e4; have HX4 := Lib.hid X4; have G4 := Lib.hid g4; clear X4 g4 e4)
      have RS4 := Lib.hid (show RSt w4 W3.heap.size 30 [] (List.replicate 256 ByteArray.empty) (List.replicate 256 false) from ⟨by rw [List.append_nil]; exact HX4.out, List.length_replicate, List.length_replicate⟩)
      have T4 := Lib.hid ((T3.out.trans (H3.out.mono T3.out.size)).grown G4.out (Nat.le_trans T3.out.size H3.out.size) (fun b e => by cases e; exact T3.out.size))
      have S4 := Lib.hid ((S2.out.after H3.out).grown G4.out (by simp only [ne_eq, Option.some.injEq]; have := S2.out.lt; omega))
      have V4 := Lib.hid ((HV.out.below T4.out).more T4.out.size)
      have KCM := Lib.hid (commit_old W3.heap.size (.slice A N c) cs ls w4 RS4.out V4.out (by rw [HN.out]; omega))
      clear z1 X3 H3 ST1 SG1 HX4 G4 S2 T3 V4 RS4
      go_wp2_with fail
      refine KCM.out.mono ?_
      rintro e w5 ⟨gp, r, bs5, th5, rfl, hr5, hsm5, b5⟩
      have S5 := Lib.hid (S4.out.after b5)
      have T5 := Lib.hid (T4.out.trans (b5.mono T4.out.size))
      have R5 := Lib.hid (show Blk w5 gp 30 (stCells bs5 th5) by have h1 := hr5.1; rw [List.append_nil] at h1; exact h1)
      have BL := Lib.hid hr5.2
      have SM5 := Lib.hid hsm5
      clear KCM b5 hr5 hsm5 S4 T4
      go_upto_if 38 with fail
      go_cut [] (fun wx => ∃ (bs0 : List ByteArray) (th0 : List Bool), Hid (Src wx s bs0 th0 (mo : Int)) ∧ Hid (∀ k, (bs0.getD k ByteArray.empty).size ≤ 100000) ∧ Hid (Below w.heap.size w wx))
      case first =>
        by_cases hr : r = 0
        · subst hr
          have L1 := Lib.hid (stCells_length BL.out.1 BL.out.2)
          have L2 := Lib.hid (show ((stCells bs5 th5).drop 0).take 512 = stCells bs5 th5 by rw [List.drop_zero, List.take_of_length_le (Nat.le_of_eq L1.out)])
          have SB5 := Lib.hid (show Blk w5 s 32 (stCells em fa ++ [.int .i64 (mo : Int)]) from (Src.st.1 S5.out).1)
          have L3 := Lib.hid (seg_st (bs := em) (th := fa) (bs' := bs5) (th' := th5) (r := [Value.int .i64 (mo : Int)]) (stCells_length em_len fa_len) L1.out)
          have L4 : Hid (0 + 512 ≤ (stCells em fa ++ [Value.int .i64 (mo : Int)]).length) := Lib.hid (by rw [List.length_append, stCells_length em_len fa_len]; exact Nat.le_succ _)
          have L5 := Lib.hid (stCells_one (bs := bs5) (th := th5))
          go_wp2_with (first
            | (with_reducible refine wpl_seg_load aggSt sizeSt (.tmp 41) rfl rfl R5.out 0 (stCells bs5 th5) L2.out L1.out rfl ?_)
            | ((with_reducible refine wpl_seg_store sizeSt (.tmp 44) (.tmp 42) rfl rfl SB5.out 0 (stCells bs5 th5) L1.out L4.out L5.out rfl rfl _ L3.out ?_); intro w6 X6 g6 e6; have HX6 := Lib.hid X6; have T6 := Lib.hid (T5.out.grown g6 T5.out.size (fun b e => by cases e; exact HSW.out)); clear X6 g6 e6))
          go_meet
          exact ⟨bs5, th5, Lib.hid (Src.st.2 ⟨HX6.out, BL.out⟩), SM5, T6⟩
        · have d1 : (r == 0) = false := by simpa using hr
          go_wp2_with fail
          go_meet
          exact ⟨em, fa, S5, Lib.hid em_small, T5⟩
      case rest =>
        clear S5 T5 R5 BL SM5
        obtain ⟨bs0, th0, S6, SM6, T6⟩ := hcut
        obtain ⟨w6, hw6⟩ : ∃ w6, w6 = wc := ⟨_, rfl⟩
        rw [← hw6] at S6 T6 ⊢
        clear hw6
        have KN := Lib.hid (new_cat s bs0 th0 (mo : Int) w6 S6.out)
        go_upto_region 11 with (first
          | ((with_reducible refine KN.out.mono ?_); rintro e w7 ⟨q, m, rfl, hq, hm7, c7, b7⟩; have C7 := Lib.hid c7; have S7 := Lib.hid (S6.out.after b7); have T7 := Lib.hid (T6.out.trans (b7.mono T6.out.size)); have QM := Lib.hid (And.intro (Nat.le_trans T6.out.size hq) (Nat.le_trans T6.out.size hm7)); have KN2 := Lib.hid (refNew_any s bs0 th0 (mo : Int) w7 S7.out); clear KN c7 b7 hq hm7 S6 T6)
          | ((with_reducible refine KN2.out.mono ?_); rintro e w8 ⟨r8, hr8, rfl, rc8, b8⟩; have C8 := Lib.hid (C7.out.after b8); have R8 := Lib.hid rc8; have F8 := Lib.hid (C7.out.free hr8); have HR8 : Hid (w.heap.size ≤ r8) := Lib.hid (Nat.le_trans T7.out.size hr8); have T8 := Lib.hid (T7.out.trans (b8.mono T7.out.size)); clear KN2 rc8 b8 hr8 C7 T7 S7))
        go_upto_region 14 with fail
        go_loopw [12, 54] (fun p i wr => ∃ (k r : Nat) (P : Int → Option CE) (S : Nat → Prop), k ≤ M ∧ i = .int .i64 k ∧ p = .pointer (some ⟨r, 0, none⟩) ∧ Hid (CAt wr ⟨q, m, s, bs0, th0, (mo : Int)⟩ (40 * k) P S) ∧ Hid (RcP wr r bs0 th0 P (mo : Int)) ∧ Hid (CI.free ⟨q, m, s, bs0, th0, (mo : Int)⟩ S r ∧ w.heap.size ≤ r) ∧ Hid (PGood P ∧ PGone P) ∧ Hid (Below w.heap.size w wr)) (fun _ i _ => M - (intOf i).toNat)
        case atStart => exact ⟨0, r8, _, _, Nat.zero_le _, rfl, rfl, C8, R8, Lib.hid ⟨F8.out, HR8.out⟩, Lib.hid ⟨PGood.none, PGone.none⟩, T8⟩
        case round =>
          clear C8 R8 F8 HR8 T8
          rename_i wr
          obtain ⟨k, r, P, S, hk, rfl, rfl, hC, hR, hF, hP, hT⟩ := hrel
          by_cases hlt : k < M
          · obtain ⟨a, rfl, hab, hcell⟩ := (HROW.out.below hT.out).at_ (k := k) (by rw [HM.out]; exact hlt)
            obtain ⟨x, hx, hxl⟩ := HEL.out k _ (List.getElem?_eq_getElem (by rw [HM.out]; exact hlt))
            obtain ⟨cs1, ls1⟩ := x
            simp only at hxl
            obtain ⟨A1, c1, hv1, hc1, hm1⟩ := chL_wid hxl
            rw [hv1] at hcell hxl
            obtain ⟨n1, hn1⟩ : ∃ n1, cs1.length = n1 := ⟨_, rfl⟩
            have HN1 := Lib.hid hn1
            rw [hn1] at hcell hxl hc1
            have HXL := Lib.hid ((hxl.below hT.out).more hT.out.size)
            have KG := Lib.hid (great19_any _ cs1 wr HXL.out.rows)
            have HX0 := Lib.hid hxl
            clear hx hv1 hn1 hxl
            go_upto_region 16 with fail
            clear hcell
            go_wp2_with fail
            refine KG.out.mono ?_
            rintro e w8 ⟨g, rfl, hg, b8⟩
            have HG := Lib.hid hg
            have C8 := Lib.hid (hC.out.after b8)
            have R8 := Lib.hid (Rc.after hR.out b8)
            have T8 := Lib.hid (hT.out.trans (b8.mono hT.out.size))
            clear KG b8 hg hC hT hR HXL
            cases g with
            | true =>
              go_wp2_with fail
              go_ret
              exact ⟨rfl, T8.out⟩
            | false =>
              have hsz := HG.out rfl
              have HL40 := Lib.hid hsz.1
              have HLN3 := Lib.hid hsz.2
              have hn40 : n1 ≤ 40 := by rw [← HN1.out]; exact hsz.1
              clear hsz HG
              go_upto_if 62 with fail
              go_cut [12] (fun p wx => ∃ (r : Nat) (P : Int → Option CE) (S : Nat → Prop), p = .pointer (some ⟨r, 0, none⟩) ∧ Hid (CAt wx ⟨q, m, s, bs0, th0, (mo : Int)⟩ (40 * k) P S) ∧ Hid (RcP wx r bs0 th0 P (mo : Int)) ∧ Hid (CI.free ⟨q, m, s, bs0, th0, (mo : Int)⟩ S r ∧ w.heap.size ≤ r) ∧ Hid (PGood P ∧ PGone P) ∧ Hid (Below w.heap.size w wx))
              case first =>
                by_cases hn0 : n1 = 0
                · subst hn0
                  have KCL := Lib.hid (clear_cat ⟨q, m, s, bs0, th0, (mo : Int)⟩ _ P S w8 C8.out)
                  go_wp2_with (first
                    | ((with_reducible refine KCL.out.mono ?_); rintro e w9 ⟨rfl, g9, c9, e9⟩; have C9 := Lib.hid c9; have T9 := Lib.hid (T8.out.grown g9 T8.out.size (fun b e => by cases e; exact QM.out.2)); have KN2 := Lib.hid (refNew_any s bs0 th0 (mo : Int) w9 c9.src); clear KCL c9 g9 e9)
                    | ((with_reducible refine KN2.out.mono ?_); rintro e w10 ⟨r10, hr10, rfl, rc10, b10⟩; have C10 := Lib.hid ((C9.out.after b10).more (Nat.zero_le (40 * k))); have R10 := Lib.hid rc10; have F10 := Lib.hid (C9.out.free hr10); have HR10 : Hid (w.heap.size ≤ r10) := Lib.hid (Nat.le_trans T9.out.size hr10); have T10 := Lib.hid (T9.out.trans (b10.mono T9.out.size)); clear KN2 rc10 b10 hr10))
                  go_meet
                  exact ⟨r10, _, _, rfl, C10, R10, Lib.hid ⟨F10.out, HR10.out⟩, Lib.hid ⟨PGood.none, PGone.none⟩, T10⟩
                · have d2 : ((n1 : Int) == 0) = false := by simp; omega
                  go_wp2_with fail
                  go_meet
                  exact ⟨r, P, S, rfl, C8, R8, hF, hP, T8⟩
              case rest =>
                clear C8 R8 hF hP T8
                obtain ⟨r2, P2, S2, rfl, C9, R9, F9, P9, T9⟩ := hcut
                obtain ⟨W9, hW9⟩ : ∃ W9, W9 = wc := ⟨_, rfl⟩
                rw [← hW9] at C9 R9 T9 ⊢
                clear hW9
                have KC := Lib.hid (copied_free (.slice A1 n1 c1) cs1 ls1 W9 ((HX0.out.below T9.out).more T9.out.size) (by have := HL40.out; omega) (fun x hx => Nat.le_trans (HLN3.out x hx) (by omega)))
                go_upto_region 22 with ((with_reducible refine KC.out.mono ?_); rintro e w10 ⟨v10, cs10, rfl, o10, f10, k10, b10⟩; have O10 := Lib.hid o10; have F10 := Lib.hid f10; have K10 := Lib.hid k10; have B10 := Lib.hid b10; obtain ⟨A10, c10, hv10⟩ := ownsRow_some o10.row; have hl10 : Hid (cs10.length = n1) := Lib.hid (by rw [← List.length_map (f := kg), k10, List.length_map, HN1.out]); rw [hl10.out] at hv10; subst hv10; clear KC o10 f10 k10 b10)
                have HR10 : Hid (rightC lzeros cs10 = rightC lzeros cs1) := Lib.hid (rightC_kgn _ _ _ (kgn_of (ls := ls1) K10.out (fun i x hx => O10.out.n_eq hx) (fun i x hx => HX0.out.n_eq i x hx)))
                have KP := Lib.hid (put_plays ⟨q, m, s, bs0, th0, (mo : Int)⟩ (40 * k) P2 S2 (.slice A10 n1 c10) cs10 ls1 w10 (C9.out.after B10.out) O10.out.rows ⟨O10.out.len, fun i x hx => (O10.out.bods i x hx).bytes (fun b hb => hb.2.1)⟩ (by rw [hl10.out]; exact hn40) (by omega))
                obtain ⟨z, hz⟩ : ∃ z, z = putR th0 (mo : Int) P2 cs10 ls1 := ⟨_, rfl⟩
                obtain ⟨Q, hQ⟩ : ∃ Q, Q = putQ th0 (mo : Int) P2 cs10 ls1 := ⟨_, rfl⟩
                have PQ := Lib.hid (And.intro (show PGood Q by rw [hQ]; exact P9.out.1.putQ _ _ _ _ (fun i x hx => O10.out.n_eq hx)) (show PGone Q by rw [hQ]; exact P9.out.2.putQ _ _ _ _))
                have KP' : Hid (Calls Try.prog 19 #[.pointer (some ⟨q, 0, none⟩), .slice A10 n1 c10] w10 fun e w' => PlaysP w10 ⟨q, m, s, bs0, th0, (mo : Int)⟩ (40 * k + 40) S2 z Q e w') := Lib.hid (by rw [hz, hQ]; exact KP.out)
                have T10 := Lib.hid (T9.out.trans (B10.out.mono T9.out.size))
                have R10 := Lib.hid (Rc.after R9.out B10.out)
                have KR : Hid (∀ w11, w10.grownBy w11 (some m) → Calls Try.prog 20 #[.pointer (some ⟨r2, 0, none⟩), .slice A1 n1 c1] w11 fun e w' => e = .returned (.int .i64 z) ∧ RcP w' r2 bs0 th0 Q (mo : Int) ∧ w11.grownBy w' (some r2)) := Lib.hid (fun w11 g => by
                  rw [hz, hQ, putR_kg th0 (mo : Int) P2 ls1 K10.out HR10.out, putQ_kg th0 (mo : Int) P2 ls1 K10.out HR10.out]
                  exact refPut_plays r2 bs0 th0 P2 (mo : Int) (.slice A1 n1 c1) cs1 ls1 w11 w.heap.size (Rc.grown R10.out g (by simp only [ne_eq, Option.some.injEq]; exact fun e => F9.out.1.2.2.1 e.symm)) (HX0.out.below (T10.out.grown g T10.out.size (fun b e => by cases e; exact QM.out.2))) F9.out.2 (by have := HL40.out; omega))
                have HB10 : Hid (∀ x ∈ cs10, ∀ a, x.A = some a → W9.heap.size ≤ a.block ∧ a.block < w10.heap.size) := Lib.hid (fun x hx a ha => ⟨(F10.out.one x hx a ha).1.1, (F10.out.one x hx a ha).1.2.1⟩)
                have HLT : Hid (m < W9.heap.size ∧ r2 < W9.heap.size ∧ W9.heap.size ≤ w10.heap.size) := Lib.hid ⟨C9.out.lt.2.1, Rc.lt R9.out, B10.out.size⟩
                have HFR : Hid (∀ b, W9.heap.size ≤ b → CI.free ⟨q, m, s, bs0, th0, (mo : Int)⟩ S2 b) := Lib.hid (fun b hb => C9.out.free hb)
                have M10 := Lib.hid (O10.out.mut F10.out)
                have HXN : Hid (∀ x ∈ cs10, x.n ≤ 300) := Lib.hid (fun x hx => by
                  obtain ⟨i, hi⟩ := List.mem_iff_getElem?.1 hx
                  rw [O10.out.n_eq hi]
                  have hi1 := get_lt hi
                  rw [hl10.out, ← HN1.out] at hi1
                  have h1 := HX0.out.n_eq i _ (List.getElem?_eq_getElem hi1)
                  rw [← h1]
                  exact HLN3.out _ (List.getElem_mem hi1))
                clear KP hz hQ C9 R9 T9 O10 F10 HR10
                go_wp2_with (first
                  | ((with_reducible refine KP'.out.mono ?_); rintro e w11 ⟨S11, rfl, c11, hs11, g11⟩; have C11 := Lib.hid c11; have HS11 := Lib.hid hs11; have G11 := Lib.hid g11; have KR' := Lib.hid (KR.out w11 g11); clear KP' KR c11 hs11 g11)
                  | ((with_reducible refine KR'.out.mono ?_); rintro e w12 ⟨rfl, r12, g12⟩; have R12 := Lib.hid r12; have C12 := Lib.hid (C11.out.other g12 ⟨F9.out.1.1, F9.out.1.2.1, F9.out.1.2.2.1, HS11.out r2 (by have := HLT.out; omega) F9.out.1.2.2.2⟩); have M12 := Lib.hid ((M10.out.grown G11.out (fun b e => by cases e; exact HLT.out.1)).grown g12 (fun b e => by cases e; exact HLT.out.2.1)); have T12 := Lib.hid ((T10.out.grown G11.out T10.out.size (fun b e => by cases e; exact QM.out.2)).grown g12 (Nat.le_trans T10.out.size G11.out.size) (fun b e => by cases e; exact F9.out.2)); clear KR' r12 g12 C11 M10 T10 R10))
                have FR12 : Hid (∀ b, W9.heap.size ≤ b → b < w10.heap.size → CI.free ⟨q, m, s, bs0, th0, (mo : Int)⟩ S11 b ∧ r2 ≠ b ∧ w.heap.size ≤ b) := Lib.hid (fun b h1 h2 => ⟨⟨(HFR.out b h1).1, (HFR.out b h1).2.1, (HFR.out b h1).2.2.1, HS11.out b h2 (HFR.out b h1).2.2.2⟩, by have := HLT.out; omega, by have h3 := F9.out.2; have := HLT.out; omega⟩)
                have F12 : Hid (CI.free ⟨q, m, s, bs0, th0, (mo : Int)⟩ S11 r2) := Lib.hid ⟨F9.out.1.1, F9.out.1.2.1, F9.out.1.2.2.1, HS11.out r2 (by have := HLT.out; omega) F9.out.1.2.2.2⟩
                clear HFR G11 HS11
                go_wp2_with fail
                go_loopw [78] (fun y wr => ∃ j : Nat, j ≤ n1 ∧ y = .int .i64 j ∧ Hid (ChMut wr W9.heap.size (.slice A10 n1 c10) cs10) ∧ Hid (CAt wr ⟨q, m, s, bs0, th0, (mo : Int)⟩ (40 * k + 40) Q S11) ∧ Hid (RcP wr r2 bs0 th0 Q (mo : Int)) ∧ Hid (Below w.heap.size w wr)) (fun y _ => n1 - (intOf y).toNat)
                case atStart => exact ⟨0, Nat.zero_le _, rfl, M12, C12, R12, T12⟩
                case round =>
                  clear M12 C12 R12 T12
                  obtain ⟨j, hj, rfl, hMu, hC, hR, hT⟩ := hrel
                  by_cases hj1 : j < n1
                  · have d1 : decide ((j : Int) < (n1 : Int)) = true := by simp; omega
                    obtain ⟨x, hx⟩ : ∃ x, cs10[j]? = some x := ⟨_, List.getElem?_eq_getElem (by rw [hl10.out]; exact hj1)⟩
                    obtain ⟨ax, rfl, hax, hck⟩ := hMu.out.rows.elem hx
                    have HX := Lib.hid (List.mem_of_getElem? hx)
                    have HXJ := Lib.hid hx
                    have hxn := HXN.out x HX.out
                    have HNUL := Lib.hid (hMu.out.nul x HX.out)
                    obtain ⟨xk, xg, xA, xn, xc⟩ := x
                    simp only at hxn
                    have x2 : wr.cell? ⟨(ax.add (j * 3)).block, (ax.add (j * 3)).off + 2, none⟩ = some (.slice xA xn xc) := hck 2 _ rfl
                    clear hck hx
                    obtain ⟨W0, hW0⟩ : ∃ W0, W0 = wr := ⟨_, rfl⟩
                    rw [← hW0] at hMu hC hR hT x2 ⊢
                    clear hW0
                    go_upto_region 28 with fail
                    go_loopw [87] (fun y wr => ∃ t : Nat, t ≤ xn ∧ y = .int .i64 t ∧ Hid (ChMut wr W9.heap.size (.slice (some ax) n1 c10) cs10) ∧ Hid (CAt wr ⟨q, m, s, bs0, th0, (mo : Int)⟩ (40 * k + 40) Q S11) ∧ Hid (RcP wr r2 bs0 th0 Q (mo : Int)) ∧ Hid (Below w.heap.size w wr)) (fun y _ => xn - (intOf y).toNat)
                    case atStart => exact ⟨0, Nat.zero_le _, rfl, hMu, hC, hR, hT⟩
                    case round =>
                      clear hMu hC hR hT x2
                      obtain ⟨t, ht, rfl, hMu, hC, hR, hT⟩ := hrel
                      by_cases htl : t < xn
                      · have d2 : decide ((t : Int) < (xn : Int)) = true := by simp; omega
                        have x2 : wr.cell? ⟨(ax.add (j * 3)).block, (ax.add (j * 3)).off + 2, none⟩ = some (.slice xA xn xc) := by
                          obtain ⟨a2, e2, _, hck⟩ := hMu.out.rows.elem HXJ.out
                          cases e2
                          exact hck 2 _ rfl
                        cases xA with
                        | none => exact absurd (HNUL.out rfl) (fun (h : xn = 0) => by omega)
                        | some ab =>
                          obtain ⟨⟨u0, hu0⟩, hfz⟩ := hMu.out.wrb _ HX.out ab rfl t htl
                          have hbb := HB10.out _ HX.out ab rfl
                          have hfr := FR12.out ab.block hbb.1 hbb.2
                          have hs := only_set wr (ab.add t) (.int .u8 238)
                          rw [add_block] at hs
                          have MW := Lib.hid (hMu.out.write (u := .int .u8 238) HX.out rfl t)
                          have CW := Lib.hid (hC.out.other hs hfr.1)
                          have RW := Lib.hid (Rc.grown hR.out hs (by simp only [ne_eq, Option.some.injEq]; exact hfr.2.1))
                          have TW := Lib.hid (hT.out.grown hs hT.out.size (fun b e => by cases e; exact hfr.2.2))
                          clear hMu hC hR hT hs hbb hfr
                          go_wp2_with fail
                          exact ⟨⟨t + 1, by omega, by go_num, MW, CW, RW, TW⟩, by simp [intOf]; omega⟩
                      · obtain rfl : t = xn := by omega
                        have d2 : decide ((t : Int) < (t : Int)) = false := by simp
                        go_wp2_with fail
                        exact ⟨⟨j + 1, by omega, by go_num, hMu, hC, hR, hT⟩, by simp [intOf]; omega⟩
                  · obtain rfl : j = n1 := by omega
                    have d1 : decide ((j : Int) < (j : Int)) = false := by simp
                    have KS := Lib.hid (same_yes ⟨q, m, s, bs0, th0, (mo : Int)⟩ (40 * k + 40) Q S11 r2 wr hC.out hR.out SM6.out PQ.out.1 PQ.out.2)
                    go_wp2_with ((with_reducible refine KS.out.mono ?_); rintro e w20 ⟨rfl, b20⟩; have C20 := Lib.hid (hC.out.after b20); have R20 := Lib.hid (Rc.after hR.out b20); have T20 := Lib.hid (hT.out.trans (b20.mono hT.out.size)); clear KS b20 hC hR hT hMu)
                    exact ⟨⟨k + 1, r2, Q, S11, by omega, by go_num, rfl, Lib.hid (C20.out.more (by omega)), R20, Lib.hid ⟨F12.out, F9.out.2⟩, PQ, T20⟩, by simp [intOf]; omega⟩
          · obtain rfl : k = M := by omega
            go_wp2_with fail
            go_ret
            exact ⟨rfl, hT.out⟩
    · have d1 : decide ((40 : Int) < (M : Int)) = true := by simp; omega
      go_wp2_with fail
      go_ret
      exact ⟨rfl, T2.out⟩
theorem cachePlays_any (v : Value) (most : Int) (u : Value) (w : World) (hv : ∃ cs ls, ChL w w.heap.size v cs ls) (_ : (Lit.int .i64 most).wf = true) (hu : ∃ xs, Chss w w.heap.size u xs) :
    Calls Try.prog 3 #[v, .int .i64 most, u] w fun e w' => e = .returned (.bool true) ∧ Below w.heap.size w w' := by
  obtain ⟨cs, ls, hv⟩ := hv
  obtain ⟨xs, hu⟩ := hu
  exact cachePlays_walk v cs ls most u xs w hv hu
end Go.Proofs.Ytppodbijdhcclaa

