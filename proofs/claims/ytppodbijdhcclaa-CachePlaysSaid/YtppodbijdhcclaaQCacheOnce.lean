/- The walk of CacheAtOnce: it answers true, and changes nothing that was there. No condition but that the argument is there. -/
import Derived.Test.YtppodbijdhcclaaQCacheOnceM
import Derived.Test.YtppodbijdhcclaaQLiveEq
import Derived.Deep.DeepCutAuto
namespace Go.Proofs.Ytppodbijdhcclaa
open Go Go.RowKit Go.Maps
theorem em_small : ∀ k, (em.getD k ByteArray.empty).size ≤ 100000 := fun k => by
  unfold em
  rw [List.getD_eq_getElem?_getD, List.getElem?_replicate]
  split <;> decide
/-- the bodies of what was put are no longer than those that were handed in -/
theorem putTo_small (cs : List CV) (ls : List (List UInt8)) (hl : ∀ l ∈ ls, l.length ≤ 100000) : ∀ k z e, putTo (fun _ => none) cs ls k z = some e → e.body.length ≤ 100000
  | 0, z, e, h => by cases h
  | k + 1, z, e, h => by
    have h1 : putP (putTo (fun _ => none) cs ls k) (cs.getD k ⟨0, false, none, 0, 0⟩).k (cs.getD k ⟨0, false, none, 0, 0⟩).g (ls.getD k []) z = some e := h
    unfold putP at h1
    split at h1
    · cases h1
      dsimp only
      split
      · simp
      · rw [List.getD_eq_getElem?_getD]
        cases hk : ls[k]? with
        | none => simp
        | some l => exact hl l (List.mem_of_getElem? hk)
    · exact putTo_small cs ls hl k z e h1
set_option maxRecDepth 100000 in
set_option maxHeartbeats 32000000 in
theorem cacheOnce_walk (v : Value) (cs : List CV) (ls : List (List UInt8)) (w : World) (hv : ChL w w.heap.size v cs ls) :
    Calls Try.prog 5 #[v] w fun e w' => e = .returned (.bool true) ∧ Below w.heap.size w w' := by
  obtain ⟨A, c, rfl, hc, hm⟩ := chL_wid hv
  have HV := Lib.hid hv
  have KS := Lib.hid (cspeaks_any w)
  obtain ⟨N, hN⟩ : ∃ N, cs.length = N := ⟨_, rfl⟩
  have HN := Lib.hid hN
  rw [hN] at hc HV ⊢
  clear hv hN
  go_enter Try.func5, Try.ntmps5
  go_upto_region 3 with ((with_reducible refine KS.out.mono ?_); rintro e w1 ⟨rfl, b1⟩; have T1 := Lib.hid b1; clear KS b1)
  have V1 := Lib.hid ((HV.out.below T1.out).more T1.out.size)
  have KG := Lib.hid (great19_any _ cs w1 V1.out.rows)
  go_wp2_with fail
  refine KG.out.mono ?_
  rintro e w2 ⟨g, rfl, hg, b2⟩
  have T2 := Lib.hid (T1.out.trans (b2.mono T1.out.size))
  have HG := Lib.hid hg
  clear KG b2 V1 hg T1
  cases g with
  | true =>
    go_wp2_with fail
    go_ret
    exact ⟨rfl, T2.out⟩
  | false =>
    have hsz := HG.out rfl
    have HSZ := Lib.hid hsz
    have hN40 : N ≤ 40 := by rw [← HN.out]; exact hsz.1
    clear hsz HG
    have zn := zeroNod
    have hl := nod_len 0
    have hs := nod_set 0 250
    have S2 := Lib.hid (nod_src w2 250)
    have H2 := Lib.hid ((Below.refl w2.heap.size w2).alloc (Nat.le_refl _) (.cells (nodCells 250).toArray 32))
    go_upto_region 6 with fail
    have V3 := Lib.hid ((HV.out.below (T2.out.trans (H2.out.mono T2.out.size))))
    have T3 := Lib.hid (T2.out.trans (H2.out.mono T2.out.size))
    obtain ⟨s, hs2⟩ : ∃ s, s = w2.heap.size := ⟨_, rfl⟩
    have HSW : Hid (w.heap.size ≤ s) := Lib.hid (by rw [hs2]; exact T2.out.size)
    rw [← hs2] at S2 ⊢
    obtain ⟨W3, hW3⟩ : ∃ W3, W3 = w2.alloc (.cells (nodCells 250).toArray 32) := ⟨_, rfl⟩
    rw [← hW3] at S2 V3 T3 ⊢
    clear hW3 hs2 H2 T2 zn hl hs
    have KN1 := Lib.hid (new_cat s em fa 250 W3 S2.out)
    go_upto_region 7 with (first
      | ((with_reducible refine KN1.out.mono ?_); rintro e w4 ⟨qa, ma, rfl, hqa, hma, ca, b4⟩; have CA4 := Lib.hid ca; have T4 := Lib.hid (T3.out.trans (b4.mono T3.out.size)); have GA := Lib.hid (And.intro (Nat.le_trans T3.out.size hqa) (Nat.le_trans T3.out.size hma)); have KN2 := Lib.hid (new_cat s em fa 250 w4 (S2.out.after b4)); clear KN1 ca b4 hqa hma S2 T3)
      | ((with_reducible refine KN2.out.mono ?_); rintro e w5 ⟨qb, mb, rfl, hqb, hmb, cb, b5⟩; have FBA : Hid (CI.free ⟨qb, mb, s, em, fa, 250⟩ (fun _ => False) ma) := Lib.hid (by obtain ⟨l1, l2, l3, l4, l5⟩ := CA4.out.lt; simp only at l2 l5; exact ⟨by show qb ≠ ma; omega, l5, by show mb ≠ ma; omega, fun h => h⟩); have CB5 := Lib.hid cb; have CA5 := Lib.hid (CA4.out.after b5); have FAB := Lib.hid (CA4.out.free hmb); have T5 := Lib.hid (T4.out.trans (b5.mono T4.out.size)); have GB := Lib.hid (And.intro (Nat.le_trans T4.out.size hqb) (Nat.le_trans T4.out.size hmb)); clear KN2 cb b5 hqb hmb CA4 T4))
    have V5 := Lib.hid (HV.out.below T5.out)
    have KC := Lib.hid (copied_any (.slice A N c) cs ls w5 (V5.out.more T5.out.size) (by have := HN.out; omega) (fun x hx => Nat.le_trans (HSZ.out.2 x hx) (by omega)))
    go_upto_region 9 with fail
    go_wp2_with ((with_reducible refine KC.out.mono ?_); rintro e w6 ⟨v6, cs6, rfl, o6, k6, b6⟩; have O6 := Lib.hid o6; have K6 := Lib.hid k6; have B6 := Lib.hid b6; clear KC o6 k6 b6)
    have CA6 := Lib.hid (CA5.out.after B6.out)
    have CB6 := Lib.hid (CB5.out.after B6.out)
    have T6 := Lib.hid (T5.out.trans (B6.out.mono T5.out.size))
    have hlen6 : Hid (cs6.length = N) := Lib.hid (by rw [← List.length_map (f := kg), K6.out, List.length_map, HN.out])
    refine (put_cat ⟨qa, ma, s, em, fa, 250⟩ 0 (fun _ => none) _ v6 cs6 ls w6 CA6.out O6.out.rows ⟨O6.out.len, fun i x hx => (O6.out.bods i x hx).bytes (fun b hb => hb.2.1)⟩ (by rw [hlen6.out]; omega) (by omega)).mono ?_
    rintro e w7 (⟨_, rfl, b7⟩ | ⟨_, h7, _⟩ | ⟨hr7, _, rfl, g7, ca7⟩)
    · have KCH := Lib.hid (changes_cat ⟨qa, ma, s, em, fa, 250⟩ 0 (fun _ => none) _ w7 (CA6.out.after b7) (fun z e h => by cases h))
      have T7 := Lib.hid (T6.out.trans (b7.mono T6.out.size))
      clear b7
      go_wp2_with fail
      refine KCH.out.mono ?_
      rintro e w8 ⟨v8, cs8, rfl, o8, k8, b8⟩
      have h0 : cs8 = [] := by
        rw [chgTo_none] at k8
        simpa using k8
      subst h0
      obtain ⟨A8, c8, rfl⟩ := ownsRow_some o8.row
      have T8 := Lib.hid (T7.out.trans (b8.mono T7.out.size))
      clear KCH o8 k8 b8
      simp only [List.length_nil]
      go_wp2_with fail
      go_ret
      exact ⟨rfl, T8.out⟩
    · exfalso
      unfold noSpace at h7
      have h1 := cntP_putTo fa (fun _ => none) cs6 ls cs6.length
      rw [cntP_fa, hlen6.out] at h1
      have h2 := h7.1
      unfold behP at h2
      dsimp only at h2
      rw [hlen6.out] at h2
      omega
    · rw [hlen6.out] at ca7
      obtain ⟨SA, hSA⟩ : ∃ SA : Nat → Prop, SA = fun b => False ∨ w6.heap.size ≤ b ∧ b < w7.heap.size := ⟨_, rfl⟩
      rw [← hSA] at ca7
      have FAB7 : Hid (CI.free ⟨qa, ma, s, em, fa, 250⟩ SA mb) := Lib.hid (by
        obtain ⟨f1, f2, f3, _⟩ := FAB.out
        refine ⟨f1, f2, f3, fun h => ?_⟩
        rw [hSA] at h
        have h2 := CB6.out.lt.2.1
        simp only at h2
        rcases h with h | h
        · exact h
        · omega)
      have CA7 := Lib.hid ca7
      have CB7 := Lib.hid (CB6.out.other g7 FBA.out)
      have T7 := Lib.hid (T6.out.grown g7 T6.out.size (fun b e => by cases e; exact GA.out.2))
      have V7 := Lib.hid (HV.out.below T7.out)
      have KC2 := Lib.hid (copied_any (.slice A N c) cs ls w7 (V7.out.more T7.out.size) (by have := HN.out; omega) (fun x hx => Nat.le_trans (HSZ.out.2 x hx) (by omega)))
      have HR7 : Hid (∀ (k : Nat) (x : CV), cs6[k]? = some x → (0 ≤ x.k ∧ x.k < 256) ∧ x.n ≤ 224) := Lib.hid (fun k x hx => rightC_keys hr7 hx)
      have N6 : Hid (∀ (i : Nat) (x : CV), cs6[i]? = some x → x.n = (ls.getD i []).length) := Lib.hid (fun i x hx => O6.out.n_eq hx)
      have LS : Hid (∀ l ∈ ls, l.length ≤ 100000) := Lib.hid (fun l hl => by
        obtain ⟨i, hi⟩ := List.mem_iff_getElem?.1 hl
        have hi2 := get_lt hi
        rw [← O6.out.len] at hi2
        have h1 := O6.out.n_eq (List.getElem?_eq_getElem hi2)
        have h2 := rightC_keys hr7 (List.getElem?_eq_getElem hi2)
        rw [List.getD_eq_getElem?_getD, hi, Option.getD_some] at h1
        omega)
      clear g7 ca7 hr7 hSA CA6 CB6 T6 O6 B6 V5 FAB FBA
      go_upto_region 11 with fail
      go_wp2_with ((with_reducible refine KC2.out.mono ?_); rintro e w8 ⟨v8, cs8, rfl, o8, k8, b8⟩; have O8 := Lib.hid o8; have K8 := Lib.hid k8; have B8 := Lib.hid b8; obtain ⟨A8, c8, hv8⟩ := ownsRow_some o8.row; have hlen8 : Hid (cs8.length = N) := Lib.hid (by rw [← List.length_map (f := kg), k8, List.length_map, HN.out]); rw [hlen8.out] at hv8; subst hv8; clear KC2 o8 k8 b8)
      have CA8 := Lib.hid (CA7.out.after B8.out)
      have CB8 := Lib.hid (CB7.out.after B8.out)
      have T8 := Lib.hid (T7.out.trans (B8.out.mono T7.out.size))
      have MB : Hid (mb < w7.heap.size ∧ ma < w7.heap.size) := Lib.hid ⟨CB7.out.lt.2.1, CA7.out.lt.2.1⟩
      clear CA7 CB7 T7 V7
      go_loopw [43] (fun i wr => ∃ (k : Nat) (SB : Nat → Prop), k ≤ N ∧ i = .int .i64 k ∧ Hid (CAt wr ⟨qb, mb, s, em, fa, 250⟩ k (putTo (fun _ => none) cs8 ls k) SB) ∧ Hid (CAt wr ⟨qa, ma, s, em, fa, 250⟩ (0 + N) (putTo (fun _ => none) cs6 ls N) SA) ∧ Hid (ChOwn wr w7.heap.size (.slice A8 N c8) cs8 ls) ∧ Hid (Below w.heap.size w wr)) (fun i _ => N - (intOf i).toNat)
      case atStart => exact ⟨0, _, Nat.zero_le _, rfl, CB8, CA8, O8, T8⟩
      case round =>
        clear CA8 CB8 O8 T8
        rename_i wr
        obtain ⟨k, SB, hk, rfl, hB, hA, hO, hT⟩ := hrel
        by_cases hlt : k < N
        · obtain ⟨x, hx⟩ : ∃ x, cs8[k]? = some x := ⟨_, List.getElem?_eq_getElem (by rw [hlen8.out]; exact hlt)⟩
          obtain ⟨a, rfl, hab, hck⟩ := hO.out.rows.elem hx
          have hn8 := hO.out.n_eq hx
          have hby := (hO.out.bods k x hx).bytes (fun b hb => hb.2.1)
          have hfit : (0 ≤ x.k ∧ x.k < 256) ∧ x.n ≤ 224 := by
            obtain ⟨y, hy⟩ : ∃ y, cs6[k]? = some y := ⟨_, List.getElem?_eq_getElem (by rw [hlen6.out]; exact hlt)⟩
            have h1 := HR7.out k y hy
            have h2 := N6.out k y hy
            have h3 := kg_get (K6.out.trans K8.out.symm) k
            rw [List.getD_eq_getElem?_getD, List.getD_eq_getElem?_getD, hy, hx, Option.getD_some, Option.getD_some] at h3
            rw [← h3.1, hn8, ← h2]
            exact h1
          obtain ⟨xk, xg, xA, xn, xc⟩ := x
          obtain ⟨l, hl⟩ : ∃ l, l = ls.getD k [] := ⟨_, rfl⟩
          rw [← hl] at hby
          have HNX : Hid (putTo (fun _ => none) cs8 ls (k + 1) = putP (putTo (fun _ => none) cs8 ls k) xk xg l) := Lib.hid (by
            show putP _ (cs8.getD k _).k (cs8.getD k _).g (ls.getD k []) = _
            rw [List.getD_eq_getElem?_getD, hx, ← hl]
            rfl)
          have HCK := Lib.hid (show ∀ j u, ([.int .i64 xk, .bool xg, .slice xA xn xc] : List Value)[j]? = some u → wr.cell? ((a.add (k * 3)).add j) = some u from hck)
          have B2 := Lib.hid ((Below.refl wr.heap.size wr).alloc (Nat.le_refl _) (.cells #[.int .i64 xk, .bool xg, .slice xA xn xc] 46))
          have X2 := Lib.hid (Blk.new3c wr (.int .i64 xk) (.bool xg) (.slice xA xn xc) 46)
          have HCN : Hid (cntP (liveP fa (putP (putTo (fun _ => none) cs8 ls k) xk xg l)) ≤ 41) := Lib.hid (by
            have h1 := cntP_putTo fa (fun _ => none) cs8 ls (k + 1)
            rw [HNX.out, cntP_fa] at h1
            omega)
          have KP := Lib.hid (put_one_cat ⟨qb, mb, s, em, fa, 250⟩ k (putTo (fun _ => none) cs8 ls k) SB ⟨xk, xg, xA, xn, xc⟩ l _ (hB.out.after B2.out) hfit ((hby.below B2.out).more B2.out.size) (fun h => by have h1 := h.1; have := HCN.out; simp only at h1; omega) (by omega))
          have hA2 := Lib.hid (hA.out.after B2.out)
          have hO2 := Lib.hid (hO.out.below B2.out)
          have hT2 := Lib.hid (hT.out.trans (B2.out.mono hT.out.size))
          clear hck hx hn8 hby hfit hl hA hO hT hB B2
          go_upto_region 14 with (with_reducible refine wpl_cells (q := a.add (k * 3)) (row := [.int .i64 xk, .bool xg, .slice xA xn xc]) aggC sizeC (.tmp 45) rfl rfl rfl rfl HCK.out ?_)
          obtain ⟨W2, hW2⟩ : ∃ W2, W2 = wr.alloc (.cells #[.int .i64 xk, .bool xg, .slice xA xn xc] 46) := ⟨_, rfl⟩
          rw [← hW2] at KP X2 hA2 hO2 hT2 ⊢
          clear hW2 HCK
          go_wp2_with (first
            | (with_reducible refine wpl_seg_load aggC sizeC (.tmp 7) rfl rfl X2.out 0 [.int .i64 xk, .bool xg, .slice xA xn xc] rfl rfl rfl ?_)
            | ((with_reducible refine KP.out.mono ?_); rintro e w9 ⟨rfl, g9, SB', cb9⟩; have CB9 := Lib.hid cb9; have CA9 := Lib.hid (hA2.out.other g9 FAB7.out); have O9 := Lib.hid (hO2.out.other g9 MB.out.1); have T9 := Lib.hid (hT2.out.grown g9 hT2.out.size (fun b e => by cases e; exact GB.out.2)); clear KP g9 cb9))
          exact ⟨⟨k + 1, SB', by omega, by go_num, Lib.hid (by rw [HNX.out]; exact CB9.out), CA9, O9, T9⟩, by simp [intOf]; omega⟩
        · obtain rfl : k = N := by omega
          have HPP : Hid (putTo (fun _ => none) cs8 ls k = putTo (fun _ => none) cs6 ls k) := Lib.hid (putTo_kg _ _ (K8.out.trans K6.out.symm) k)
          obtain ⟨P, hP⟩ : ∃ P, P = putTo (fun _ => none) cs6 ls k := ⟨_, rfl⟩
          have HPS : Hid (∀ z e, P z = some e → e.body.length ≤ 100000) := Lib.hid (by rw [hP]; exact putTo_small cs6 ls LS.out k)
          rw [HPP.out, ← hP] at hB
          rw [← hP] at hA
          clear hO HPP hP
          have KA := Lib.hid (live_cat ⟨qa, ma, s, em, fa, 250⟩ _ P SA wr hA.out)
          go_upto_region 17 with fail
          have HEQ : Hid (∀ (M : List UInt8), M.length = 32 → ∀ w, (Op.equalIn 10000 53 (.agg (cl M)) (.agg (cl M))).run Try.prog w = .ok true w) := Lib.hid (fun M hM w => by rw [equalIn_lcl hM hM w, decide_eq_true rfl])
          obtain ⟨n, hn⟩ : ∃ n, n = (chgTo fa P 256).length := ⟨_, rfl⟩
          have HNC := Lib.hid hn
          clear hn
          go_upto_region 19 with (first
            | ((with_reducible refine KA.out.mono ?_); rintro e w9 ⟨M, ML', rfl, HM', b9⟩; have HML := Lib.hid ML'; have HM := Lib.hid HM'; have CA9 := Lib.hid (hA.out.after b9); have CB9 := Lib.hid (hB.out.after b9); have T9 := Lib.hid (hT.out.trans (b9.mono hT.out.size)); have KB := Lib.hid (live_cat ⟨qb, mb, s, em, fa, 250⟩ _ P SB w9 CB9.out); clear KA ML' HM' b9 hA hB hT)
            | ((with_reducible refine KB.out.mono ?_); rintro e w10 ⟨M2, ML2, rfl, HM2, b10⟩; obtain rfl : M2 = M := live_ext ML2 HML.out (fun z => (HM2 z).trans (HM.out z).symm); have heq := HEQ.out M2 ML2; have CA10 := Lib.hid (CA9.out.after b10); have CB10 := Lib.hid (CB9.out.after b10); have T10 := Lib.hid (T9.out.trans (b10.mono T9.out.size)); have KCA := Lib.hid (changes_cat ⟨qa, ma, s, em, fa, 250⟩ _ P SA w10 CA10.out HPS.out); clear KB ML2 HM2 b10 CA9 CB9 T9 HM HML)
            | ((with_reducible refine KCA.out.mono ?_); rintro e w11 ⟨v11, cs11, rfl, o11, k11, b11⟩; obtain ⟨A11, c11, hv11⟩ := ownsRow_some o11.row; have hl11 : cs11.length = n := (by rw [HNC.out, ← List.length_map (f := kg), k11, List.length_map]); rw [hl11] at hv11; subst hv11; have CA11 := Lib.hid (CA10.out.after b11); have CB11 := Lib.hid (CB10.out.after b11); have T11 := Lib.hid (T10.out.trans (b11.mono T10.out.size)); have KCB := Lib.hid (changes_cat ⟨qb, mb, s, em, fa, 250⟩ _ P SB w11 CB11.out HPS.out); clear KCA o11 k11 b11 hl11 CA10 CB10 T10)
            | ((with_reducible refine KCB.out.mono ?_); rintro e w12 ⟨v12, cs12, rfl, o12, k12, b12⟩; obtain ⟨A12, c12, hv12⟩ := ownsRow_some o12.row; have hl12 : cs12.length = n := (by rw [HNC.out, ← List.length_map (f := kg), k12, List.length_map]); rw [hl12] at hv12; subst hv12; have CA12 := Lib.hid (CA11.out.after b12); have CB12 := Lib.hid (CB11.out.after b12); have T12 := Lib.hid (T11.out.trans (b12.mono T11.out.size)); clear KCB o12 k12 b12 hl12 CA11 CB11 T11))
          clear HEQ heq
          obtain ⟨W0, hW0⟩ : ∃ W, W = w12 := ⟨_, rfl⟩
          subst hW0
          go_wp2_with fail
          go_loopw [8] (fun i wr => ∃ j : Nat, j ≤ 256 ∧ i = .int .i64 j ∧ Hid (CAt wr ⟨qa, ma, s, em, fa, 250⟩ (0 + k) P SA) ∧ Hid (CAt wr ⟨qb, mb, s, em, fa, 250⟩ k P SB) ∧ Hid (Below w.heap.size w wr)) (fun i _ => 256 - (intOf i).toNat)
          case atStart => exact ⟨0, Nat.zero_le _, rfl, CA12, CB12, T12⟩
          case round =>
            clear CA12 CB12 T12
            obtain ⟨j, hj, rfl, hA, hB, hT⟩ := hrel
            by_cases hj2 : j < 256
            · have d1 : decide ((j : Int) < 256) = true := by simp; omega
              have HW : Hid ((Lit.int .i64 (j : Int)).wf = true) := Lib.hid (wfC ⟨by omega, by omega⟩)
              have KGA := Lib.hid (get_cat ⟨qa, ma, s, em, fa, 250⟩ _ P SA (j : Int) wr hA.out em_small HPS.out HW.out)
              have hgg : CI.get ⟨qb, mb, s, em, fa, 250⟩ P (j : Int) = CI.get ⟨qa, ma, s, em, fa, 250⟩ P (j : Int) := rfl
              have KGB : Hid (∀ w2, Below wr.heap.size wr w2 → Calls Try.prog 22 #[.pointer (some ⟨qb, 0, none⟩), .int .i64 (j : Int)] w2 fun e w' => GetC w2 (CI.get ⟨qa, ma, s, em, fa, 250⟩ P (j : Int)) e w') := Lib.hid (fun w2 hb2 => get_cat ⟨qb, mb, s, em, fa, 250⟩ _ P SB (j : Int) w2 (hB.out.after hb2) em_small HPS.out HW.out)
              clear hgg
              obtain ⟨o, ho⟩ : ∃ o, o = CI.get ⟨qa, ma, s, em, fa, 250⟩ P (j : Int) := ⟨_, rfl⟩
              rw [← ho] at KGA KGB
              clear ho
              go_wp2_with fail
              refine KGA.out.mono ?_
              rintro e w13 ⟨b13, h13⟩
              have KGB13 := Lib.hid (KGB.out w13 b13)
              have CA13 := Lib.hid (hA.out.after b13)
              have CB13 := Lib.hid (hB.out.after b13)
              have T13 := Lib.hid (hT.out.trans (b13.mono hT.out.size))
              clear KGA KGB b13 hA hB hT
              cases o with
              | none =>
                dsimp only at h13
                subst h13
                go_wp2_with fail
                refine KGB13.out.mono ?_
                rintro e w14 ⟨b14, h14⟩
                dsimp only at h14
                subst h14
                have hrun := run_str (w := w14) (B := 0) (st := 9) byteTys Try.underlying5 Try.underlying9 (v := .slice none 0 0) (l := []) ⟨none, 0, rfl, Nat.le_refl _, by simp [maxLen], Row.nil⟩
                have CA14 := Lib.hid (CA13.out.after b14)
                have CB14 := Lib.hid (CB13.out.after b14)
                have T14 := Lib.hid (T13.out.trans (b14.mono T13.out.size))
                clear b14 KGB13 CA13 CB13 T13
                go_wp2_with fail
                exact ⟨⟨j + 1, by omega, by go_num, CA14, CB14, T14⟩, by simp [intOf]; omega⟩
              | some l =>
                dsimp only at h13
                obtain ⟨A13, c13, rfl, o13⟩ := h13
                obtain ⟨ln, hln⟩ : ∃ ln, ln = l.length := ⟨_, rfl⟩
                have O13 := Lib.hid o13
                have HLN := Lib.hid hln
                rw [← hln] at O13 ⊢
                clear o13 hln
                go_wp2_with fail
                refine KGB13.out.mono ?_
                rintro e w14 ⟨b14, h14⟩
                dsimp only at h14
                obtain ⟨A14, c14, rfl, o14⟩ := h14
                rw [← HLN.out] at o14 ⊢
                have hlm : l.length ≤ maxLen := by
                  obtain ⟨_, _, e, h1, h2⟩ := o14.shape
                  cases e
                  omega
                have hrun1 := run_str (w := w14) (st := 9) byteTys Try.underlying5 Try.underlying9 ((O13.out.bytes hlm).below b14)
                have hrun2 := run_str (w := w14) (st := 9) byteTys Try.underlying5 Try.underlying9 (o14.bytes hlm)
                have CA14 := Lib.hid (CA13.out.after b14)
                have CB14 := Lib.hid (CB13.out.after b14)
                have T14 := Lib.hid (T13.out.trans (b14.mono T13.out.size))
                clear b14 KGB13 CA13 CB13 T13 o14 O13 hlm
                go_wp2_with fail
                exact ⟨⟨j + 1, by omega, by go_num, CA14, CB14, T14⟩, by simp [intOf]; omega⟩
            · obtain rfl : j = 256 := by omega
              go_wp2_with fail
              go_ret
              exact ⟨rfl, hT.out⟩
theorem cacheAtOnce_any (v : Value) (w : World) (hv : ∃ cs ls, ChL w w.heap.size v cs ls) :
    Calls Try.prog 5 #[v] w fun e w' => e = .returned (.bool true) ∧ Below w.heap.size w w' := by
  obtain ⟨cs, ls, hv⟩ := hv
  exact cacheOnce_walk v cs ls w hv
end Go.Proofs.Ytppodbijdhcclaa

