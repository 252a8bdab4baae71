/- The document's cache: Put. No condition. -/
import Derived.Test.YtppodbijdhcclaaQRefCache
import Derived.StillTailTactics
import Derived.WalkSmall
namespace Go.Proofs.Ytppodbijdhcclaa
open Go Go.RowKit
def mergeP (P Q : Int → Option CE) : Int → Option CE := fun z => match Q z with | some e => some e | none => P z
theorem overB_over (bs : List ByteArray) (P Q : Int → Option CE) : overB (overB bs P) Q = overB bs (mergeP P Q) := list_eq_getD ByteArray.empty (overB_len _ _) (overB_len _ _) (fun k hk => by
  rw [overB_get _ _ hk, overB_get _ _ hk, overB_get _ _ hk]
  unfold mergeP
  cases Q (k : Int) <;> rfl)
theorem overT_over (th : List Bool) (P Q : Int → Option CE) : overT (overT th P) Q = overT th (mergeP P Q) := list_eq_getD false (overT_len _ _) (overT_len _ _) (fun k hk => by
  rw [overT_get _ _ hk, overT_get _ _ hk, overT_get _ _ hk]
  unfold mergeP
  cases Q (k : Int) <;> rfl)
theorem putTo_merge (P : Int → Option CE) (cs : List CV) (ls : List (List UInt8)) : ∀ k, mergeP P (putTo (fun _ => none) cs ls k) = putTo P cs ls k
  | 0 => rfl
  | k + 1 => funext fun z => by
    have ih := congrFun (putTo_merge P cs ls k) z
    show mergeP P (putP (putTo (fun _ => none) cs ls k) _ _ _) z = putP (putTo P cs ls k) _ _ _ z
    unfold mergeP at ih ⊢
    unfold putP
    by_cases e : z = (cs.getD k ⟨0, false, none, 0, 0⟩).k
    · rw [if_pos e, if_pos e]
    · rw [if_neg e, if_neg e]
      exact ih
theorem chgL_put (P : Int → Option CE) {k : Nat} (hk : k < 256) (g : Bool) (l : List UInt8) : chgL (putP P (k : Int) g l) = (chgL P).set k true := list_eq_getD false (chgL_len _) (by rw [List.length_set]; exact chgL_len _) (fun j hj => by
  rw [chgL_get _ hj, List.getD_eq_getElem?_getD (l := (chgL P).set _ _), List.getElem?_set]
  unfold putP
  by_cases e : k = j
  · subst e
    rw [if_pos rfl, if_pos rfl, if_pos (show k < (chgL P).length by rw [chgL_len]; exact hk)]
    rfl
  · rw [if_neg (by omega), if_neg e, ← List.getD_eq_getElem?_getD, chgL_get _ hj])
theorem cnt_over (th : List Bool) (P : Int → Option CE) : cntTo (overT th P) 256 = cntP (liveP th P) := by
  unfold cntTo cntP
  rw [List.filter_congr (fun k hk => ?_)]
  have hk2 : k < 256 := by simpa using hk
  rw [overT_get _ _ hk2]
  unfold liveP
  cases P (k : Int) with
  | none => dsimp only; rw [decide_eq_true (by omega), Bool.true_and, Int.toNat_natCast]
  | some e => rfl
theorem seg_now {A B C D : List Value} (h1 : A.length = 512) (h2 : B.length = 512) (h3 : C.length = 512) : segSet (A ++ (B ++ D)) 512 C = A ++ (C ++ D) := by
  unfold segSet
  rw [List.take_left' h1, h3, ← List.append_assoc A B D, List.drop_left' (by rw [List.length_append]; omega)]
  simp
/-- no room: as the program's Put says it -/
def noRoom (th : List Bool) (mo : Int) (P : Int → Option CE) (cs : List CV) (ls : List (List UInt8)) : Prop := mo < (cntP (behP th P cs ls) : Int) ∧ cntP (liveP th P) < cntP (behP th P cs ls)
set_option maxRecDepth 100000 in
set_option maxHeartbeats 16000000 in
theorem refPut_any (r : Nat) (bs : List ByteArray) (th : List Bool) (P : Int → Option CE) (mo : Int) (v : Value) (cs : List CV) (ls : List (List UInt8)) (w : World) (B : Nat) (h : RcP w r bs th P mo) (hc : ChL w B v cs ls) (hB : B ≤ r) (hz : cs.length ≤ 1000) :
    Calls Try.prog 20 #[.pointer (some ⟨r, 0, none⟩), v] w fun e w' =>
      (rightC lzeros cs = false ∧ e = .returned (.int .i64 1) ∧ Below w.heap.size w w') ∨
      (rightC lzeros cs = true ∧ noRoom th mo P cs ls ∧ e = .returned (.int .i64 40) ∧ Below w.heap.size w w') ∨
      (rightC lzeros cs = true ∧ ¬ noRoom th mo P cs ls ∧ e = .returned (.int .i64 0) ∧ w.grownBy w' (some r) ∧ RcP w' r bs th (putTo P cs ls cs.length) mo) := by
  obtain ⟨A, c, rfl, hcc, hm⟩ := chL_wid hc
  have HR := Lib.hid h
  have HC := Lib.hid hc
  obtain ⟨N, hN⟩ : ∃ N, cs.length = N := ⟨_, rfl⟩
  have HN := Lib.hid hN
  rw [hN] at hcc hz HC ⊢
  have KC := Lib.hid (commit_walk r 512 _ _ 1000 (.slice A N c) cs ls w (Rc.now h) (HC.out.more (Nat.le_trans hB (Nat.le_of_lt (Rc.lt h)))) (by rw [hN]; exact hz))
  have HBR : Hid (B ≤ r ∧ r < w.heap.size) := Lib.hid ⟨hB, Rc.lt h⟩
  clear h hc hN hB
  go_enter Try.func20, Try.ntmps20
  go_wp2_with fail
  refine KC.out.mono ?_
  rintro e w1 ⟨b1, (⟨hr, rfl⟩ | ⟨_, h1, _⟩ | ⟨hr, _, rfl, hs⟩)⟩
  · clear KC
    go_wp2_with fail
    go_ret
    exact .inl ⟨hr, rfl, b1⟩
  · exfalso
    have := cntTo_le (overT (overT th P) (putTo (fun _ => none) cs ls cs.length)) 256
    omega
  · rw [overB_over, overT_over, putTo_merge, HN.out] at hs
    have R1 := Lib.hid (Rc.after HR.out b1)
    have S1 := Lib.hid hs
    have B1 := Lib.hid b1
    have HRT := Lib.hid hr
    obtain ⟨G, hG⟩ : ∃ G, G = w.heap.size := ⟨_, rfl⟩
    have RG : Hid (r < G ∧ G = w.heap.size) := Lib.hid ⟨by rw [hG]; exact Rc.lt HR.out, hG⟩
    rw [← hG] at S1 ⊢
    have HN1 := Lib.hid (cnt_over th (putTo P cs ls N))
    have HN0 := Lib.hid (cnt_over th P)
    obtain ⟨n1, hn1⟩ : ∃ n1, n1 = cntTo (overT th (putTo P cs ls N)) 256 := ⟨_, rfl⟩
    obtain ⟨n0, hn0⟩ : ∃ n0, n0 = cntTo (overT th P) 256 := ⟨_, rfl⟩
    have q1 : ∀ k, Calls Try.prog 36 #[.pointer (some ⟨G, 0, none⟩)] (w1.drewN k) fun e w' => e = .returned (.int .i64 (n1 : Nat)) ∧ w' = w1.drewN k := fun k => (count_any G 0 _ _ _ (S1.out.after (below_drewN (Below.refl _ _) k)).at0).mono (fun _ _ h => ⟨by rw [hn1]; exact h.1, h.2.symm⟩)
    have q0 : ∀ k, Calls Try.prog 36 #[.pointer (some ⟨r, 512, none⟩)] (w1.drewN k) fun e w' => e = .returned (.int .i64 (n0 : Nat)) ∧ w' = w1.drewN k := fun k => (count_any r 512 _ _ _ (Rc.now (Rc.after R1.out (below_drewN (Below.refl _ _) k)))).mono (fun _ _ h => ⟨by rw [hn0]; exact h.1, h.2.symm⟩)
    rw [← hn1] at HN1
    rw [← hn0] at HN0
    have m1 : ∀ k, (w1.drewN k).cell? ⟨r, 1280, none⟩ = some (.int .i64 mo) := fun k => Rc.most (Rc.after R1.out (below_drewN (Below.refl _ _) k))
    have HNR : Hid (noRoom th mo P cs ls ↔ (mo < (n1 : Int) ∧ n0 < n1)) := Lib.hid (by
      unfold noRoom behP
      rw [HN.out, ← HN1.out, ← HN0.out])
    clear KC hs b1 hr hG hn1 hn0 HN1 HN0
    go_upto_region 4 with fail
    obtain ⟨nr, hnr⟩ : ∃ nr, nr = decide (mo < (n1 : Int) ∧ n0 < n1) := ⟨_, rfl⟩
    have HNB := Lib.hid hnr
    clear hnr
    go_cut [33] (fun s33 wx => ∃ nq : Nat, s33 = .bool nr ∧ Hid (wx = w1.drewN nq))
    case first =>
      by_cases h1 : mo < (n1 : Int)
      · have d1 : decide (mo < (n1 : Int)) = true := decide_eq_true h1
        by_cases h2 : n0 < n1
        · have d2 : decide ((n0 : Int) < (n1 : Int)) = true := decide_eq_true (by omega)
          have HB : Hid (nr = true) := Lib.hid (by rw [HNB.out]; exact decide_eq_true ⟨h1, h2⟩)
          go_wp2_with fail
          go_quiet (first | (go_at_call 36; with_reducible exact Calls.quiet_of_same (q1 _)) | (go_at_call 36; with_reducible exact Calls.quiet_of_same (q0 _)))
          go_wp2_with fail
          go_meet
          exact ⟨nq, by rw [HB.out], Lib.hid rfl⟩
        · have d2 : decide ((n0 : Int) < (n1 : Int)) = false := decide_eq_false (by omega)
          have HB : Hid (nr = false) := Lib.hid (by rw [HNB.out]; exact decide_eq_false (fun h => h2 h.2))
          go_wp2_with fail
          go_quiet (first | (go_at_call 36; with_reducible exact Calls.quiet_of_same (q1 _)) | (go_at_call 36; with_reducible exact Calls.quiet_of_same (q0 _)))
          go_wp2_with fail
          go_meet
          exact ⟨nq, by rw [HB.out], Lib.hid rfl⟩
      · have d1 : decide (mo < (n1 : Int)) = false := decide_eq_false h1
        have HB : Hid (nr = false) := Lib.hid (by rw [HNB.out]; exact decide_eq_false (fun h => h1 h.1))
        go_wp2_with fail
        go_quiet (first | (go_at_call 36; with_reducible exact Calls.quiet_of_same (q1 _)) | (go_at_call 36; with_reducible exact Calls.quiet_of_same (q0 _)))
        go_wp2_with fail
        go_meet
        exact ⟨nq, by rw [HB.out], Lib.hid rfl⟩
    case rest =>
      clear q1 q0 m1
      obtain ⟨nq, rfl, hw⟩ := hcut
      have R5 := Lib.hid (show Rc wc r bs th (overB bs P) (overT th P) (chgL P) mo by rw [hw.out]; exact Rc.after R1.out (below_drewN (Below.refl _ _) nq))
      have S5 := Lib.hid (show RSt wc G 30 [] (overB bs (putTo P cs ls N)) (overT th (putTo P cs ls N)) by rw [hw.out]; exact S1.out.after (below_drewN (Below.refl _ _) nq))
      have B5 := Lib.hid (show Below w.heap.size w wc by rw [hw.out]; exact B1.out.trans (below_drewN (Below.refl _ _) nq))
      clear hw R1 S1 B1
      cases nr with
      | true =>
        have hnr : noRoom th mo P cs ls := HNR.out.2 (of_decide_eq_true HNB.out.symm)
        have HNO := Lib.hid hnr
        clear hnr
        go_wp2_with fail
        go_ret
        exact .inr (.inl ⟨HRT.out, HNO.out, rfl, B5.out⟩)
      | false =>
        have HNO : Hid (¬ noRoom th mo P cs ls) := Lib.hid (fun h => absurd (HNR.out.1 h) (of_decide_eq_false HNB.out.symm))
        have R6 := Lib.hid (show Blk wc r 91 (stCells bs th ++ (stCells (overB bs P) (overT th P) ++ ((chgL P).map Value.bool ++ [Value.int .i64 mo]))) from R5.out.1)
        have S6 := Lib.hid (show Blk wc G 30 (stCells (overB bs (putTo P cs ls N)) (overT th (putTo P cs ls N))) by have h1 := S5.out.1; rw [List.append_nil] at h1; exact h1)
        have L0 := Lib.hid (stCells_length R5.out.2.1.1 R5.out.2.1.2)
        have L1 := Lib.hid (stCells_length (overB_len bs (putTo P cs ls N)) (overT_len th (putTo P cs ls N)))
        have L1' := Lib.hid (stCells_length (overB_len bs P) (overT_len th P))
        have L2 := Lib.hid (show ((stCells (overB bs (putTo P cs ls N)) (overT th (putTo P cs ls N))).drop 0).take 512 = stCells (overB bs (putTo P cs ls N)) (overT th (putTo P cs ls N)) by rw [List.drop_zero, List.take_of_length_le (Nat.le_of_eq L1.out)])
        have L3 := Lib.hid (seg_now (D := (chgL P).map Value.bool ++ [Value.int .i64 mo]) L0.out L1'.out L1.out)
        have L4 : Hid (512 + 512 ≤ (stCells bs th ++ (stCells (overB bs P) (overT th P) ++ ((chgL P).map Value.bool ++ [Value.int .i64 mo]))).length) := Lib.hid (by rw [List.length_append, List.length_append, L0.out, L1'.out]; omega)
        have L5 := Lib.hid (stCells_one (bs := overB bs (putTo P cs ls N)) (th := overT th (putTo P cs ls N)))
        obtain ⟨bs2, hb2⟩ : ∃ bs2, bs2 = overB bs (putTo P cs ls N) := ⟨_, rfl⟩
        obtain ⟨th2, ht2⟩ : ∃ th2, th2 = overT th (putTo P cs ls N) := ⟨_, rfl⟩
        have HB2 := Lib.hid (And.intro hb2 ht2)
        rw [← hb2, ← ht2] at S6 L1 L2 L3 L5
        have LB : Hid (bs2.length = 256 ∧ th2.length = 256) := Lib.hid ⟨by rw [hb2]; exact overB_len _ _, by rw [ht2]; exact overT_len _ _⟩
        have LO := Lib.hid R5.out.2.1
        clear hb2 ht2 S5 R5 L1' HNR HNB
        go_upto_region 7 with (first
          | (with_reducible refine wpl_seg_load aggSt sizeSt (.tmp 36) rfl rfl S6.out 0 (stCells bs2 th2) L2.out L1.out rfl ?_)
          | ((with_reducible refine wpl_seg_store sizeSt (.tmp 39) (.tmp 37) rfl rfl R6.out 512 (stCells bs2 th2) L1.out L4.out L5.out rfl rfl _ L3.out ?_); intro w6 X6 g6 e6; have HX6 := Lib.hid X6; have T6 := Lib.hid (only_trans (only_of_below B5.out (some r)) g6); clear X6 g6 e6))
        try simp only [Act.put]
        have R7 := Lib.hid (show Rc w6 r bs th bs2 th2 (chgL (putTo P cs ls 0)) mo from ⟨HX6.out, LO.out, LB.out, chgL_len _⟩)
        clear HX6 R6 S6 L0 L1 L2 L3 L4 L5 B5 LO LB
        go_wp2_with fail
        go_loopw [7] (fun i wr => ∃ k : Nat, k ≤ N ∧ i = .int .i64 k ∧ Hid (Rc wr r bs th bs2 th2 (chgL (putTo P cs ls k)) mo) ∧ Hid (w.grownBy wr (some r))) (fun i _ => N - (intOf i).toNat)
        case atStart => exact ⟨0, Nat.zero_le _, rfl, R7, T6⟩
        case round =>
          clear R7 T6
          rename_i wr
          obtain ⟨k, hk, rfl, hR, hT⟩ := hrel
          by_cases hlt : k < N
          · have d0 : decide ((k : Int) < (N : Int)) = true := by simp; omega
            obtain ⟨x, hx⟩ : ∃ x, cs[k]? = some x := ⟨_, List.getElem?_eq_getElem (by rw [HN.out]; exact hlt)⟩
            have hkeep : ∀ p : Addr, p.block < B → wr.cell? p = w.cell? p := fun p hp => World.cell?_of_block (hT.out.block p.block (by have := HBR.out; omega) (by simp only [ne_eq, Option.some.injEq]; have := HBR.out; omega))
            obtain ⟨a, rfl, hab, hck⟩ := (HC.out.keep hkeep).rows.elem hx
            have hkey := (rightC_keys HRT.out hx).1
            obtain ⟨xk, xg, xA, xn, xc⟩ := x
            obtain ⟨j, hj⟩ : ∃ j : Nat, xk = (j : Int) := ⟨xk.toNat, by simp only at hkey; omega⟩
            subst hj
            have hj : j < 256 := by simp only at hkey; omega
            have HNX : Hid (chgL (putTo P cs ls (k + 1)) = (chgL (putTo P cs ls k)).set j true) := Lib.hid (by
              show chgL (putP _ (cs.getD k _).k (cs.getD k _).g (ls.getD k [])) = _
              rw [List.getD_eq_getElem?_getD, hx]
              exact chgL_put _ hj _ _)
            have x0 : wr.cell? (a.add (k * 3)) = some (.int .i64 (j : Int)) := by
              have h1 := hck 0 _ rfl
              rw [Addr.add_add, Nat.add_zero] at h1
              exact h1
            have d4 : (j : Int) < 256 := by omega
            have d5 : ¬ 256 ≤ j := by omega
            have d6 : ¬ (256 : Int) ≤ (j : Int) := by omega
            have RD := Lib.hid (show Rc wr.drew r bs th bs2 th2 (chgL (putTo P cs ls k)) mo from hR.out)
            have TD := Lib.hid (show w.grownBy wr.drew (some r) from ⟨hT.out.os, hT.out.tape, hT.out.output, hT.out.size, hT.out.block⟩)
            clear hck hx hkey hkeep hR hT
            go_wp2_with fail
            go_still_tail 9, (by kernel_rfl)
            change wpList _ _ _ _ _ wr.drew
            obtain ⟨W8, hW8⟩ : ∃ W8, W8 = wr.drew := ⟨_, rfl⟩
            rw [← hW8] at RD TD ⊢
            clear hW8 x0
            have c1 := RD.out.flag hj
            have f1 := RD.out.1.free (1024 + j)
            have R8 := Lib.hid (RD.out.setFlag hj true)
            have T8 := Lib.hid (only_trans TD.out (only_set W8 ⟨r, 1024 + j, none⟩ (.bool true)))
            go_wp2_with fail
            exact ⟨⟨k + 1, by omega, by go_num, Lib.hid (by rw [HNX.out]; exact R8.out), T8⟩, by simp [intOf]; omega⟩
          · obtain rfl : k = N := by omega
            have d0 : decide ((k : Int) < (k : Int)) = false := by simp
            go_wp2_with fail
            go_ret
            exact .inr (.inr ⟨HRT.out, HNO.out, rfl, hT.out, by
              show Rc _ _ _ _ _ _ _ _
              rw [← HB2.out.1, ← HB2.out.2]
              exact hR.out⟩)
end Go.Proofs.Ytppodbijdhcclaa

