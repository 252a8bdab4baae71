/- The walk of CacheKept: it answers true, and changes nothing that was there. No condition but that the arguments are there. -/
import Derived.Test.YtppodbijdhcclaaQCacheKeptM
import Derived.Test.YtppodbijdhcclaaQCacheOnce
import Derived.Test.YtppodbijdhcclaaQChssOpen
import Derived.RegionTactic
import Derived.Deep.DeepCutAuto
import Derived.Deep.QuietTactic
import Derived.BigQuiet
import Derived.WalkSmall
namespace Go.Proofs.Ytppodbijdhcclaa
open Go Go.RowKit Go.Maps
/-- Put, whatever it answers: the cache behind it -/
def PutWay (w : World) (i : CI) (N : Nat) (S : Nat → Prop) (e : Ending) (w' : World) : Prop := ∃ r P' S', e = .returned (.int .i64 r) ∧ CAt w' i N P' S' ∧ PGood P' ∧ (∀ b, b < w.heap.size → ¬ S b → ¬ S' b) ∧ w.grownBy w' (some i.m)
theorem put_way (i : CI) (N : Nat) (P : Int → Option CE) (S : Nat → Prop) (v : Value) (cs : List CV) (ls : List (List UInt8)) (w : World) (h : CAt w i N P S) (hP : PGood P) (hc : Chs w w.heap.size v cs) (hl : BodL w w.heap.size cs ls) (hz : cs.length ≤ 40) (hN : N ≤ 1000000) :
    Calls Try.prog 19 #[.pointer (some ⟨i.q, 0, none⟩), v] w fun e w' => PutWay w i (N + 40) S e w' := by
  refine (put_cat i N P S v cs ls w h hc hl (by omega) hN).mono ?_
  rintro e w' (⟨_, rfl, b⟩ | ⟨_, _, rfl, b⟩ | ⟨hr, _, rfl, g, ca⟩)
  · exact ⟨1, P, S, rfl, (h.after b).more (by omega), hP, fun b _ hs => hs, only_of_below b _⟩
  · exact ⟨40, P, S, rfl, (h.after b).more (by omega), hP, fun b _ hs => hs, only_of_below b _⟩
  · refine ⟨0, _, _, rfl, ca.more (by omega), hP.putTo cs ls (fun j x hx => ?_) cs.length (Nat.le_refl _), fun b hb hs h => ?_, g⟩
    · have h1 := rightC_keys hr hx
      obtain ⟨A, c, e, _⟩ := hl.2 j x hx
      simp only [Value.slice.injEq] at e
      exact ⟨h1.1, by rw [← e.2.1]; exact h1.2⟩
    · rcases h with h | h
      · exact hs h
      · omega
def rowTo (f : Nat → Value) (z : Value) (k : Nat) : List Value := (List.range 256).map (fun j => if j < k then f j else z)
theorem rowTo_len (f : Nat → Value) (z : Value) (k : Nat) : (rowTo f z k).length = 256 := by simp [rowTo]
theorem rowTo_get (f : Nat → Value) (z : Value) (k : Nat) {j : Nat} (hj : j < 256) : (rowTo f z k)[j]? = some (if j < k then f j else z) := by
  unfold rowTo
  rw [List.getElem?_map, List.getElem?_range hj]
  rfl
theorem rowTo_set (f : Nat → Value) (z : Value) (k : Nat) : (rowTo f z k).set k (f k) = rowTo f z (k + 1) := by
  refine List.ext_getElem? (fun j => ?_)
  by_cases hj : j < 256
  · rw [rowTo_get _ _ _ hj, List.getElem?_set, rowTo_get _ _ _ hj]
    by_cases e : k = j
    · subst e
      rw [if_pos rfl, if_pos (by rw [rowTo_len]; exact hj), if_pos (by omega)]
    · rw [if_neg e]
      by_cases h : j < k
      · rw [if_pos h, if_pos (by omega)]
      · rw [if_neg h, if_neg (by omega)]
  · rw [List.getElem?_eq_none (by rw [List.length_set, rowTo_len]; omega), List.getElem?_eq_none (by rw [rowTo_len]; omega)]
def sB (o : Option (List UInt8)) : ByteArray := match o with | some l => ⟨l.toArray⟩ | none => ByteArray.empty
def sC (o : Option (List UInt8)) : Int := match o with | some _ => 0 | none => 61
theorem rowTo_zero (f : Nat → Value) (z : Value) : rowTo f z 0 = List.replicate 256 z := by
  unfold rowTo
  rw [List.map_congr_left (g := fun _ => z) (fun j _ => by simp)]
  rw [List.map_const', List.length_range]
def strZ : List Value := List.replicate 256 (.string ByteArray.empty)
def intZ : List Value := List.replicate 256 (.int .i64 0)
theorem zeroStrs (w : World) : (zeroValue 27).run Try.prog w = .ok (.agg strZ.toArray) w := by kernel_rfl
theorem zeroCodes (w : World) : (zeroValue 49).run Try.prog w = .ok (.agg intZ.toArray) w := by kernel_rfl
theorem sizeStrs : ∀ w, (sizeOf 27).run Try.prog w = .ok 256 w := fun _ => by kernel_rfl
theorem sizeCodes : ∀ w, (sizeOf 49).run Try.prog w = .ok 256 w := fun _ => by kernel_rfl
theorem strZ_len : strZ.length = 256 := List.length_replicate
theorem intZ_len : intZ.length = 256 := List.length_replicate
theorem seg_same {l : List Value} : segSet l 0 l = l := by
  unfold segSet
  rw [List.take_zero, List.nil_append, Nat.zero_add, List.drop_length, List.append_nil]
theorem rep_one {z : Value} (h : z.oneCell' = true) {n : Nat} : ∀ u ∈ List.replicate n z, u.oneCell' = true := fun u hu => by rw [(List.mem_replicate.1 hu).2]; exact h
theorem seg_st {bs bs' : List ByteArray} {th th' : List Bool} {r : List Value} (h1 : (stCells bs th).length = 512) (h2 : (stCells bs' th').length = 512) : segSet (stCells bs th ++ r) 0 (stCells bs' th') = stCells bs' th' ++ r := by
  unfold segSet
  rw [List.take_zero, List.nil_append, Nat.zero_add, h2, List.drop_left' h1]
set_option maxRecDepth 100000 in
set_option maxHeartbeats 32000000 in
theorem cacheKept_walk (v : Value) (cs : List CV) (ls : List (List UInt8)) (u : Value) (xs : List (List CV × List (List UInt8))) (w : World) (hv : ChL w w.heap.size v cs ls) (hu : Chss w w.heap.size u xs) :
    Calls Try.prog 4 #[v, u] w fun e w' => e = .returned (.bool true) ∧ Below w.heap.size w w' := by
  obtain ⟨A, c, rfl, hc, hm⟩ := chL_wid hv
  obtain ⟨B, d, vs, rfl, hvm, hvl, hrow, hel⟩ := hu
  have HV := Lib.hid hv
  have HROW := Lib.hid hrow
  have HEL := Lib.hid hel
  have KS := Lib.hid (cspeaks_any w)
  obtain ⟨N, hN⟩ : ∃ N, cs.length = N := ⟨_, rfl⟩
  have HN := Lib.hid hN
  rw [hN] at hc HV ⊢
  obtain ⟨M, hM⟩ : ∃ M, vs.length = M := ⟨_, rfl⟩
  have HM := Lib.hid hM
  rw [hM] at hvm hvl ⊢
  unfold maxLen at hvm
  clear hv hN hM hrow hel hvl
  go_enter Try.func4, Try.ntmps4
  go_upto_region 3 with ((with_reducible refine KS.out.mono ?_); rintro e w1 ⟨rfl, b1⟩; have T1 := Lib.hid b1; clear KS b1)
  have V1 := Lib.hid ((HV.out.below T1.out).more T1.out.size)
  have KG := Lib.hid (great19_any _ cs w1 V1.out.rows)
  go_wp2_with fail
  refine KG.out.mono ?_
  rintro e w2 ⟨g, rfl, hg, b2⟩
  have T2 := Lib.hid (T1.out.trans (b2.mono T1.out.size))
  have HG := Lib.hid hg
  clear KG b2 V1 hg T1
  cases g with
  | true =>
    go_wp2_with fail
    go_ret
    exact ⟨rfl, T2.out⟩
  | false =>
    have hsz := HG.out rfl
    have HSZ := Lib.hid hsz
    have hN40 : N ≤ 40 := by rw [← HN.out]; exact hsz.1
    clear hsz HG
    by_cases hM40 : M ≤ 40
    · have d1 : decide ((40 : Int) < (M : Int)) = false := by simp; omega
      have zn := zeroNod
      have hl := nod_len 0
      have hs := nod_set 0 60
      have S2 := Lib.hid (nod_src w2 60)
      have H2 := Lib.hid ((Below.refl w2.heap.size w2).alloc (Nat.le_refl _) (.cells (nodCells 60).toArray 32))
      go_upto_region 6 with fail
      have T3 := Lib.hid (T2.out.trans (H2.out.mono T2.out.size))
      obtain ⟨s, hs2⟩ : ∃ s, s = w2.heap.size := ⟨_, rfl⟩
      have HSW : Hid (w.heap.size ≤ s) := Lib.hid (by rw [hs2]; exact T2.out.size)
      rw [← hs2] at S2 ⊢
      obtain ⟨W3, hW3⟩ : ∃ W3, W3 = w2.alloc (.cells (nodCells 60).toArray 32) := ⟨_, rfl⟩
      rw [← hW3] at S2 T3 ⊢
      clear hW3 hs2 H2 T2 zn hl hs d1
      have z1 := zeroSt
      have l1 := stZ_len
      have X3 := Lib.hid (Blk.new W3 30 stZ)
      have H3 := Lib.hid ((Below.refl W3.heap.size W3).alloc (Nat.le_refl _) (.cells stZ.toArray 30))
      have ST1 := Lib.hid (show ∀ u ∈ stZ, u.oneCell' = true from stCells_one)
      have SG1 := Lib.hid (seg_same (l := stZ))
      go_upto_region 7 with ((with_reducible refine wpl_seg_store sizeSt (.tmp 6) (.tmp 34) rfl rfl X3.out 0 stZ l1 (Nat.le_of_eq l1.symm) ST1.out rfl rfl _ SG1.out ?_); intro w4 X4 g4 e4; have HX4 := Lib.hid X4; have G4 := Lib.hid g4; clear X4 g4 e4)
      have RS4 := Lib.hid (show RSt w4 W3.heap.size 30 [] (List.replicate 256 ByteArray.empty) (List.replicate 256 false) from ⟨by rw [List.append_nil]; exact HX4.out, List.length_replicate, List.length_replicate⟩)
      have T4 := Lib.hid ((T3.out.trans (H3.out.mono T3.out.size)).grown G4.out (Nat.le_trans T3.out.size H3.out.size) (fun b e => by cases e; exact T3.out.size))
      have S4 := Lib.hid ((S2.out.after H3.out).grown G4.out (by simp only [ne_eq, Option.some.injEq]; have := S2.out.lt; omega))
      have V4 := Lib.hid ((HV.out.below T4.out).more T4.out.size)
      have KCM := Lib.hid (commit_old W3.heap.size (.slice A N c) cs ls w4 RS4.out V4.out (by rw [HN.out]; omega))
      clear z1 X3 H3 ST1 SG1 HX4 G4 S2 T3 V4 RS4
      go_wp2_with fail
      refine KCM.out.mono ?_
      rintro e w5 ⟨gp, r, bs5, th5, rfl, hr5, hsm5, b5⟩
      have S5 := Lib.hid (S4.out.after b5)
      have T5 := Lib.hid (T4.out.trans (b5.mono T4.out.size))
      have R5 := Lib.hid (show Blk w5 gp 30 (stCells bs5 th5) by have h1 := hr5.1; rw [List.append_nil] at h1; exact h1)
      have BL := Lib.hid hr5.2
      have SM5 := Lib.hid hsm5
      clear KCM b5 hr5 hsm5 S4 T4
      go_upto_if 41 with fail
      go_cut [] (fun wx => ∃ (bs0 : List ByteArray) (th0 : List Bool), Hid (Src wx s bs0 th0 60) ∧ Hid (∀ k, (bs0.getD k ByteArray.empty).size ≤ 100000) ∧ Hid (Below w.heap.size w wx))
      case first =>
        by_cases hr : r = 0
        · subst hr
          have L1 := Lib.hid (stCells_length BL.out.1 BL.out.2)
          have L2 := Lib.hid (show ((stCells bs5 th5).drop 0).take 512 = stCells bs5 th5 by rw [List.drop_zero, List.take_of_length_le (Nat.le_of_eq L1.out)])
          have SB5 := Lib.hid (show Blk w5 s 32 (stCells em fa ++ [.int .i64 60]) from (Src.st.1 S5.out).1)
          have L3 := Lib.hid (seg_st (bs := em) (th := fa) (bs' := bs5) (th' := th5) (r := [Value.int .i64 60]) (stCells_length em_len fa_len) L1.out)
          have L4 : Hid (0 + 512 ≤ (stCells em fa ++ [Value.int .i64 60]).length) := Lib.hid (by rw [List.length_append, stCells_length em_len fa_len]; exact Nat.le_succ _)
          have L5 := Lib.hid (stCells_one (bs := bs5) (th := th5))
          go_wp2_with (first
            | (with_reducible refine wpl_seg_load aggSt sizeSt (.tmp 44) rfl rfl R5.out 0 (stCells bs5 th5) L2.out L1.out rfl ?_)
            | ((with_reducible refine wpl_seg_store sizeSt (.tmp 47) (.tmp 45) rfl rfl SB5.out 0 (stCells bs5 th5) L1.out L4.out L5.out rfl rfl _ L3.out ?_); intro w6 X6 g6 e6; have HX6 := Lib.hid X6; have T6 := Lib.hid (T5.out.grown g6 T5.out.size (fun b e => by cases e; exact HSW.out)); clear X6 g6 e6))
          go_meet
          exact ⟨bs5, th5, Lib.hid (Src.st.2 ⟨HX6.out, BL.out⟩), SM5, T6⟩
        · have d1 : (r == 0) = false := by simpa using hr
          go_wp2_with fail
          go_meet
          exact ⟨em, fa, S5, Lib.hid em_small, T5⟩
      case rest =>
        clear S5 T5 R5 BL SM5
        obtain ⟨bs0, th0, S6, SM6, T6⟩ := hcut
        obtain ⟨w6, hw6⟩ : ∃ w6, w6 = wc := ⟨_, rfl⟩
        rw [← hw6] at S6 T6 ⊢
        clear hw6
        have KN := Lib.hid (new_cat s bs0 th0 60 w6 S6.out)
        go_upto_region 11 with ((with_reducible refine KN.out.mono ?_); rintro e w7 ⟨q, m, rfl, hq, hm7, c7, b7⟩; have C7 := Lib.hid c7; have T7 := Lib.hid (T6.out.trans (b7.mono T6.out.size)); have QM := Lib.hid (And.intro (Nat.le_trans T6.out.size hq) (Nat.le_trans T6.out.size hm7)); clear KN c7 b7 hq hm7 S6 T6)
        go_upto_region 14 with fail
        go_loopw [55] (fun i wr => ∃ (k : Nat) (P : Int → Option CE) (S : Nat → Prop), k ≤ M ∧ i = .int .i64 k ∧ Hid (CAt wr ⟨q, m, s, bs0, th0, 60⟩ (40 * k) P S) ∧ Hid (PGood P ∧ ¬ S s) ∧ Hid (Below w.heap.size w wr)) (fun i _ => M - (intOf i).toNat)
        case atStart => exact ⟨0, _, _, Nat.zero_le _, rfl, C7, Lib.hid ⟨PGood.none, fun h => h⟩, T7⟩
        case round =>
          clear C7 T7
          rename_i wr
          obtain ⟨k, P, S, hk, rfl, hC, hP, hT⟩ := hrel
          by_cases hlt : k < M
          · obtain ⟨a, rfl, hab, hcell⟩ := (HROW.out.below hT.out).at_ (k := k) (by rw [HM.out]; exact hlt)
            obtain ⟨x, hx, hxl⟩ := HEL.out k _ (List.getElem?_eq_getElem (by rw [HM.out]; exact hlt))
            obtain ⟨cs1, ls1⟩ := x
            simp only at hxl
            obtain ⟨A1, c1, hv1, hc1, hm1⟩ := chL_wid hxl
            rw [hv1] at hcell hxl
            obtain ⟨n1, hn1⟩ : ∃ n1, cs1.length = n1 := ⟨_, rfl⟩
            have HN1 := Lib.hid hn1
            rw [hn1] at hcell hxl hc1
            have HXL := Lib.hid ((hxl.below hT.out).more hT.out.size)
            have KG := Lib.hid (great19_any _ cs1 wr HXL.out.rows)
            have HX0 := Lib.hid hxl
            clear hx hv1 hn1 hxl
            go_upto_region 16 with fail
            clear hcell
            go_wp2_with fail
            refine KG.out.mono ?_
            rintro e w8 ⟨g, rfl, hg, b8⟩
            have HG := Lib.hid hg
            have C8 := Lib.hid (hC.out.after b8)
            have T8 := Lib.hid (hT.out.trans (b8.mono hT.out.size))
            clear KG b8 hg hC hT HXL
            cases g with
            | true =>
              go_wp2_with fail
              go_ret
              exact ⟨rfl, T8.out⟩
            | false =>
              have hsz := HG.out rfl
              have KC := Lib.hid (copied_any (.slice A1 n1 c1) cs1 ls1 w8 ((HX0.out.below T8.out).more T8.out.size) (by have := hsz.1; omega) (fun x hx => Nat.le_trans (hsz.2 x hx) (by omega)))
              have HL40 := Lib.hid hsz.1
              clear hsz HG
              have KPW : Hid (∀ v9 cs9 w9, ChOwn w9 w8.heap.size v9 cs9 ls1 → cs9.map kg = cs1.map kg → Below w8.heap.size w8 w9 → Calls Try.prog 19 #[.pointer (some ⟨q, 0, none⟩), v9] w9 fun e w' => PutWay w9 ⟨q, m, s, bs0, th0, 60⟩ (40 * k + 40) S e w') := Lib.hid (fun v9 cs9 w9 o9 k9 b9 => put_way ⟨q, m, s, bs0, th0, 60⟩ (40 * k) P S v9 cs9 ls1 w9 (C8.out.after b9) hP.out.1 o9.rows ⟨o9.len, fun i x hx => (o9.bods i x hx).bytes (fun b hb => hb.2.1)⟩ (by rw [← List.length_map (f := kg), k9, List.length_map]; exact HL40.out) (by omega))
              go_wp2_with (first
                | ((with_reducible refine KC.out.mono ?_); rintro e w9 ⟨v9, cs9, rfl, o9, k9, b9⟩; have KP9 := Lib.hid (KPW.out v9 cs9 w9 o9 k9 b9); have T9 := Lib.hid (T8.out.trans (b9.mono T8.out.size)); have HS9 : Hid (s < w9.heap.size) := Lib.hid (Nat.lt_of_lt_of_le C8.out.lt.2.2.1 b9.size); clear KC KPW o9 k9 b9)
                | ((with_reducible refine KP9.out.mono ?_); rintro e w10 ⟨r, P', S', rfl, c10, hp10, hs10, g10⟩; have C10 := Lib.hid c10; have HP10 := Lib.hid (And.intro hp10 (hs10 s HS9.out hP.out.2)); have T10 := Lib.hid (T9.out.grown g10 T9.out.size (fun b e => by cases e; exact QM.out.2)); clear KP9 c10 hp10 hs10 g10))
              exact ⟨⟨k + 1, P', S', by omega, by go_num, Lib.hid (C10.out.more (by omega)), HP10, T10⟩, by simp [intOf]; omega⟩
          · obtain rfl : k = M := by omega
            have z1 := zeroStrs
            have z2 := zeroCodes
            have l1 := strZ_len
            have l2 := intZ_len
            have X1 := Lib.hid (Blk.new wr 27 strZ)
            have B1 := Lib.hid ((Below.refl wr.heap.size wr).alloc (Nat.le_refl _) (.cells strZ.toArray 27))
            have O1 := Lib.hid (show ∀ u ∈ strZ, u.oneCell' = true from rep_one rfl)
            have O2 := Lib.hid (show ∀ u ∈ intZ, u.oneCell' = true from rep_one rfl)
            have SG1 := Lib.hid (seg_same (l := strZ))
            have SG2 := Lib.hid (seg_same (l := intZ))
            have F1 := Lib.hid (hC.out.free (Nat.le_refl _))
            obtain ⟨f1, hf1⟩ : ∃ f1 : Nat → Value, f1 = fun j => .string (sB (CI.get ⟨q, m, s, bs0, th0, 60⟩ P (j : Int))) := ⟨_, rfl⟩
            obtain ⟨f2, hf2⟩ : ∃ f2 : Nat → Value, f2 = fun j => .int .i64 (sC (CI.get ⟨q, m, s, bs0, th0, 60⟩ P (j : Int))) := ⟨_, rfl⟩
            have HF1 : Hid (∀ j : Nat, f1 j = .string (sB (CI.get ⟨q, m, s, bs0, th0, 60⟩ P (j : Int)))) := Lib.hid (fun j => by rw [hf1])
            have HF2 : Hid (∀ j : Nat, f2 j = .int .i64 (sC (CI.get ⟨q, m, s, bs0, th0, 60⟩ P (j : Int)))) := Lib.hid (fun j => by rw [hf2])
            clear hf1 hf2
            go_upto_region 21 with ((with_reducible refine wpl_seg_store sizeStrs (.tmp 12) (.tmp 66) rfl rfl X1.out 0 strZ l1 (Nat.le_of_eq l1.symm) O1.out rfl rfl _ SG1.out ?_); intro w9 X9 g9 e9; have HX9 := Lib.hid X9; have C9 := Lib.hid ((hC.out.after B1.out).other g9 F1.out); have T9 := Lib.hid ((hT.out.trans (B1.out.mono hT.out.size)).grown g9 (Nat.le_trans hT.out.size B1.out.size) (fun b e => by cases e; exact hT.out.size)); have S9 : Hid (w9.heap.size = wr.heap.size + 1) := Lib.hid (by rw [e9, World.size_alloc]); clear X9 g9 e9 X1 B1 O1 SG1)
            try simp only [Act.put]
            obtain ⟨g12, hg12⟩ : ∃ g12, g12 = wr.heap.size := ⟨_, rfl⟩
            have L12 : Hid (g12 < w9.heap.size ∧ w.heap.size ≤ g12) := Lib.hid ⟨by rw [hg12, S9.out]; exact Nat.lt_succ_self _, by rw [hg12]; exact hT.out.size⟩
            rw [← hg12] at F1 HX9 ⊢
            clear hg12 S9 hC hT
            have X1 := Lib.hid (Blk.new w9 49 intZ)
            have B1 := Lib.hid ((Below.refl w9.heap.size w9).alloc (Nat.le_refl _) (.cells intZ.toArray 49))
            have F2 := Lib.hid (C9.out.free (Nat.le_refl _))
            go_upto_region 22 with ((with_reducible refine wpl_seg_store sizeCodes (.tmp 13) (.tmp 67) rfl rfl X1.out 0 intZ l2 (Nat.le_of_eq l2.symm) O2.out rfl rfl _ SG2.out ?_); intro w10 X10 g10 e10; have HX10 := Lib.hid X10; have C10 := Lib.hid ((C9.out.after B1.out).other g10 F2.out); have HX11 := Lib.hid ((HX9.out.after B1.out).grown g10 (by simp only [ne_eq, Option.some.injEq]; have := L12.out; omega)); have T10 := Lib.hid ((T9.out.trans (B1.out.mono T9.out.size)).grown g10 (Nat.le_trans T9.out.size B1.out.size) (fun b e => by cases e; exact T9.out.size)); have S10 : Hid (w10.heap.size = w9.heap.size + 1) := Lib.hid (by rw [e10, World.size_alloc]); clear X10 g10 e10 X1 B1 O2 SG2)
            try simp only [Act.put]
            obtain ⟨g13, hg13⟩ : ∃ g13, g13 = w9.heap.size := ⟨_, rfl⟩
            have L13 : Hid (g13 < w10.heap.size ∧ w.heap.size ≤ g13 ∧ g12 < g13) := Lib.hid ⟨by rw [hg13, S10.out]; exact Nat.lt_succ_self _, by rw [hg13]; exact T9.out.size, by rw [hg13]; exact L12.out.1⟩
            rw [← hg13] at F2 HX10 ⊢
            clear hg13 S10 C9 T9 HX9
            have R12 := Lib.hid (show Blk w10 g12 27 (rowTo f1 (.string ByteArray.empty) 0) by rw [rowTo_zero]; exact HX11.out)
            have R13 := Lib.hid (show Blk w10 g13 49 (rowTo f2 (.int .i64 0) 0) by rw [rowTo_zero]; exact HX10.out)
            clear HX10 HX11 z1 z2 l1 l2
            obtain ⟨W0, hW0⟩ : ∃ W, W = w10 := ⟨_, rfl⟩
            subst hW0
            go_wp2_with fail
            go_loopw [68] (fun i wr => ∃ j : Nat, j ≤ 256 ∧ i = .int .i64 j ∧ Hid (CAt wr ⟨q, m, s, bs0, th0, 60⟩ (40 * k) P S) ∧ Hid (Blk wr g12 27 (rowTo f1 (.string ByteArray.empty) j)) ∧ Hid (Blk wr g13 49 (rowTo f2 (.int .i64 0) j)) ∧ Hid (Below w.heap.size w wr)) (fun i _ => 256 - (intOf i).toNat)
            case atStart => exact ⟨0, Nat.zero_le _, rfl, C10, R12, R13, T10⟩
            case round =>
              clear C10 R12 R13 T10
              obtain ⟨j, hj, rfl, hC, hA, hB, hT⟩ := hrel
              by_cases hj2 : j < 256
              · have d1 : decide ((j : Int) < 256) = true := by simp; omega
                have d4 : (j : Int) < 256 := by omega
                have d5 : ¬ 256 ≤ j := by omega
                have d6 : ¬ (256 : Int) ≤ (j : Int) := by omega
                have KGA := Lib.hid (get_cat ⟨q, m, s, bs0, th0, 60⟩ _ P S (j : Int) wr hC.out SM6.out hP.out.1.small (wfC ⟨by omega, by omega⟩))
                have e1 := HF1.out j
                have e2 := HF2.out j
                obtain ⟨o, ho⟩ : ∃ o, o = CI.get ⟨q, m, s, bs0, th0, 60⟩ P (j : Int) := ⟨_, rfl⟩
                rw [← ho] at KGA e1 e2
                clear ho
                have E1 := Lib.hid e1
                have E2 := Lib.hid e2
                clear e1 e2
                go_wp2_with fail
                refine KGA.out.mono ?_
                rintro e w13 ⟨b13, h13⟩
                have C13 := Lib.hid (hC.out.after b13)
                have A13 := Lib.hid (hA.out.after b13)
                have D13 := Lib.hid (hB.out.after b13)
                have T13 := Lib.hid (hT.out.trans (b13.mono hT.out.size))
                have c12 : w13.cell? ⟨g12, j, none⟩ = some (.string ByteArray.empty) := by rw [A13.out.cell, rowTo_get _ _ _ hj2, if_neg (by omega)]
                have f12 := A13.out.free j
                have T14 : Hid (∀ bb cc, Below w.heap.size w ((w13.setCell ⟨g12, j, none⟩ (.string bb)).setCell ⟨g13, j, none⟩ (.int .i64 cc))) := Lib.hid (fun bb cc => (T13.out.grown (only_set w13 ⟨g12, j, none⟩ (.string bb)) T13.out.size (fun b e => by cases e; exact L12.out.2)).grown (only_set _ ⟨g13, j, none⟩ (.int .i64 cc)) (by simpa using T13.out.size) (fun b e => by cases e; exact L13.out.2.1))
                have C14 : Hid (∀ bb cc, CAt ((w13.setCell ⟨g12, j, none⟩ (.string bb)).setCell ⟨g13, j, none⟩ (.int .i64 cc)) ⟨q, m, s, bs0, th0, 60⟩ (40 * k) P S) := Lib.hid (fun bb cc => (C13.out.other (only_set w13 ⟨g12, j, none⟩ (.string bb)) F1.out).other (only_set _ ⟨g13, j, none⟩ (.int .i64 cc)) F2.out)
                have A14 : Hid (∀ bb cc, f1 j = .string bb → Blk ((w13.setCell ⟨g12, j, none⟩ (.string bb)).setCell ⟨g13, j, none⟩ (.int .i64 cc)) g12 27 (rowTo f1 (.string ByteArray.empty) (j + 1))) := Lib.hid (fun bb cc h => by rw [← rowTo_set, h]; exact (A13.out.set j (.string bb)).other ⟨g13, j, none⟩ _ (by have := L13.out; simp only [ne_eq]; omega))
                have D14 : Hid (∀ bb cc, f2 j = .int .i64 cc → Blk ((w13.setCell ⟨g12, j, none⟩ (.string bb)).setCell ⟨g13, j, none⟩ (.int .i64 cc)) g13 49 (rowTo f2 (.int .i64 0) (j + 1))) := Lib.hid (fun bb cc h => by rw [← rowTo_set, h]; exact (D13.out.other ⟨g12, j, none⟩ (.string bb) (by have := L13.out; simp only [ne_eq]; omega)).set j (.int .i64 cc))
                have c13 : ∀ bb, (w13.setCell ⟨g12, j, none⟩ (.string bb)).cell? ⟨g13, j, none⟩ = some (.int .i64 0) := fun bb => by rw [(D13.out.other ⟨g12, j, none⟩ (.string bb) (by have := L13.out; simp only [ne_eq]; omega)).cell, rowTo_get _ _ _ hj2, if_neg (by omega)]
                have f13 : ∀ bb, (w13.setCell ⟨g12, j, none⟩ (.string bb)).frozen? ⟨g13, j, none⟩ = false := fun bb => (D13.out.other ⟨g12, j, none⟩ (.string bb) (by have := L13.out; simp only [ne_eq]; omega)).free j
                clear KGA b13 hA hB hT hC A13 D13 T13 C13
                cases o with
                | none =>
                  dsimp only at h13
                  subst h13
                  have hrun := run_str (w := w13) (B := 0) (st := 9) byteTys Try.underlying5 Try.underlying9 (v := .slice none 0 0) (l := []) ⟨none, 0, rfl, Nat.le_refl _, by simp [maxLen], Row.nil⟩
                  go_wp2_with fail
                  exact ⟨⟨j + 1, by omega, by go_num, Lib.hid (C14.out _ _), Lib.hid (A14.out _ _ E1.out), Lib.hid (D14.out _ _ E2.out), Lib.hid (T14.out _ _)⟩, by simp [intOf]; omega⟩
                | some l =>
                  dsimp only at h13
                  obtain ⟨A13, c3, rfl, o13⟩ := h13
                  have hlm : l.length ≤ maxLen := by
                    obtain ⟨_, _, e, h1, h2⟩ := o13.shape
                    cases e
                    omega
                  have hrun := run_str (w := w13) (st := 9) byteTys Try.underlying5 Try.underlying9 (o13.bytes hlm)
                  clear o13 hlm
                  go_wp2_with fail
                  exact ⟨⟨j + 1, by omega, by go_num, Lib.hid (C14.out _ _), Lib.hid (A14.out _ _ E1.out), Lib.hid (D14.out _ _ E2.out), Lib.hid (T14.out _ _)⟩, by simp [intOf]; omega⟩
              · obtain rfl : j = 256 := by omega
                go_upto_region 28 with fail
                have z0 := zeroLive
                have KL := Lib.hid (live_cat ⟨q, m, s, bs0, th0, 60⟩ _ P S wr hC.out)
                go_upto_region 29 with (first
                  | ((with_reducible refine KL.out.mono ?_); rintro e w14 ⟨ML, hml, rfl, hmz, b14⟩; have HML := Lib.hid hml; have HMZ := Lib.hid hmz; have C14 := Lib.hid (hC.out.after b14); have A14 := Lib.hid (hA.out.after b14); have D14 := Lib.hid (hB.out.after b14); have T14 := Lib.hid (hT.out.trans (b14.mono hT.out.size)); have N14 := Lib.hid (LArr.new w14 lzeros_length); have B14 := Lib.hid ((Below.refl w14.heap.size w14).alloc (Nat.le_refl _) (.cells (cl lzeros) 53)); have F3 := Lib.hid (C14.out.free (Nat.le_refl _)); clear KL hml hmz b14 hC hA hB hT)
                  | ((with_reducible refine wpl_lstore (.tmp 17) (.tmp 86) rfl rfl N14.out rfl HML.out rfl ?_); intro w15 N15' g15 e15; have N15 := Lib.hid N15'; have C15 := Lib.hid ((C14.out.after B14.out).other g15 F3.out); have A15 := Lib.hid ((A14.out.after B14.out).grown g15 (by simp only [ne_eq, Option.some.injEq]; have := A14.out.lt; omega)); have D15 := Lib.hid ((D14.out.after B14.out).grown g15 (by simp only [ne_eq, Option.some.injEq]; have := D14.out.lt; omega)); have T15 := Lib.hid ((T14.out.trans (B14.out.mono T14.out.size)).grown g15 (Nat.le_trans T14.out.size B14.out.size) (fun b e => by cases e; exact T14.out.size)); have L14 : Hid (g12 < w14.heap.size ∧ g13 < w14.heap.size) := Lib.hid ⟨A14.out.lt, D14.out.lt⟩; clear N15' g15 e15 N14 B14))
                try simp only [Act.put]
                obtain ⟨g17, hg17⟩ : ∃ g17, g17 = w14.heap.size := ⟨_, rfl⟩
                rw [← hg17] at F3 N15 L14 ⊢
                clear hg17 C14 A14 D14 T14
                clear z0
                have C15d := Lib.hid C15.out.drew
                have HPS := Lib.hid hP.out.1.small
                have A15d := Lib.hid A15.out.drew
                have D15d := Lib.hid D15.out.drew
                have N15d := Lib.hid N15.out.drew
                have T15d := Lib.hid (show Below w.heap.size w w15.drew from T15.out.drew)
                clear C15 A15 D15 N15 T15
                have KCM : Hid (∀ v16 cs16 w16, ChOwn w16 w15.drew.heap.size v16 cs16 ((chgTo th0 P 256).map chBody) → cs16.map kg = (chgTo th0 P 256).map chKg → Below w15.drew.heap.size w15.drew w16 → Calls Try.prog 14 #[.pointer (some ⟨s, 0, none⟩), .int .i64 1000, v16] w16 fun e w' => e = .returned (.tuple #[.pointer (some ⟨w16.heap.size, 0, none⟩), .int .i64 0]) ∧ RSt w' w16.heap.size 30 [] (overB bs0 (putTo (fun _ => none) cs16 ((chgTo th0 P 256).map chBody) cs16.length)) (overT th0 (putTo (fun _ => none) cs16 ((chgTo th0 P 256).map chBody) cs16.length)) ∧ Below w16.heap.size w16 w') := Lib.hid (fun v16 cs16 w16 o k b => commit_chg s _ _ _ bs0 th0 v16 cs16 P w16 (Src.st.1 (C15d.out.after b).src) o k hP.out.1)
                go_wp2_with fail
                go_region_with (first
                  | (go_at_call 24; (with_reducible refine (changes_cat ⟨q, m, s, bs0, th0, 60⟩ _ P S _ (by exact C15d.out) (by exact HPS.out)).mono ?_); rintro e w16 ⟨v16, cs16, rfl, o16, k16, b16⟩; have O16 := Lib.hid o16; have K16 := Lib.hid k16; have B16 := Lib.hid b16; clear o16 k16 b16)
                  | (go_at_call 14; (with_reducible refine (KCM.out v16 cs16 w16 (by exact O16.out) (by exact K16.out) (by exact B16.out)).mono ?_); rintro e w17 ⟨rfl, r17, b17⟩; have R17 := Lib.hid r17; have B17 := Lib.hid b17; clear r17 b17))
                all_goals
                  clear KCM
                  have BB : Hid (Below w15.drew.heap.size w15.drew w17) := Lib.hid (B16.out.trans (B17.out.mono B16.out.size))
                  have C17 := Lib.hid (C15d.out.after BB.out)
                  have A17 := Lib.hid (A15d.out.after BB.out)
                  have D17 := Lib.hid (D15d.out.after BB.out)
                  have N17 := Lib.hid (N15d.out.after BB.out)
                  have T17 := Lib.hid (T15d.out.trans (BB.out.mono T15d.out.size))
                  have HKG : Hid (∀ z, getB (overB bs0 (putTo (fun _ => none) cs16 ((chgTo th0 P 256).map chBody) cs16.length)) (overT th0 (putTo (fun _ => none) cs16 ((chgTo th0 P 256).map chBody) cs16.length)) (fun _ => none) z = getB bs0 th0 P z) := Lib.hid (fun z => kept_get hP.out.1 K16.out z)
                  have SM1 : Hid (∀ k, ((overB bs0 (putTo (fun _ => none) cs16 ((chgTo th0 P 256).map chBody) cs16.length)).getD k ByteArray.empty).size ≤ 100000) := Lib.hid (over_small SM6.out (PGood.none.putTo cs16 _ (fun i x hx => ⟨(rightC_keys (changes_right hP.out.1 O16.out K16.out) hx).1, by rw [← O16.out.n_eq hx]; exact (rightC_keys (changes_right hP.out.1 O16.out K16.out) hx).2⟩) cs16.length (Nat.le_refl _)))
                  obtain ⟨bs1, hbs⟩ : ∃ bs1, bs1 = overB bs0 (putTo (fun _ => none) cs16 ((chgTo th0 P 256).map chBody) cs16.length) := ⟨_, rfl⟩
                  obtain ⟨th1, hth⟩ : ∃ th1, th1 = overT th0 (putTo (fun _ => none) cs16 ((chgTo th0 P 256).map chBody) cs16.length) := ⟨_, rfl⟩
                  have BL1 : Hid (bs1.length = 256 ∧ th1.length = 256) := Lib.hid ⟨by rw [hbs]; exact overB_len _ _, by rw [hth]; exact overT_len _ _⟩
                  rw [← hbs, ← hth] at HKG R17
                  rw [← hbs] at SM1
                  have R18 := Lib.hid (show Blk w17 w16.heap.size 30 (stCells bs1 th1) by have h1 := R17.out.1; rw [List.append_nil] at h1; exact h1)
                  have L1 := Lib.hid (stCells_length BL1.out.1 BL1.out.2)
                  have L2 := Lib.hid (show ((stCells bs1 th1).drop 0).take 512 = stCells bs1 th1 by rw [List.drop_zero, List.take_of_length_le (Nat.le_of_eq L1.out)])
                  have SB5 := Lib.hid (show Blk w17 s 32 (stCells bs0 th0 ++ [.int .i64 60]) from (Src.st.1 C17.out.src).1)
                  have L0 := Lib.hid (stCells_length C17.out.src.2.1 C17.out.src.2.2)
                  have L3 := Lib.hid (seg_st (bs := bs0) (th := th0) (bs' := bs1) (th' := th1) (r := [Value.int .i64 60]) L0.out L1.out)
                  have L4 : Hid (0 + 512 ≤ (stCells bs0 th0 ++ [Value.int .i64 60]).length) := Lib.hid (by rw [List.length_append, L0.out]; exact Nat.le_succ _)
                  have L5 := Lib.hid (stCells_one (bs := bs1) (th := th1))
                  have HSW2 := Lib.hid hP.out.2
                  have SNE : Hid (g12 ≠ s ∧ g13 ≠ s ∧ g17 ≠ s ∧ g12 ≠ m ∧ g13 ≠ m ∧ g17 ≠ m) := Lib.hid ⟨fun e => F1.out.2.1 e.symm, fun e => F2.out.2.1 e.symm, fun e => F3.out.2.1 e.symm, fun e => F1.out.2.2.1 e.symm, fun e => F2.out.2.2.1 e.symm, fun e => F3.out.2.2.1 e.symm⟩
                  clear hbs hth O16 K16 B16 B17 BB C15d A15d D15d N15d T15d R17 HPS
                  go_simp
                  go_upto_region 33 with (first
                    | (with_reducible refine wpl_seg_load aggSt sizeSt (.tmp 100) rfl rfl R18.out 0 (stCells bs1 th1) L2.out L1.out rfl ?_)
                    | ((with_reducible refine wpl_seg_store sizeSt (.tmp 103) (.tmp 101) rfl rfl SB5.out 0 (stCells bs1 th1) L1.out L4.out L5.out rfl rfl _ L3.out ?_); intro w18 X18 g18 e18; have HX18 := Lib.hid X18; have T18 := Lib.hid (T17.out.grown g18 T17.out.size (fun b e => by cases e; exact HSW.out)); have A18 := Lib.hid (A17.out.grown g18 (by simp only [ne_eq, Option.some.injEq]; exact SNE.out.1)); have D18 := Lib.hid (D17.out.grown g18 (by simp only [ne_eq, Option.some.injEq]; exact SNE.out.2.1)); have N18 := Lib.hid (N17.out.grown g18 SNE.out.2.2.1); have C18 := Lib.hid (C17.out.setSrc g18 (Src.st.2 ⟨X18, BL1.out⟩) HSW2.out); clear X18 g18 e18))
                  try simp only [Act.put]
                  clear HX18 L0 L1 L2 L3 L4 L5 SB5 R18 T17 C17 A17 D17 N17
                  have KCL := Lib.hid (clear_cat ⟨q, m, s, bs1, th1, 60⟩ _ P S w18 C18.out)
                  go_upto_region 34 with ((with_reducible refine KCL.out.mono ?_); rintro e w19 ⟨rfl, g19, c19, e19⟩; have C19 := Lib.hid c19; have T19 := Lib.hid (T18.out.grown g19 T18.out.size (fun b e => by cases e; exact QM.out.2)); have A19 := Lib.hid (A18.out.grown g19 (by simp only [ne_eq, Option.some.injEq]; exact SNE.out.2.2.2.1)); have D19 := Lib.hid (D18.out.grown g19 (by simp only [ne_eq, Option.some.injEq]; exact SNE.out.2.2.2.2.1)); have N19 := Lib.hid (N18.out.grown g19 SNE.out.2.2.2.2.2); clear KCL c19 g19 e19 T18 A18 D18 N18 C18)
                  try simp only [Act.put]
                  go_wp2_with fail
                  go_loopw [106] (fun i wr => ∃ j : Nat, j ≤ 256 ∧ i = .int .i64 j ∧ Hid (CAt wr ⟨q, m, s, bs1, th1, 60⟩ 0 (fun _ => none) (fun _ => False)) ∧ Hid (Blk wr g12 27 (rowTo f1 (.string ByteArray.empty) 256)) ∧ Hid (Blk wr g13 49 (rowTo f2 (.int .i64 0) 256)) ∧ Hid (LArr wr g17 ML) ∧ Hid (Below w.heap.size w wr)) (fun i _ => 256 - (intOf i).toNat)
                  case atStart => exact ⟨0, Nat.zero_le _, rfl, C19, A19, D19, N19, T19⟩
                  case round =>
                    clear C19 A19 D19 N19 T19
                    obtain ⟨j, hj, rfl, hC, hA, hB, hN, hT⟩ := hrel
                    by_cases hj2 : j < 256
                    · have d1 : decide ((j : Int) < 256) = true := by simp; omega
                      have d4 : (j : Int) < 256 := by omega
                      have d5 : ¬ 256 ≤ j := by omega
                      have d6 : ¬ (256 : Int) ≤ (j : Int) := by omega
                      have KGA := Lib.hid (get_cat ⟨q, m, s, bs1, th1, 60⟩ _ _ _ (j : Int) wr hC.out SM1.out (fun z e h => by cases h) (wfC ⟨by omega, by omega⟩))
                      have hgg : CI.get ⟨q, m, s, bs1, th1, 60⟩ (fun _ => none) (j : Int) = CI.get ⟨q, m, s, bs0, th0, 60⟩ P (j : Int) := HKG.out (j : Int)
                      rw [hgg] at KGA
                      have e1 := HF1.out j
                      have e2 := HF2.out j
                      obtain ⟨o, ho⟩ : ∃ o, o = CI.get ⟨q, m, s, bs0, th0, 60⟩ P (j : Int) := ⟨_, rfl⟩
                      rw [← ho] at KGA e1 e2
                      have E1 := Lib.hid e1
                      have E2 := Lib.hid e2
                      clear ho hgg e1 e2
                      go_wp2_with fail
                      refine KGA.out.mono ?_
                      rintro e w20 ⟨b20, h20⟩
                      have C20 := Lib.hid (hC.out.after b20)
                      have A20 := Lib.hid (hA.out.after b20)
                      have D20 := Lib.hid (hB.out.after b20)
                      have N20 := Lib.hid (hN.out.after b20)
                      have T20 := Lib.hid (hT.out.trans (b20.mono hT.out.size))
                      have c12' : w20.cell? ⟨g12, j, none⟩ = some (f1 j) := by rw [A20.out.cell, rowTo_get _ _ _ hj2, if_pos (by omega)]
                      have c13' : w20.cell? ⟨g13, j, none⟩ = some (f2 j) := by rw [D20.out.cell, rowTo_get _ _ _ hj2, if_pos (by omega)]
                      rw [E1.out] at c12'
                      rw [E2.out] at c13'
                      clear KGA b20 hA hB hT hC hN E1 E2
                      cases o with
                      | none =>
                        dsimp only at h20
                        subst h20
                        have c12 : ∀ n, (w20.drewN n).cell? ⟨g12, j, none⟩ = some (.string ⟨([] : List UInt8).toArray⟩) := fun n => c12'
                        have c13 : ∀ n, (w20.drewN n).cell? ⟨g13, j, none⟩ = some (.int .i64 61) := fun n => c13'
                        have hrun : ∀ n, (convert 44 9 (.slice none 0 0)).run Try.prog (w20.drewN n) = .ok (.string ⟨([] : List UInt8).toArray⟩) (w20.drewN n) := fun n => run_str (B := 0) (st := 9) byteTys Try.underlying5 Try.underlying9 ⟨none, 0, rfl, Nat.le_refl _, by simp [maxLen], Row.nil⟩
                        clear c12' c13'
                        go_wp2_with fail
                        go_quiet (fail)
                        have BN := Lib.hid (below_drewN (Below.refl w20.heap.size w20) nq)
                        clear c12 c13 hrun
                        go_wp2_with fail
                        exact ⟨⟨j + 1, by omega, by go_num, Lib.hid (C20.out.after BN.out), Lib.hid (A20.out.after BN.out), Lib.hid (D20.out.after BN.out), Lib.hid (N20.out.after BN.out), Lib.hid (T20.out.trans (BN.out.mono T20.out.size))⟩, by simp [intOf]; omega⟩
                      | some l =>
                        dsimp only at h20
                        obtain ⟨A20', c3, rfl, o20⟩ := h20
                        have hlm : l.length ≤ maxLen := by
                          obtain ⟨_, _, e, h1, h2⟩ := o20.shape
                          cases e
                          omega
                        have c12 : ∀ n, (w20.drewN n).cell? ⟨g12, j, none⟩ = some (.string ⟨l.toArray⟩) := fun n => c12'
                        have c13 : ∀ n, (w20.drewN n).cell? ⟨g13, j, none⟩ = some (.int .i64 0) := fun n => c13'
                        have hby := o20.bytes hlm
                        have hrun : ∀ n, (convert 44 9 (.slice A20' l.length c3)).run Try.prog (w20.drewN n) = .ok (.string ⟨l.toArray⟩) (w20.drewN n) := fun n => run_str (st := 9) byteTys Try.underlying5 Try.underlying9 (hby.below (below_drewN (Below.refl _ _) n))
                        clear c12' c13' o20 hby hlm
                        go_wp2_with fail
                        go_quiet (fail)
                        have BN := Lib.hid (below_drewN (Below.refl w20.heap.size w20) nq)
                        clear c12 c13 hrun
                        go_wp2_with fail
                        exact ⟨⟨j + 1, by omega, by go_num, Lib.hid (C20.out.after BN.out), Lib.hid (A20.out.after BN.out), Lib.hid (D20.out.after BN.out), Lib.hid (N20.out.after BN.out), Lib.hid (T20.out.trans (BN.out.mono T20.out.size))⟩, by simp [intOf]; omega⟩
                    · obtain rfl : j = 256 := by omega
                      have d1 : decide ((256 : Int) < 256) = false := by simp
                      have HEQ : Hid (∀ w, (Op.equalIn 10000 53 (.agg (cl ML)) (.agg (cl ML))).run Try.prog w = .ok true w) := Lib.hid (fun w => by rw [equalIn_lcl HML.out HML.out w, decide_eq_true rfl])
                      have HLL : Hid (∀ z, liveP th1 (fun _ => none) z = liveP th0 P z) := Lib.hid (fun z => by
                        have h1 := get_live ⟨q, m, s, bs1, th1, 60⟩ (fun _ => none) z
                        have h2 := get_live ⟨q, m, s, bs0, th0, 60⟩ P z
                        have h3 := HKG.out z
                        unfold CI.get at h1 h2
                        simp only at h1 h2
                        rw [← h1, ← h2, h3])
                      have hN2 := Lib.hid hN.out.drew
                      have hC2 := Lib.hid hC.out.drew
                      have hT2 := Lib.hid (show Below w.heap.size w wr.drew from hT.out.drew)
                      have KL := Lib.hid (live_cat ⟨q, m, s, bs1, th1, 60⟩ _ _ _ wr.drew hC2.out)
                      clear hA hB hN hC hT
                      go_upto_region 41 with fail
                      go_wp2_with fail
                      have SS := hN2.out
                      refine wp_region_held_drew (S := (fun w2 => LArr w2 g17 ML)) (by kernel_rfl) SS (fun _ => ?_)
                      refine wpAnyH_take (i := 0) (v := .pointer (some ⟨q, 0, none⟩)) rfl (by kernel_rfl) (by kernel_rfl) (by kernel_rfl) (fun _ _ _ h => h) (Or.inl ⟨by kernel_rfl, fun w _ => by go_simp⟩) SS ?_
                      simp only [Act.put, List.getElem_toArray, List.getElem_cons_zero, List.setIfInBounds_toArray, List.set_cons_zero, List.set_cons_succ]
                      refine wpAnyH_take (i := 2) (v := .agg (cl ML)) rfl (by kernel_rfl) (by kernel_rfl) (by kernel_rfl) (fun _ _ _ h => h) (yields_lload (g := g17) (.tmp 17) (by kernel_rfl) (by kernel_rfl) (by kernel_rfl) (fun _ h => h)) SS ?_
                      simp only [Act.put, List.getElem_toArray, List.getElem_cons_zero, List.getElem_cons_succ, List.setIfInBounds_toArray, List.set_cons_zero, List.set_cons_succ]
                      refine wpAnyH_ready (rs := [1]) (by kernel_rfl) (by simp) (AllReadyH.cons rfl (fun K hK => ?_) AllReadyH.nil)
                      go_simp
                      ((with_reducible refine KL.out.mono ?_); rintro e w21 ⟨M21, hm21, rfl, hz21, b21⟩)
                      obtain rfl : M21 = ML := live_ext hm21 HML.out (fun z => by rw [hz21 z, HMZ.out z]; exact HLL.out z)
                      have SS2 := SS.after b21
                      have C21 := Lib.hid (hC2.out.after b21)
                      have T21 := Lib.hid (hT2.out.trans (b21.mono hT2.out.size))
                      refine hK _ _ SS2 (fun _ => ?_)
                      clear hK K b21 KL hz21 hm21
                      have heq := HEQ.out
                      refine wpAnyH_take (i := 3) (v := .bool true) rfl (by kernel_rfl) (by kernel_rfl) (by kernel_rfl) (fun _ _ _ h => h) (Or.inl ⟨by kernel_rfl, fun w _ => by go_simp⟩) SS2 ?_
                      simp only [Act.put, List.getElem_toArray, List.getElem_cons_zero, List.getElem_cons_succ, List.setIfInBounds_toArray, List.set_cons_zero, List.set_cons_succ]
                      refine wpAnyH_take (i := 4) (v := .bool true) rfl (by kernel_rfl) (by kernel_rfl) (by kernel_rfl) (fun _ _ _ h => h) (Or.inl ⟨by kernel_rfl, fun w _ => by go_simp⟩) SS2 ?_
                      simp only [Act.put, List.getElem_toArray, List.getElem_cons_zero, List.getElem_cons_succ, List.setIfInBounds_toArray, List.set_cons_zero, List.set_cons_succ]
                      refine wpAnyH_take (i := 5) (v := .pointer (some ⟨q, 0, none⟩)) rfl (by kernel_rfl) (by kernel_rfl) (by kernel_rfl) (fun _ _ _ h => h) (Or.inl ⟨by kernel_rfl, fun w _ => by go_simp⟩) SS2 ?_
                      simp only [Act.put, List.getElem_toArray, List.getElem_cons_zero, List.getElem_cons_succ, List.setIfInBounds_toArray, List.set_cons_zero, List.set_cons_succ]
                      have KCH := Lib.hid (changes_cat ⟨q, m, s, bs1, th1, 60⟩ _ _ _ w21 C21.out (fun z e h => by cases h))
                      refine wpAnyH_ready (rs := [6]) (by kernel_rfl) (by simp) (AllReadyH.cons rfl (fun K hK => ?_) AllReadyH.nil)
                      go_simp
                      ((with_reducible refine KCH.out.mono ?_); rintro e w22 ⟨v22, cs22, rfl, o22, k22, b22⟩)
                      have h0 : cs22 = [] := by
                        rw [chgTo_none] at k22
                        simpa using k22
                      subst h0
                      obtain ⟨A22, c22, rfl⟩ := ownsRow_some o22.row
                      have SS3 := SS2.after b22
                      have T22 := Lib.hid (T21.out.trans (b22.mono T21.out.size))
                      refine hK _ _ SS3 (fun _ => ?_)
                      clear hK K b22 KCH o22 k22 heq HEQ
                      simp only [List.length_nil]
                      refine wpAnyH_take (i := 7) (v := .int .i64 0) rfl (by kernel_rfl) (by kernel_rfl) (by kernel_rfl) (fun _ _ _ h => h) (Or.inl ⟨by kernel_rfl, fun w _ => by go_simp⟩) SS3 ?_
                      simp only [Act.put, List.getElem_toArray, List.getElem_cons_zero, List.getElem_cons_succ, List.setIfInBounds_toArray, List.set_cons_zero, List.set_cons_succ]
                      refine wpAnyH_take (i := 8) (v := .bool true) rfl (by kernel_rfl) (by kernel_rfl) (by kernel_rfl) (fun _ _ _ h => h) (Or.inl ⟨by kernel_rfl, fun w _ => by go_simp⟩) SS3 ?_
                      simp only [Act.put, List.getElem_toArray, List.getElem_cons_zero, List.getElem_cons_succ, List.setIfInBounds_toArray, List.set_cons_zero, List.set_cons_succ]
                      refine wpAnyH_take (i := 9) (v := .bool true) rfl (by kernel_rfl) (by kernel_rfl) (by kernel_rfl) (fun _ _ _ h => h) (Or.inl ⟨by kernel_rfl, fun w _ => by go_simp⟩) SS3 ?_
                      simp only [Act.put, List.getElem_toArray, List.getElem_cons_zero, List.getElem_cons_succ, List.setIfInBounds_toArray, List.set_cons_zero, List.set_cons_succ]
                      refine wpAnyH_take (i := 10) (v := .bool true) rfl (by kernel_rfl) (by kernel_rfl) (by kernel_rfl) (fun _ _ _ h => h) (Or.inl ⟨by kernel_rfl, fun w _ => by go_simp⟩) SS3 ?_
                      simp only [Act.put, List.getElem_toArray, List.getElem_cons_zero, List.getElem_cons_succ, List.setIfInBounds_toArray, List.set_cons_zero, List.set_cons_succ]
                      refine wpAnyH_done (by kernel_rfl) ?_ _
                      go_simp
                      go_wp2_with fail
                      go_ret
                      exact ⟨rfl, T22.out⟩
    · have d1 : decide ((40 : Int) < (M : Int)) = true := by simp; omega
      go_wp2_with fail
      go_ret
      exact ⟨rfl, T2.out⟩
theorem cacheKept_any (v u : Value) (w : World) (hv : ∃ cs ls, ChL w w.heap.size v cs ls) (hu : ∃ xs, Chss w w.heap.size u xs) :
    Calls Try.prog 4 #[v, u] w fun e w' => e = .returned (.bool true) ∧ Below w.heap.size w w' := by
  obtain ⟨cs, ls, hv⟩ := hv
  obtain ⟨xs, hu⟩ := hu
  exact cacheKept_walk v cs ls u xs w hv hu
end Go.Proofs.Ytppodbijdhcclaa

