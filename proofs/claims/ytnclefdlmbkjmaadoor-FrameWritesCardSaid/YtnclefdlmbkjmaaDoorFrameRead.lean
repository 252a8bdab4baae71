/- The contract of the reference's Read: the record of the page; nothing that was there is changed. No condition but the array's length. -/
import Derived.Test.YtnclefdlmbkjmaaDoorFrameWrite
import Derived.Test.YtnclefdlmbkjmaaDoorHamRefFix
import Derived.Deep.QuietTactic
import Derived.BigQuiet
import Derived.Deep.RegionHeld3
namespace Go.Proofs.YtnclefdlmbkjmaaDoor
open Go.RowKit
theorem results_tmp4 {fn : Func} {t u v x : Tmp} (h : fn.results = #[.tmp t, .tmp u, .tmp v, .tmp x]) (tmps : Array Value) (P : Program) (w : World) :
    (results fn tmps).run P w = .ok (.tuple #[tmps.getD t undef, tmps.getD u undef, tmps.getD v undef, tmps.getD x undef]) w := by
  simp [results, h]
/-- an empty slice of bytes that was just made -/
theorem bytes_empty (w' : World) (g : Nat) : Bytes w' w'.heap.size (.slice (some ⟨g, 0, none⟩) 0 0) [] :=
  ⟨_, 0, rfl, Nat.le_refl _, by simp [maxLen], Row.nil⟩
/-- append of bytes to a row of the call's own: what was there is kept but the row -/
theorem step_append_bytes_by {P : Program} {t e : TypeId} {w : World} {base : Nat} {v : Value} {l : List UInt8} {ops : Array Oper} {o : Oper} {a : Act} {K : Act → World → Prop} {Q : Exit → Act → World → Prop} {E : Prop} (hT : OneCell P t e (.int .u8 0) 1) (hgd : Region.wanted o (yielded ops a.tmps) = true) (s x : Operand)
    (ho : o.op = .call { callee := .builtin .append, args := #[s, x], argTypes := #[t, t] })
    (hs : a.eval s = v) (hown : Own e w base v l) (B : Nat) (u : Value) (m : List UInt8) (hx : a.eval x = u) (hu : Bytes w B u m) (hlen : l.length + m.length ≤ 1000000) (hbase : base ≤ w.heap.size) (k : Nat) (hk : l.length + m.length = k)
    (h : ∀ A c w', Own e w' base (.slice A k c) (l ++ m) → w.grownBy w' v.ownBlock → K (a.put o.dst (.slice A k c)) w') :
    if Region.wanted o (yielded ops a.tmps) = true then Oper.wp P o a w K Q else E := by
  rw [if_pos hgd]
  obtain ⟨A, c, rfl, _, _, hr⟩ := hu
  obtain ⟨v', w', hrun, h2, h3, _⟩ := run_append_row hT o.type l.length hown B A c (bv m) m.length (bv_length m) hr (fun u hu => bv_one hu) (by simp only [maxLen]; omega) (by omega) hbase
  have hO : Own e w' base v' (l ++ m) := by
    unfold Own
    rw [List.length_append, bv_append]
    exact h2
  obtain ⟨A', c', hv, _, _⟩ := hO.shape
  rw [List.length_append, hk] at hv
  subst hv
  unfold Oper.wp execOp
  simp only [ho, resolve, invoke, builtin, Sem.run_bind, Sem.run_pure, Result.andThen_ok, List.map_toArray, List.map_cons, List.map_nil, hs, hx, hrun]
  exact h A' c' w' hO h3
theorem above_at {b : Nat} (hb : b < 256) : HM.popT (b / 32) 3 = b / 128 + b / 64 % 2 + b / 32 % 2 ∧ HM.popT (b / 32) 3 ≤ 3 := by
  refine ⟨?_, HM.popT_le _ _⟩
  show 0 + b / 32 / 2 ^ 0 % 2 + b / 32 / 2 ^ 1 % 2 + b / 32 / 2 ^ 2 % 2 = _
  omega
set_option maxRecDepth 100000 in
set_option maxHeartbeats 8000000 in
theorem refRead_any (L : List UInt8) (hL : L.length = 258) (w : World) :
    Calls Tryd.prog 13 #[.agg (cl L)] w fun e w' => ∃ v, e = .returned (.tuple #[.int .u8 (((FM.readM L).1.toNat : Nat) : Int), v, .int .i64 (((FM.readM L).2.2.1 : Nat) : Int), .int .i64 (((FM.readM L).2.2.2 : Nat) : Int)]) ∧ Bytes w' w'.heap.size v (FM.readM L).2.1 ∧ Below w.heap.size w w' := by
  have z2 := zeroData
  have A0 := Lib.hid ((PArr.new w hL).alloc (.cells #[] 5))
  have B0 : Hid (Below w.heap.size w ((w.alloc (.cells (cl L) 26)).alloc (.cells #[] 5))) := Lib.hid (((Below.refl _ _).alloc (Nat.le_refl _) _).alloc (by simp) _)
  have E0 : Hid (Emp ((w.alloc (.cells (cl L) 26)).alloc (.cells #[] 5)) (w.heap.size + 1)) := Lib.hid (heap_alloc2_new w _ _)
  have k1 := refBlank_any L hL
  obtain ⟨bk, hbk⟩ : ∃ bk, bk = FM.blank L := ⟨_, rfl⟩
  rw [← hbk] at k1
  have HBK := Lib.hid hbk
  clear hbk
  go_enter Tryd.func13, Tryd.ntmps13
  go_wp2_with (with_reducible refine wpl_pload (.tmp 1) rfl rfl A0.out rfl ?_)
  ((with_reducible refine (k1 _).mono ?_); rintro e w2 ⟨rfl, hb2⟩)
  have A2 := Lib.hid (A0.out.after hb2)
  have B2 := Lib.hid (B0.out.trans (hb2.mono B0.out.size))
  have hlt2 : w.heap.size + 1 < w2.heap.size := Nat.lt_of_lt_of_le (by simp) hb2.size
  have E2 := Lib.hid (E0.out.after hb2)
  clear A0 B0 E0 hb2 k1
  cases bk with
  | true =>
    have HR : Hid (FM.readM L = (0, [], 0, 20)) := Lib.hid (by unfold FM.readM; rw [if_pos HBK.out.symm])
    go_wp2
    (try simp only [Exit.inBlock, Exit.then])
    refine bodyPost_ret (results_tmp4 rfl _ _ _) rfl ?_
    rw [HR.out]
    exact ⟨_, rfl, bytes_empty _ _, B2.out⟩
  | false =>
    obtain ⟨b, hb, hc, HB⟩ := pbyte_at L hL (k := 257) (by omega)
    have hcell := (A2.out.cell 257).trans hc
    have ab := above_at hb
    obtain ⟨a, ha⟩ : ∃ a, a = HM.popT (b / 32) 3 := ⟨_, rfl⟩
    rw [← ha] at ab
    have HA3 : Hid (a = FM.above L) := Lib.hid (by rw [ha, HB.out]; rfl)
    have f6 : bits .and .u8 ((b : Int) / 64) 1 = ((b / 64 % 2 : Nat) : Int) := by
      have h := u8_and_nat (b / 64) 1 (by omega) (by omega)
      rw [show b / 64 &&& 1 = b / 64 % 2 from Nat.and_two_pow_sub_one_eq_mod _ 1] at h
      rw [← h]; push_cast; rfl
    have f5 : bits .and .u8 ((b : Int) / 32) 1 = ((b / 32 % 2 : Nat) : Int) := by
      have h := u8_and_nat (b / 32) 1 (by omega) (by omega)
      rw [show b / 32 &&& 1 = b / 32 % 2 from Nat.and_two_pow_sub_one_eq_mod _ 1] at h
      rw [← h]; push_cast; rfl
    obtain ⟨u6, hu6⟩ : ∃ u6, u6 = b / 64 % 2 := ⟨_, rfl⟩
    obtain ⟨u5, hu5⟩ : ∃ u5, u5 = b / 32 % 2 := ⟨_, rfl⟩
    rw [← hu6] at f6 ab
    rw [← hu5] at f5 ab
    have hsum : (b : Int) / 128 + (u6 : Int) + (u5 : Int) = (a : Int) := by have := ab.1; omega
    have ha3 := ab.2
    have hu62 : u6 < 2 := hu6 ▸ Nat.mod_lt _ (by omega)
    have hu52 : u5 < 2 := hu5 ▸ Nat.mod_lt _ (by omega)
    clear ab ha hu6 hu5 hc
    by_cases h1 : 1 < a
    · have HR : Hid (FM.readM L = (0, [], 0, 21)) := Lib.hid (by
        unfold FM.readM
        rw [← HBK.out, ← HA3.out, if_pos h1]
        rfl)
      have d1 : decide ((1 : Int) < (a : Int)) = true := by simp; omega
      go_wp2
      (try simp only [Exit.inBlock, Exit.then])
      refine bodyPost_ret (results_tmp4 rfl _ _ _) rfl ?_
      rw [HR.out]
      exact ⟨_, rfl, bytes_empty _ _, B2.out⟩
    · have d1 : decide ((1 : Int) < (a : Int)) = false := by simp; omega
      obtain ⟨D, hD⟩ : ∃ D, D = L.take 256 := ⟨_, rfl⟩
      have hDL : D.length = 256 := by rw [hD, List.length_take, hL]; rfl
      have HDD := Lib.hid hD
      have hDg : ∀ k (h : k < D.length), D[k] = L.getD k 0 := fun k h => by
        have h' : k < 256 := by rw [← hDL]; exact h
        rw [List.getD_eq_getElem?_getD, List.getElem?_eq_getElem (by omega), Option.getD_some]
        subst hD
        exact List.getElem_take
      have HDG := Lib.hid hDg
      obtain ⟨b6, hb6, hc6, HB6⟩ := pbyte_at L hL (k := 256) (by omega)
      have z0 : HM.zeros = FM.fill [] D 256 0 := by rw [FM.fill_zero]; rfl
      have HZ0 := Lib.hid z0
      have HC6 := Lib.hid hc6
      have hcD := (FM.fill_all [] D 256)
      rw [hDL] at hcD
      have HFA : Hid (FM.fill [] D 256 256 = D) := Lib.hid (by rw [hcD]; simp)
      have HC7 : Hid ((cl L)[257]? = some (.int .u8 (b : Int))) := Lib.hid (by rw [← A2.out.cell 257]; exact hcell)
      clear hD hDg z0 hc6 hcD
      go_wp2_with (with_reducible refine wpl_store (.tmp 8) (.tmp 39) rfl rfl (Arr.new w2 HM.zeros_length) rfl HM.zeros_length rfl ?_; intro w3 D3 g3 e3)
      clear f6 f5 hsum hu62 hu52 hcell
      have hg8 : w.heap.size ≠ w2.heap.size := by omega
      have hgl : w.heap.size ≤ w2.heap.size := by omega
      obtain ⟨g8, hg8e⟩ : ∃ g8, g8 = w2.heap.size := ⟨_, rfl⟩
      have P3 := Lib.hid ((A2.out.alloc (.cells (cl HM.zeros) 45)).grown g3 hg8)
      have B3 := Lib.hid ((B2.out.alloc B2.out.size (.cells (cl HM.zeros) 45)).grown g3 (by rw [World.size_alloc]; omega) (fun k e => by cases e; exact hgl))
      have E3 := Lib.hid ((E2.out.alloc (.cells (cl HM.zeros) 45)).grown g3 (by omega))
      rw [HZ0.out] at D3
      have HD3 := Lib.hid D3
      rw [← hg8e] at HD3 hg8 hgl ⊢
      have hlt8 : w.heap.size + 1 < g8 := by rw [hg8e]; exact hlt2
      clear A2 B2 E2 D3 g3 e3 hg8e hlt2 HZ0
      go_loopw [9] (fun i wr => ∃ k : Nat, k ≤ 256 ∧ i = .int .i64 k ∧ Arr wr g8 (FM.fill [] D 256 k) ∧ PArr wr w.heap.size L ∧ Emp wr (w.heap.size + 1) ∧ Below w.heap.size w wr) (fun i _ => 256 - (intOf i).toNat)
      case atStart => exact ⟨0, Nat.zero_le _, rfl, HD3.out, P3.out, E3.out, B3.out⟩
      case round =>
        obtain ⟨k, hk, rfl, hA, hP, hE, hB⟩ := hrel
        clear HD3 P3 B3 E3
        have HE := Lib.hid hE
        clear hE
        have HA := Lib.hid hA
        have HP := Lib.hid hP
        have HBw := Lib.hid hB
        clear hA hP hB
        by_cases hlt : k < 256
        · have hkl : k < D.length := by rw [hDL]; exact hlt
          have hcell := (HP.out.cell k).trans (cl_get (by omega))
          obtain ⟨sb, hsb⟩ : ∃ sb, sb = L[k]'(by omega) := ⟨_, rfl⟩
          rw [← hsb] at hcell
          have hsd : D[k] = sb := by
            rw [HDG.out k hkl, hsb, List.getD_eq_getElem?_getD, List.getElem?_eq_getElem (by omega), Option.getD_some]
          have HF : Hid ((FM.fill [] D 256 k).set k sb = FM.fill [] D 256 (k + 1)) := Lib.hid (by rw [← hsd]; exact FM.fill_set [] D 256 k hkl (by omega) k (by simp))
          clear hsb hkl hsd
          go_wp2_with (with_reducible refine wpl_put (.tmp 48) (.tmp 47) rfl rfl HA.out k (by omega) sb rfl rfl ?_; intro w5 D5 g5)
          rw [HF.out] at D5
          have P5 := HP.out.grown g5 hg8
          have E5 := HE.out.grown g5 (by omega)
          have b5 := HBw.out.grown g5 HBw.out.size (fun k e => by cases e; exact hgl)
          clear g5
          go_roundw
          case rel => exact ⟨k + 1, by omega, by go_num, D5, P5, E5, b5⟩
          case measure => simp [intOf]; omega
        · obtain rfl : k = 256 := by omega
          rw [HFA.out] at HA
          have hcell6 := (HP.out.cell 256).trans HC6.out
          have hcell7 := (HP.out.cell 257).trans HC7.out
          obtain ⟨ch, hch⟩ : ∃ ch, ch = b6 + 256 * b := ⟨_, rfl⟩
          have hck : ch = FM.chk L := by rw [hch, HB6.out, HB.out]; rfl
          have k2 := refFix_any D hDL ch
          rw [show ((ch : Nat) : Int) = (b6 : Int) + 256 * (b : Int) by omega] at k2
          obtain ⟨x, hx⟩ : ∃ x, x = (HM.fixM D ch).1 := ⟨_, rfl⟩
          obtain ⟨n, hn⟩ : ∃ n, n = (HM.fixM D ch).2.1 := ⟨_, rfl⟩
          obtain ⟨e, he⟩ : ∃ e, e = (HM.fixM D ch).2.2 := ⟨_, rfl⟩
          have hxL : x.length = 256 := hx ▸ HM.fixM_length D ch hDL
          have sm := HM.fixM_small D ch
          rw [← hx, ← hn, ← he] at k2
          rw [← hn, ← he] at sm
          have HRD : Hid (FM.readM L = if e ≠ 0 then (0, [], 0, 21) else FM.openM x (n + a)) := Lib.hid (by
            unfold FM.readM
            rw [← HBK.out, ← HA3.out, if_neg h1, ← HDD.out, ← hck, ← hx, ← hn, ← he]
            rfl)
          clear hch hck hx hn he hlt hk
          go_wp2_with (with_reducible refine wpl_load (.tmp 8) rfl rfl HA.out rfl ?_)
          ((with_reducible refine (k2 _).mono ?_); rintro e' w6 ⟨rfl, hb6'⟩)
          have B6 := Lib.hid (HBw.out.trans (hb6'.mono HBw.out.size))
          have E6 := Lib.hid (HE.out.after hb6')
          have hE6 := E6.out.lt
          clear HA HP HBw HE hb6' k2 hcell6 hcell7
          have hle6 := B6.out.size
          by_cases he0 : e = 0
          · subst he0
            rw [if_neg (fun h => h rfl)] at HRD
            obtain ⟨s1, hs1, hc1, HS1⟩ := byte_at x hxL (k := 1) (by omega)
            obtain ⟨x0, hx0, hc0, HX0⟩ := byte_at x hxL (k := 0) (by omega)
            by_cases hbad : 240 < s1 ∨ x0 = 0 ∨ x0 = 255
            · have HR : Hid (FM.readM L = (0, [], 0, 21)) := Lib.hid (by
                rw [HRD.out]
                unfold FM.openM
                rw [if_pos]
                rw [← HS1.out]
                rcases hbad with h | h | h
                · exact .inl h
                · exact .inr (.inl (UInt8.toNat_inj.1 (by rw [← HX0.out, h]; rfl)))
                · exact .inr (.inr (UInt8.toNat_inj.1 (by rw [← HX0.out, h]; rfl))))
              by_cases h240 : 240 < s1
              · have d3 : decide ((240 : Int) < (s1 : Int)) = true := by simp; omega
                go_wp2_with (with_reducible refine wpl_store (.tmp 10) (.tmp 60) rfl rfl (Arr.new w6 HM.zeros_length) rfl hxL rfl ?_; intro w7 X7 g7 e7; have q1 := (X7.cell 1).trans hc1; have q0 := (X7.cell 0).trans hc0)
                (try simp only [Exit.inBlock, Exit.then])
                refine bodyPost_ret (results_tmp4 rfl _ _ _) rfl ?_
                rw [HR.out]
                exact ⟨_, rfl, bytes_empty _ _, kept_new B6.out g7⟩
              · have d3 : decide ((240 : Int) < (s1 : Int)) = false := by simp; omega
                by_cases h00 : x0 = 0
                · have d4 : ((x0 : Int) == 0) = true := by simp; omega
                  go_wp2_with (with_reducible refine wpl_store (.tmp 10) (.tmp 60) rfl rfl (Arr.new w6 HM.zeros_length) rfl hxL rfl ?_; intro w7 X7 g7 e7; have q1 := (X7.cell 1).trans hc1; have q0 := (X7.cell 0).trans hc0)
                  (try simp only [Exit.inBlock, Exit.then])
                  refine bodyPost_ret (results_tmp4 rfl _ _ _) rfl ?_
                  rw [HR.out]
                  exact ⟨_, rfl, bytes_empty _ _, kept_new B6.out g7⟩
                · have d4 : ((x0 : Int) == 0) = false := by simp; omega
                  have d5 : ((x0 : Int) == 255) = true := by simp; omega
                  clear hbad
                  go_wp2_with (with_reducible refine wpl_store (.tmp 10) (.tmp 60) rfl rfl (Arr.new w6 HM.zeros_length) rfl hxL rfl ?_; intro w7 X7 g7 e7; have q1 := (X7.cell 1).trans hc1; have q0 := (X7.cell 0).trans hc0)
                  (try simp only [Exit.inBlock, Exit.then])
                  refine bodyPost_ret (results_tmp4 rfl _ _ _) rfl ?_
                  rw [HR.out]
                  exact ⟨_, rfl, bytes_empty _ _, kept_new B6.out g7⟩
            · have d3 : decide ((240 : Int) < (s1 : Int)) = false := by simp; omega
              have d4 : ((x0 : Int) == 0) = false := by simp; omega
              have d5 : ((x0 : Int) == 255) = false := by simp; omega
              have HRO : Hid (FM.readM L = if FM.nought x (2 + s1) = true then (if numB 4 (CM.on 0 (x.take 252)) = x.drop 252 then (x.getD 0 0, (x.drop 2).take s1, n + a, 0) else (0, [], 0, 21)) else (0, [], 0, 21)) := Lib.hid (by
                rw [HRD.out]
                unfold FM.openM
                rw [if_neg, ← HS1.out]
                rw [← HS1.out]
                intro h
                rcases h with h | h | h
                · exact hbad (.inl h)
                · exact hbad (.inr (.inl (by rw [HX0.out, h]; rfl)))
                · exact hbad (.inr (.inr (by rw [HX0.out, h]; rfl))))
              have h240 : s1 ≤ 240 := by omega
              clear hbad
              go_wp2_with (with_reducible refine wpl_store (.tmp 10) (.tmp 60) rfl rfl (Arr.new w6 HM.zeros_length) rfl hxL rfl ?_; intro w7 X7 g7 e7; have q1 := (X7.cell 1).trans hc1; have q0 := (X7.cell 0).trans hc0)
              have B7 := Lib.hid (kept_new B6.out g7)
              have E7 := Lib.hid ((E6.out.alloc (.cells (cl HM.zeros) 45)).grown g7 (by omega))
              have hgx : w.heap.size + 1 < w6.heap.size := hE6
              obtain ⟨gx, hgxe⟩ : ∃ gx, gx = w6.heap.size := ⟨_, rfl⟩
              rw [← hgxe] at X7 q1 q0 hgx ⊢
              clear g7 e7 q1 q0 hgxe B6 E6 hE6 hle6
              go_loop [14] (fun i => ∃ k : Nat, 2 + s1 ≤ k ∧ k ≤ 252 ∧ i = .int .i64 k ∧ ∀ j, j < k → 2 + s1 ≤ j → x.getD j 0 = 0) (fun i => 252 - (intOf i).toNat)
              case atStart => exact ⟨2 + s1, Nat.le_refl _, by omega, by go_num, fun j h h' => by omega⟩
              case round =>
                obtain ⟨k, hk1, hk2, rfl, hno⟩ := hrel
                have HNO := Lib.hid hno
                clear hno
                by_cases hlt : k < 252
                · obtain ⟨sb, hsb, hcs, HSB⟩ := byte_at x hxL (k := k) (by omega)
                  have hcell := (X7.cell k).trans hcs
                  by_cases hz : sb = 0
                  · have d6 : ((sb : Int) != 0) = false := by simp; omega
                    go_wp2
                    go_round
                    case rel =>
                      refine ⟨k + 1, by omega, by omega, by go_num, fun j hj hj2 => ?_⟩
                      by_cases e : j = k
                      · subst e
                        exact UInt8.toNat_inj.1 (by rw [← HSB.out, hz]; rfl)
                      · exact HNO.out j (by omega) hj2
                    case measure => simp [intOf]; omega
                  · have d6 : ((sb : Int) != 0) = true := by simp; omega
                    have HR : Hid (FM.readM L = (0, [], 0, 21)) := Lib.hid (by
                      rw [HRO.out, if_neg]
                      intro h
                      have := (FM.nought_iff x (2 + s1)).1 h k (by omega) hk1
                      exact hz (by rw [HSB.out, this]; rfl))
                    go_wp2
                    (try simp only [Exit.inBlock, Exit.then])
                    refine bodyPost_ret (results_tmp4 rfl _ _ _) rfl ?_
                    rw [HR.out]
                    exact ⟨_, rfl, bytes_empty _ _, B7.out⟩
                · obtain rfl : k = 252 := by omega
                  have hnt : FM.nought x (2 + s1) = true := (FM.nought_iff x (2 + s1)).2 (fun i hi ha => HNO.out i (by omega) ha)
                  rw [if_pos hnt] at HRO
                  clear hlt HNO hnt hk2
                  obtain ⟨Y, hY⟩ : ∃ Y, Y = x.take 252 := ⟨_, rfl⟩
                  have hYL : Y.length = 252 := by rw [hY, List.length_take, hxL]; rfl
                  have hby := arr_bytes X7 (n := 252) (X := Y) hY.symm hYL (by omega)
                  have k3 : Calls Tryd.prog 20 #[.int .u32 0, .slice (some ⟨gx, 0, none⟩) 252 256] w7 fun e w' => e = .returned (.int .u32 (CM.on 0 Y : Int)) ∧ w7 = w' := ref_call 0 (by omega) _ Y w7 _ hby
                  obtain ⟨m, hm⟩ : ∃ m, m = CM.on 0 Y := ⟨_, rfl⟩
                  have hm4 : m < 4294967296 := hm ▸ CM.on_lt (by omega) Y
                  rw [← hm] at k3
                  have hw4 : wid 4 = 4 := by decide
                  have k4 := refnum_any 4 m (by omega)
                  rw [hw4] at k4
                  rw [← hY, ← hm] at HRO
                  clear hY hm hby hw4
                  go_wp2_with fail
                  ((with_reducible refine k3.mono ?_); rintro e w' ⟨rfl, rfl⟩)
                  go_wp2_with fail
                  ((with_reducible refine (k4 _).mono ?_); rintro e w8 ⟨As, cs, rfl, O8, hb8⟩)
                  have X8 := Lib.hid (X7.after hb8)
                  have E8 := Lib.hid (E7.out.after hb8)
                  have B8 := Lib.hid (B7.out.trans (hb8.mono B7.out.size))
                  have hz8 := B8.out.size
                  have D8 := O8.bytes (by rw [numB_length]; simp [maxLen])
                  clear X7 E7 B7 hb8 k3 k4
                  go_wp2_with fail
                  obtain ⟨Z, hZ⟩ : ∃ Z, Z = x.drop 252 := ⟨_, rfl⟩
                  have hZL : Z.length = 4 := by rw [hZ, List.length_drop, hxL]
                  have D9 := arr_mid X8.out (o := 252) (n := 4) (c := 4) (X := Z) (by rw [hZ, List.take_of_length_le (by rw [List.length_drop, hxL]; omega)]) hZL (by omega) (by omega)
                  obtain ⟨Q, hQ⟩ : ∃ Q, Q = numB 4 m := ⟨_, rfl⟩
                  have S1 := fun m' => str_of (Bytes.keep (w' := World.drewN w8 m') D8 fun p _ => rfl)
                  have S2 := fun m' => str_of (Bytes.keep (w' := World.drewN w8 m') D9 fun p _ => rfl)
                  rw [← hQ] at S1 HRO
                  rw [← hZ] at HRO
                  clear hQ hZ D8 D9 O8
                  by_cases hQZ : Q = Z
                  · subst hQZ
                    rw [if_pos rfl] at HRO
                    go_quiet (fail)
                    clear S1 S2
                    have X9 : Hid (Arr (w8.drewN nq) gx x) := X8
                    have E9 : Hid (Emp (w8.drewN nq) (w.heap.size + 1)) := E8
                    have B9 : Hid (Below w.heap.size w (w8.drewN nq)) := Lib.hid ⟨B8.out.os, B8.out.tape, B8.out.output, B8.out.size, B8.out.block⟩
                    obtain ⟨W, hW⟩ : ∃ W, W = w8.drewN nq := ⟨_, rfl⟩
                    rw [← hW] at X9 E9 B9 ⊢
                    clear hW X8 E8 B8 hz8
                    go_wp2
                    have c0 : W.drew.cell? ⟨gx, 0, none⟩ = some (.int .u8 (x0 : Int)) := (X9.out.cell 0).trans hc0
                    have OE : Own 5 W.drew w.heap.size (.slice (some ⟨w.heap.size + 1, 0, none⟩) 0 0) [] := E9.out.own (by omega)
                    have DM : Bytes W.drew W.heap.size (.slice (some ⟨gx, 2, none⟩) s1 254) ((x.drop 2).take s1) := arr_mid (w := W) X9.out rfl (by rw [List.length_take, List.length_drop, hxL]; omega) (by omega) (by omega)
                    have hzW : w.heap.size ≤ W.drew.heap.size := B9.out.size
                    have hgW : gx < W.drew.heap.size := X9.out.lt
                    have ww1 : IntKind.i64.wrap (2 + (s1 : Int)) = 2 + (s1 : Int) := by rw [IntKind.wrap_i64]; omega
                    have ww2 : (0 : Int) ≤ 2 + (s1 : Int) := by omega
                    have ww3 : (2 + (s1 : Int)).toNat = 2 + s1 := by omega
                    have ww4 : IntKind.i64.wrap ((n : Int) + (a : Int)) = (n : Int) + (a : Int) := by have := sm.1; rw [IntKind.wrap_i64]; omega
                    have ww5 : 2 + (s1 : Int) ≤ 256 := by omega
                    have hne : (some gx : Option Nat) ≠ (.slice (some ⟨w.heap.size + 1, 0, none⟩) 0 0 : Value).ownBlock := by show (some gx : Option Nat) ≠ some (w.heap.size + 1); simp; omega
                    have ww6 : (2 : Int) ≤ 2 + (s1 : Int) := by omega
                    go_region_held3 (fun w' => w'.cell? ⟨gx, 0, none⟩ = some (.int .u8 (x0 : Int)))
                      (first | go_keep | (exact c0) | (exact (World.cell?_of_block (g9.block gx hgW hne)).trans c0))
                      ((refine step_append_bytes_by byteTys (by rfl) (.tmp 105) (.tmp 108) (by rfl) (by rfl) OE _ _ _ (by rfl) DM (by simp; omega) hzW s1 (by simp [hxL]; omega) ?_; intro A9 c9 w9 O9 g9))
                    have B9' := Lib.hid (B9.out.trans ((Below.refl w.heap.size W).drew.grown g9 hzW (fun k e => by cases e; exact Nat.le_succ _)))
                    have hres : Value.tuple #[.int .u8 (x0 : Int), .slice A9 s1 c9, .int .i64 ((n : Int) + (a : Int)), .int .i64 0] = .tuple #[.int .u8 (((x.getD 0 0).toNat : Nat) : Int), .slice A9 s1 c9, .int .i64 ((n + a : Nat) : Int), .int .i64 ((0 : Nat) : Int)] := by
                      rw [← HX0.out, Int.natCast_add]; rfl
                    have HRES := Lib.hid hres
                    clear hres
                    have O9b := O9.bytes (by rw [List.nil_append, List.length_take, List.length_drop, hxL]; simp [maxLen]; omega)
                    go_wp2
                    (try simp only [Exit.inBlock, Exit.then])
                    refine bodyPost_ret (results_tmp4 rfl _ _ _) rfl ?_
                    rw [HRO.out]
                    exact ⟨_, congrArg _ HRES.out, O9b, B9'.out⟩
                  · have HR : Hid (FM.readM L = (0, [], 0, 21)) := Lib.hid (by rw [HRO.out, if_neg hQZ])
                    have B9 : ∀ nq, Below w.heap.size w (w8.drewN nq) := fun nq => ⟨B8.out.os, B8.out.tape, B8.out.output, B8.out.size, B8.out.block⟩
                    have hbn : (Q == Z) = false := by simp [hQZ]
                    go_quiet (fail)
                    clear S1 S2
                    go_wp2
                    (try simp only [Exit.inBlock, Exit.then])
                    refine bodyPost_ret (results_tmp4 rfl _ _ _) rfl ?_
                    rw [HR.out]
                    exact ⟨_, rfl, bytes_empty _ _, B9 _⟩
          · have HR : Hid (FM.readM L = (0, [], 0, 21)) := Lib.hid (by rw [HRD.out, if_pos he0])
            have d2 : ((e : Int) != 0) = true := by simp; omega
            go_wp2_with (with_reducible refine wpl_store (.tmp 10) (.tmp 60) rfl rfl (Arr.new w6 HM.zeros_length) rfl hxL rfl ?_; intro w7 X7 g7 e7)
            (try simp only [Exit.inBlock, Exit.then])
            refine bodyPost_ret (results_tmp4 rfl _ _ _) rfl ?_
            rw [HR.out]
            exact ⟨_, rfl, bytes_empty _ _, kept_new B6.out g7⟩
end Go.Proofs.YtnclefdlmbkjmaaDoor
