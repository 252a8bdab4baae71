/- The contract of the reference's Fix: what mending answers; nothing that was there is changed. No condition but the array's length. -/
import Derived.Test.YtnclefdlmbkjmaaDoorHamRef
namespace Go.Proofs.YtnclefdlmbkjmaaDoor
open Go.RowKit
theorem xor_one {a b u : Nat} (ha : a < 2) (hb : b < 2) (hu : u = (a + b) % 2) : bits .xor .i64 (a : Int) (b : Int) = (u : Int) := by
  have : ∀ a b : Fin 2, bits .xor .i64 (a.val : Int) (b.val : Int) = (((a.val + b.val) % 2 : Nat) : Int) := by decide
  rw [hu]
  exact this ⟨a, ha⟩ ⟨b, hb⟩
theorem shl_small {b j e : Nat} (he : e = b * 2 ^ j) (h : e < 4096) : wrap64 ((b : Int) * 2 ^ j) = (e : Int) := by
  have e1 : ((b * 2 ^ j : Nat) : Int) = (b : Int) * 2 ^ j := by push_cast; rfl
  rw [← e1, ← he]
  unfold wrap64
  omega
theorem wrap_sum {o e : Nat} (ho : o < 4096) (he : e < 4096) : wrap64 ((o : Int) + (e : Int)) = (o : Int) + (e : Int) := by
  unfold wrap64
  omega
theorem and_bit (c j : Nat) : bits .and .i64 ((c : Int) / 2 ^ j) 1 = ((c / 2 ^ j % 2 : Nat) : Int) := by
  rw [and1]
  push_cast
  rfl
theorem syn_ck (L : List UInt8) (c : Nat) : (HM.ck L ^^^ c) % 2 ^ 12 = HM.syn L c := by
  have h := HM.S_lt L 2048 (by omega)
  unfold HM.syn
  rw [show (4096 : Nat) = 2 ^ 12 from rfl, Nat.xor_mod_two_pow, Nat.xor_mod_two_pow (a := HM.S L 2048)]
  have e : HM.ck L % 2 ^ 12 = HM.S L 2048 % 2 ^ 12 := by unfold HM.ck; omega
  rw [e]
set_option maxRecDepth 100000 in
set_option maxHeartbeats 8000000 in
theorem refFix_any (L : List UInt8) (hL : L.length = 256) (c : Nat) (w : World) : Calls Tryd.prog 27 #[.agg (cl L), .int .i64 (c : Int)] w fun e w' => e = .returned (.tuple #[.agg (cl (HM.fixM L c).1), .int .i64 (((HM.fixM L c).2.1 : Nat) : Int), .int .i64 (((HM.fixM L c).2.2 : Nat) : Int)]) ∧ Below w.heap.size w w' := by
  have A0 := arr_one w hL HM.zeros
  have R0 := arr_two w L HM.zeros_length
  have B0 := Lib.hid (hb_two w L HM.zeros)
  have z := zeroData
  obtain ⟨y, hy⟩ : ∃ y, y = HM.ck L := ⟨_, rfl⟩
  have hy2 : y < 8192 := hy ▸ HM.ck_lt L
  have c1 := refCheck_any L hL
  rw [← hy] at c1
  have HY := Lib.hid hy
  clear hy
  go_enter Tryd.func27, Tryd.ntmps27
  go_wp2_with (with_reducible refine wpl_load (.tmp 2) rfl rfl A0.out rfl ?_)
  ((with_reducible refine (c1 _).mono ?_); rintro e w2 ⟨rfl, hb2⟩)
  have A2 := Lib.hid (A0.out.after hb2)
  have R2 := Lib.hid (R0.out.after hb2)
  have B2 := Lib.hid (B0.out.trans (hb2.mono B0.out.size))
  clear A0 R0 B0 hb2 c1
  go_wp2_with fail
  go_loop [8, 10] (fun s i => ∃ j : Nat, j ≤ 12 ∧ i = .int .i64 j ∧ s = .int .i64 (((y ^^^ c) % 2 ^ j : Nat) : Int)) (fun _ i => 12 - (intOf i).toNat)
  case atStart => exact ⟨0, by omega, rfl, by simp [Nat.mod_one]⟩
  case round =>
    obtain ⟨j, hj, rfl, rfl⟩ := hrel
    obtain ⟨o, ho⟩ : ∃ o, o = (y ^^^ c) % 2 ^ j := ⟨_, rfl⟩
    have hpj : 2 ^ j ≤ 2 ^ 12 := Nat.pow_le_pow_right (by omega) hj
    have ho4 : o < 4096 := ho ▸ Nat.lt_of_lt_of_le (Nat.mod_lt _ (Nat.two_pow_pos j)) hpj
    rw [← ho]
    by_cases hj2 : j < 12
    · have hpj2 : 2 ^ (j + 1) ≤ 2 ^ 12 := Nat.pow_le_pow_right (by omega) (by omega)
      have hm1 : (y ^^^ c) % 2 ^ (j + 1) < 4096 := Nat.lt_of_lt_of_le (Nat.mod_lt _ (Nat.two_pow_pos _)) hpj2
      have b1 := and_bit y j
      have b2 := and_bit c j
      have x1 := HM.xb y c j
      have ss : (y ^^^ c) % 2 ^ (j + 1) = o + (y ^^^ c) / 2 ^ j % 2 * 2 ^ j := by rw [Nat.mod_pow_succ, ← ho, Nat.mul_comm]
      obtain ⟨p, hp⟩ : ∃ p, p = y / 2 ^ j % 2 := ⟨_, rfl⟩
      obtain ⟨q, hq⟩ : ∃ q, q = c / 2 ^ j % 2 := ⟨_, rfl⟩
      obtain ⟨u, hu⟩ : ∃ u, u = (y ^^^ c) / 2 ^ j % 2 := ⟨_, rfl⟩
      rw [← hp] at b1 x1
      rw [← hq] at b2 x1
      rw [← hu] at x1 ss
      have hp2 : p < 2 := hp ▸ Nat.mod_lt _ (by omega)
      have hq2 : q < 2 := hq ▸ Nat.mod_lt _ (by omega)
      have b3 := xor_one hp2 hq2 x1
      obtain ⟨e, he⟩ : ∃ e, e = u * 2 ^ j := ⟨_, rfl⟩
      rw [← he] at ss
      have he4 : e < 4096 := Nat.lt_of_le_of_lt (Nat.le_add_left e o) (by rw [← ss]; exact hm1)
      have b4 := shl_small he he4
      have v1 := congrArg (Value.int .i64) b1
      have v2 := congrArg (Value.int .i64) b2
      have v3 := congrArg (Value.int .i64) b3
      have HS := Lib.hid ss
      have b5 : wrap64 ((o : Int) + (e : Int)) = (o : Int) + (e : Int) := wrap_sum ho4 he4
      clear hp hq hu he ss x1 hm1 hpj hpj2 ho b1 b2 b3
      go_wp2
      go_round
      case rel => exact ⟨j + 1, by omega, by go_num, by rw [HS.out]; go_num⟩
      case measure => simp [intOf]; omega
    · obtain rfl : j = 12 := by omega
      have HO := Lib.hid (ho.trans (by rw [HY.out, syn_ck]))
      clear ho hpj hj2
      go_wp2_with fail
      go_loopw [9, 11] (fun p i wr => ∃ k : Nat, k ≤ 2048 ∧ i = .int .i64 k ∧ p = .int .i64 ((HM.N L k : Nat) : Int) ∧ Arr wr w.heap.size L ∧ Arr wr (w.heap.size + 1) HM.zeros ∧ Below w.heap.size w wr) (fun _ i _ => 2048 - (intOf i).toNat)
      case atStart => exact ⟨0, by omega, rfl, rfl, A2.out, R2.out, B2.out⟩
      case round =>
        obtain ⟨k, hk, rfl, rfl, hA, hR, hB⟩ := hrel
        have HA := Lib.hid hA
        have HR := Lib.hid hR
        have HB := Lib.hid hB
        clear hA hR hB A2 R2 B2
        obtain ⟨M, hM⟩ : ∃ M, M = HM.N L k := ⟨_, rfl⟩
        have hM2 : M ≤ 2048 := by have := HM.N_le L k; omega
        rw [← hM]
        have HMM := Lib.hid hM
        clear hM
        by_cases hlt : k < 2048
        · have c2 := bit_any L hL k hlt
          obtain ⟨b, hb⟩ : ∃ b, b = HM.bt L k := ⟨_, rfl⟩
          have hb2 : b < 2 := by rcases HM.bt_le L k with e | e <;> omega
          rw [← hb] at c2
          have H1 : Hid (HM.N L (k + 1) = M + b) := Lib.hid (by rw [HMM.out, hb]; rfl)
          clear hb
          go_wp2_with (with_reducible refine wpl_load (.tmp 2) rfl rfl HA.out rfl ?_)
          ((with_reducible refine (c2 _).mono ?_); rintro e W2 ⟨rfl, hb2⟩)
          have HA2 := HA.out.after hb2
          have HR2 := HR.out.after hb2
          have HB2 := HB.out.trans (hb2.mono HB.out.size)
          clear hb2
          go_wp2
          go_roundw
          case rel => exact ⟨k + 1, by omega, by go_num, by rw [H1.out]; go_num, HA2, HR2, HB2⟩
          case measure => simp [intOf]; omega
        · obtain rfl : k = 2048 := by omega
          clear hlt hk
          obtain ⟨W, hW⟩ : ∃ W, W = wr := ⟨_, rfl⟩
          subst hW
          go_wp2_with fail
          go_loop [9, 12] (fun p i => ∃ j : Nat, j ≤ 13 ∧ i = .int .i64 j ∧ p = .int .i64 ((M + HM.popT c j : Nat) : Int)) (fun _ i => 13 - (intOf i).toNat)
          case atStart => exact ⟨0, by omega, rfl, rfl⟩
          case round =>
            obtain ⟨j, hj, rfl, rfl⟩ := hrel
            obtain ⟨t, ht⟩ : ∃ t, t = HM.popT c j := ⟨_, rfl⟩
            have ht4 : t ≤ 13 := by have := HM.popT_le c j; omega
            rw [← ht]
            by_cases hj2 : j < 13
            · have b1 := and_bit c j
              obtain ⟨u, hu⟩ : ∃ u, u = c / 2 ^ j % 2 := ⟨_, rfl⟩
              have hu2 : u < 2 := hu ▸ Nat.mod_lt _ (by omega)
              rw [← hu] at b1
              have v1 := congrArg (Value.int .i64) b1
              have H1 : Hid (HM.popT c (j + 1) = t + u) := Lib.hid (by rw [ht, hu]; rfl)
              clear b1 hu ht
              go_wp2
              go_round
              case rel => exact ⟨j + 1, by omega, by go_num, by rw [H1.out]; go_num⟩
              case measure => simp [intOf]; omega
            · obtain rfl : j = 13 := by omega
              have HP : Hid ((M + t) % 2 = HM.par L c) := Lib.hid (by unfold HM.par; rw [ht, HMM.out])
              clear hj2 hj ht
              have hgrow : ∀ {w4 : World}, W.grownBy w4 (some (w.heap.size + 1)) → Below w.heap.size w w4 := fun hg => HB.out.grown hg HB.out.size (fun k e => by cases e; omega)
              rcases HM.mod2 (M + t) with h0 | h0
              · rw [h0] at HP
                have d1 : (((M : Int) + (t : Int)) % 2 == 0) = true := by simp; omega
                by_cases ho : o = 0
                · subst ho
                  have HF := Lib.hid (HM.fix_clean HP.out.symm HO.out.symm)
                  clear h0
                  go_wp2_with (first | (with_reducible refine wpl_load (.tmp 2) rfl rfl HA.out rfl ?_) | (with_reducible refine wpl_store (.tmp 4) (.tmp 64) rfl rfl HR.out rfl hL rfl ?_; intro w4 R4 g4 e4))
                  refine bodyPost_ret (ret3 rfl _ R4 rfl) rfl ?_
                  rw [HF.out]
                  exact ⟨rfl, hgrow g4⟩
                · have HF := Lib.hid (HM.fix_bad HP.out.symm (fun e => ho (HO.out.trans e)))
                  have d2 : ((o : Int) == 0) = false := by simp; omega
                  clear h0
                  go_wp2_with (with_reducible refine wpl_store (.tmp 4) (.tmp 68) rfl rfl HR.out rfl HM.zeros_length rfl ?_; intro w4 R4 g4 e4)
                  refine bodyPost_ret (ret3 rfl _ R4 rfl) rfl ?_
                  rw [HF.out]
                  exact ⟨rfl, hgrow g4⟩
              · rw [h0] at HP
                have d1 : (((M : Int) + (t : Int)) % 2 == 0) = false := by simp; omega
                have HX := Lib.hid (HM.fix_odd_is L c (HP.out.symm))
                rw [← HO.out] at HX
                have HW := Lib.hid (HM.pw_and ho4)
                by_cases ho : o = 0
                · subst ho
                  have HF := Lib.hid (HX.out.1 (HW.out.2 (.inl rfl)))
                  clear h0
                  go_wp2_with (first | (with_reducible refine wpl_load (.tmp 2) rfl rfl HA.out rfl ?_) | (with_reducible refine wpl_store (.tmp 4) (.tmp 75) rfl rfl HR.out rfl hL rfl ?_; intro w4 R4 g4 e4))
                  refine bodyPost_ret (ret3 rfl _ R4 rfl) rfl ?_
                  rw [HF.out]
                  exact ⟨rfl, hgrow g4⟩
                · have d2 : ((o : Int) == 0) = false := by simp; omega
                  have c3 := power_any o (by omega) _ rfl
                  by_cases hp : HM.pw o = true
                  · have HF := Lib.hid (HX.out.1 (HW.out.2 (.inr hp)))
                    rw [hp] at c3
                    clear h0 hp
                    go_wp2_with fail
                    ((with_reducible refine (c3 _).mono ?_); rintro e w' ⟨rfl, rfl⟩)
                    go_wp2_with (first | (with_reducible refine wpl_load (.tmp 2) rfl rfl HA.out rfl ?_) | (with_reducible refine wpl_store (.tmp 4) (.tmp 75) rfl rfl HR.out rfl hL rfl ?_; intro w4 R4 g4 e4))
                    refine bodyPost_ret (ret3 rfl _ R4 rfl) rfl ?_
                    rw [HF.out]
                    exact ⟨rfl, hgrow g4⟩
                  · have hpf : HM.pw o = false := by simpa using hp
                    have hne : ¬ (o &&& (o - 1) = 0) := fun e => by
                      rcases HW.out.1 e with h | h
                      · exact ho h
                      · exact hp h
                    have HN := Lib.hid hne
                    rw [hpf] at c3
                    clear h0 hp hpf hne
                    go_wp2_with fail
                    ((with_reducible refine (c3 _).mono ?_); rintro e w' ⟨rfl, rfl⟩)
                    clear c3
                    go_wp2_with fail
                    go_loop [13, 14] (fun a i => ∃ k : Nat, k ≤ 2048 ∧ i = .int .i64 k ∧ a = .int .i64 ((atP k : Nat) : Int) ∧ ∀ k', k' < k → HM.pl k' ≠ o) (fun _ i => 2048 - (intOf i).toNat)
                    case atStart => exact ⟨0, by omega, rfl, rfl, fun _ h => absurd h (Nat.not_lt_zero _)⟩
                    case round =>
                      obtain ⟨k, hk, rfl, rfl, hno⟩ := hrel
                      obtain ⟨a, ha⟩ : ∃ a, a = atP k := ⟨_, rfl⟩
                      have ha2 : a ≤ 2060 := ha ▸ atP_le hk
                      rw [← ha]
                      have HNO := Lib.hid hno
                      have Ha := Lib.hid ha
                      clear ha hno
                      by_cases hlt : k < 2048
                      · have st := Lib.hid (at_step hlt)
                        obtain ⟨p, hp⟩ : ∃ p, p = HM.pl k := ⟨_, rfl⟩
                        rw [← hp, ← Ha.out] at st
                        have HPL := Lib.hid hp
                        have hp2 : p ≤ 2060 := hp ▸ (HM.pl_facts ⟨k, hlt⟩).1.2.2
                        clear hp
                        have dk : decide ((k : Int) < 2048) = true := by simp; omega
                        go_wp2_with fail
                        go_loop [13] (fun v => ∃ x : Nat, v = .int .i64 x ∧ x ≤ 2060 ∧ (x = p ∨ x + 1 = p ∧ HM.pw x = true)) (fun v => 2061 - (intOf v).toNat)
                        case atStart =>
                          refine ⟨a + 1, by go_num, ?_, ?_⟩
                          · rcases st.out.2 with h | ⟨h, _⟩ <;> omega
                          · rcases st.out.2 with h | ⟨h, h'⟩
                            · exact .inl h
                            · exact .inr ⟨by omega, h'⟩
                        case round =>
                          obtain ⟨x, rfl, hx, hor⟩ := hrel
                          rcases hor with rfl | ⟨h1, h2⟩
                          · have c4 := power_any x (by omega) _ rfl
                            rw [st.out.1] at c4
                            by_cases hxo : x = o
                            · subst hxo
                              have f := (HM.pl_facts ⟨k, hlt⟩).2.2
                              simp only at f
                              rw [← HPL.out] at f
                              have HF := Lib.hid (HX.out.2.1 HN.out hx)
                              rw [f] at HF
                              obtain ⟨b, hb, hcl, HBB⟩ := byte_at L hL (k := k / 8) (by omega)
                              obtain ⟨m, hm, HM'⟩ := flip_byte hb HBB.out
                              have vm := congrArg (Value.int .u8) hm
                              have hcell := (HA.out.cell (k / 8)).trans hcl
                              have hfree := HA.out.free (k / 8)
                              have A5 := Lib.hid (HA.out.set (k / 8) m)
                              have R5 := Lib.hid (HR.out.other ⟨w.heap.size, k / 8, none⟩ (.int .u8 ((m.toNat : Nat) : Int)) (by simp))
                              have hb5 := HB.out.setCell (p := ⟨w.heap.size, k / 8, none⟩) (Nat.le_refl _) (.int .u8 ((m.toNat : Nat) : Int))
                              rw [HM'.out] at A5
                              have hflen : (HM.fl L k).length = 256 := by rw [HM.fl_length, hL]
                              clear f hm hcl
                              go_wp2_with fail
                              ((with_reducible refine (c4 _).mono ?_); rintro e w' ⟨rfl, rfl⟩)
                              go_wp2_with (first | (with_reducible refine wpl_load (.tmp 2) rfl rfl A5.out rfl ?_) | (with_reducible refine wpl_store (.tmp 4) (.tmp 99) rfl rfl R5.out rfl hflen rfl ?_; intro w4 R4 g4 e4))
                              refine bodyPost_ret (ret3 rfl _ R4 rfl) rfl ?_
                              rw [HF.out]
                              exact ⟨rfl, hb5.grown g4 hb5.size (fun k e => by cases e; omega)⟩
                            · have d3 : ((x : Int) == (o : Int)) = false := by simp; omega
                              go_wp2_with fail
                              ((with_reducible refine (c4 _).mono ?_); rintro e w' ⟨rfl, rfl⟩)
                              go_wp2
                              go_round
                              case rel =>
                                refine ⟨k + 1, by omega, by go_num, by rw [HPL.out]; simp [atP], fun k' hk' => ?_⟩
                                by_cases e : k' = k
                                · subst e
                                  rw [← HPL.out]
                                  exact hxo
                                · exact HNO.out k' (by omega)
                              case measure => simp [intOf]; omega
                          · have c4 := power_any x (by omega) _ rfl
                            rw [h2] at c4
                            have H1 := Lib.hid h1
                            clear h1 h2
                            go_wp2_with fail
                            ((with_reducible refine (c4 _).mono ?_); rintro e w' ⟨rfl, rfl⟩)
                            go_wp2
                            go_round
                            case rel => exact ⟨x + 1, by go_num, by have := H1.out; omega, .inl H1.out⟩
                            case measure => have := H1.out; simp [intOf]; omega
                      · obtain rfl : k = 2048 := by omega
                        have hbig : ¬ o ≤ 2060 := fun hle => by
                          have f := HM.of_pl ⟨o, by omega⟩ HN.out
                          exact HNO.out _ f.2.1 f.1
                        have HF := Lib.hid (HX.out.2.2 HN.out hbig)
                        go_wp2_with (with_reducible refine wpl_store (.tmp 4) (.tmp 100) rfl rfl HR.out rfl HM.zeros_length rfl ?_; intro w4 R4 g4 e4)
                        refine bodyPost_ret (ret3 rfl _ R4 rfl) rfl ?_
                        rw [HF.out]
                        exact ⟨rfl, hgrow g4⟩
end Go.Proofs.YtnclefdlmbkjmaaDoor
