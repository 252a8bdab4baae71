/- The contracts of disk's move, Program, Erase, Read, Lost. Condition: the disk is there, its table sure; few acts so far. -/
import Derived.Test.YtdiocjneakfdgaaGreatDoorQDiskFill
import Derived.Test.YtdiocjneakfdgaaGreatDoorQBbtS
namespace Go.Proofs.YtdiocjneakfdgaaGreatDoor
open Go.RowKit
/-- how many blocks the table in block t says are lost -/
def mlost (w : World) (t : Nat) : Nat := ((List.range 40).filter fun b => match w.cell? ⟨t, 36 + b, none⟩ with | some (.bool true) => true | _ => false).length
theorem lossesTo_out {l : Lay} (ho : ∀ b, l.n ≤ b → l.lostAt b = false) : ∀ m, l.n ≤ m → l.lossesTo m = l.lossesTo l.n := fun m hm => by
  induction m with
  | zero =>
    have : l.n = 0 := by omega
    rw [this]
  | succ m ih =>
    rcases Nat.lt_or_ge m l.n with c | c
    · rw [show m + 1 = l.n by omega]
    · rw [Lay.lossesTo_succ, ih c, ho m c]
      simp
theorem Tb.mlost {w : World} {t : Nat} {a : At} {l : Lay} (h : Tb w t a l) (hg : l.good) : mlost w t = l.losses := by
  have hl := h.lay hg.ok
  have : Go.Proofs.YtdiocjneakfdgaaGreatDoor.mlost w t = l.lossesTo 40 := by
    unfold Go.Proofs.YtdiocjneakfdgaaGreatDoor.mlost Lay.lossesTo
    congr 1
    refine List.filter_congr fun b hb => ?_
    have hb' : b < 40 := List.mem_range.1 hb
    have := hl.lost hb'
    rw [show 36 + b = 1 + 35 + b by omega, this]
    cases l.lostAt b <;> rfl
  rw [this]
  exact lossesTo_out hg.out 40 hg.ok.n2
section
variable {w : World} {d t : Nat} {a : At} {X : DS}
theorem Dk.tabs {w' : World} {S' : Ch} {s' : NM.Pwr} {l' : Lay} (h : Dk w d t a X) (hc : Chg w w' (fun j => a.all j ∨ j = t)) (h1 : Dev w' a S' s') (h2 : Tb w' t a l') (hg : l'.good) : Dk w' d t a ⟨S', s', l', X.u⟩ :=
  ⟨h.blk.chg hc (fun q => q.elim h.da h.dt), h2, h1, h.dt, h.da, hg⟩
theorem lays_good {S : Ch} {s : NM.Pwr} {l l' : Lay} (h : l.good) (h' : l'.good) : (S.lays s l l').good := by
  unfold Ch.lays
  split
  · exact h'
  · exact h
theorem lostLay_good {S : Ch} {s : NM.Pwr} {l : Lay} {b : Nat} (h : l.good) (hb : l.isSpare (b : Int) = true) : (S.lostLay s l (b : Int)).good := by
  unfold Ch.lostLay
  rw [if_pos hb, Int.toNat_natCast]
  exact lays_good h (h.lose hb)
theorem swapLay_good {S : Ch} {s : NM.Pwr} {l : Lay} {x : Int} {b : Nat} (h : l.good) (hb : l.isSpare (b : Int) = true) : (S.swapLay s l x (b : Int)).good := by
  unfold Ch.swapLay
  split
  · rename_i c
    unfold Lay.canSwap at c
    rw [Bool.and_eq_true, decide_eq_true_eq] at c
    obtain ⟨n, rfl⟩ : ∃ n : Nat, x = n := ⟨x.toNat, by omega⟩
    rw [Int.toNat_natCast, Int.toNat_natCast]
    exact lays_good h (h.swap (by omega) hb)
  · exact h
set_option maxRecDepth 100000 in
set_option maxHeartbeats 32000000 in
theorem move_any (h : Dk w d t a X) (hsm : X.S.few 999200) (x : Int) {v : Value} {L : List (List UInt8)} (hv : Pages w w.heap.size v L) (hfar : ∀ p n c, v = .slice (some p) n c → ¬ a.disk t d p.block) (hL : L.length ≤ 8) :
    Calls Tryz.prog 74 #[.pointer (some ⟨d, 0, none⟩), .int .i64 x, v] w fun e w' => e = .returned (.int .i64 (DS.move x L (5 - X.l.losses) X).2) ∧ Dk w' d t a (DS.move x L (5 - X.l.losses) X).1 ∧ Chg w w' (a.disk t d) := by
  have HX := Lib.hid h
  have HV := Lib.hid hv
  have HF := Lib.hid hfar
  have HL8 := Lib.hid hL
  have HSM := Lib.hid hsm
  have hl4 := Lib.hid h.good.losses
  obtain ⟨q, hq⟩ : ∃ q, q = DS.move x L (5 - X.l.losses) X := ⟨_, rfl⟩
  have HQ := Lib.hid hq
  rw [← hq]
  clear h hv hfar hL hsm hq
  go_enter Tryz.func74, Tryz.ntmps74
  go_wp2_with fail
  go_loopw [] (fun wr => ∃ (X' : DS) (m : Nat), X'.l.losses = X.l.losses + m ∧ X'.S.few (999200 + 40 * m) ∧ Dk wr d t a X' ∧ Pages wr wr.heap.size v L ∧ Chg w wr (a.disk t d) ∧ q = DS.move x L (5 - X'.l.losses) X') (fun wr => 5 - mlost wr t)
  case atStart => exact ⟨X, 0, rfl, HSM.out, HX.out, HV.out, Chg.refl _ _, HQ.out⟩
  case round =>
    rename_i wr
    obtain ⟨X', m, hm, hf, hd, hp, hc, he⟩ := hrel
    clear HX HV HQ HSM
    have hml := hd.tb.mlost hd.good
    have hl5 := hd.good.losses
    have ks := tspare_any hd.tb hd.good.ok
    obtain ⟨c0, c1, c2⟩ := hd.cells
    obtain ⟨k, hk⟩ : ∃ k, 5 - X'.l.losses = k + 1 := ⟨4 - X'.l.losses, by omega⟩
    rw [hk] at he
    unfold DS.move at he
    cases hs : X'.l.spare with
    | none =>
      rw [hs] at he ks
      simp only at he
      have HD := Lib.hid hd
      have HC := Lib.hid hc
      have HE := Lib.hid he
      clear hd hc he hp hf hml hs
      simp only [Option.getD_none, Option.isSome_none] at ks
      go_wp2_with ((with_reducible refine ks.mono ?_); rintro e w2 ⟨rfl, kk, rfl⟩)
      go_ret
      rw [HE.out]
      exact ⟨rfl, HD.out.after (drewN_below wr kk), HC.out.trans (Chg.of_below (drewN_below wr kk))⟩
    | some b =>
      rw [hs] at he ks
      simp only at he
      simp only [Option.getD_some, Option.isSome_some] at ks
      have hb := spare_some hs
      have hless : X'.l.losses < 5 := by omega
      have kf := fun (W : World) (hW : Below wr.heap.size wr W) => dfill_any (hd.after hW) (few_le (by omega) hf) (b : Int) (hp.chg (Chg.of_below (S := a.disk t d) hW) HF.out) (fun p n c e q => HF.out p n c e (.inl q)) HL8.out
      have hff := few_fill X'.S X'.s (b : Int) L _ hf
      obtain ⟨r, hr⟩ : ∃ r, r = X'.S.fill X'.s (b : Int) L := ⟨_, rfl⟩
      rw [← hr] at kf hff he
      obtain ⟨S1, s1, e1⟩ := r
      simp only at kf hff he
      have hfar2 : ∀ p n c, v = .slice (some p) n c → ¬ a.all p.block := fun p n c e q => HF.out p n c e (.inl q)
      have KF := Lib.hid kf
      have HD := Lib.hid hd
      have HC := Lib.hid hc
      have HE := Lib.hid he
      have HP := Lib.hid hp
      have HFF : Hid (S1.few (999200 + 40 * m + 9)) := Lib.hid (few_le (by have := HL8.out; omega) hff)
      have HML := Lib.hid hml
      have HB := Lib.hid hb
      have HG := Lib.hid hd.good
      have HFR := Lib.hid hfar2
      have h48 := Lib.hid hl5
      clear kf hd hc he hp hff hml hb hr hs hf hfar2 hl5
      go_wp2_with ((with_reducible refine ks.mono ?_); rintro e w2 ⟨rfl, kk, rfl⟩; have k2 := KF.out _ (drewN_below wr kk))
      ((with_reducible refine k2.mono ?_); rintro e w3 ⟨rfl, d3, c3⟩)
      have C3 : Hid (Chg wr w3 a.all) := Lib.hid ((Chg.of_below (drewN_below wr kk)).trans c3)
      have D3 := Lib.hid d3
      have P3 := Lib.hid (HP.out.chg C3.out HFR.out)
      have CC3 : Hid (Chg w w3 (a.disk t d)) := Lib.hid (HC.out.trans (C3.out.more (fun k _ q => .inl q)))
      obtain ⟨g0, g1, g2⟩ := d3.cells
      clear k2 c3 ks KF HP HC c0 c1 c2
      by_cases h0 : e1 = 0
      · subst h0
        simp only [if_true] at HE
        have kw := tswap_any D3.out.tb HG.out.ok HG.out.at40 D3.out.dev (few_le (by omega) HFF.out) x (b : Int)
        have hgs := swapLay_good (S := S1) (s := s1) (x := x) HG.out HB.out
        obtain ⟨r, hr⟩ : ∃ r, r = S1.swapping s1 X'.l x (b : Int) := ⟨_, rfl⟩
        obtain ⟨l2, hl2⟩ : ∃ l2, l2 = S1.swapLay s1 X'.l x (b : Int) := ⟨_, rfl⟩
        simp only [← hr, ← hl2] at HE
        simp only at kw
        rw [← hr, ← hl2] at kw
        rw [← hl2] at hgs
        obtain ⟨S2, s2, e2⟩ := r
        simp only at kw HE
        have HGS := Lib.hid hgs
        clear hr hl2 hgs d3
        go_wp2_with fail
        ((with_reducible refine kw.mono ?_); rintro e w4 ⟨rfl, d4, t4, c4⟩)
        have D4 := Lib.hid (D3.out.tabs c4 d4 t4 HGS.out)
        have C4 : Hid (Chg w w4 (a.disk t d)) := Lib.hid (CC3.out.trans (c4.more (fun k _ q => q.elim .inl (fun q => .inr (.inl q)))))
        have kk2 := kept_any D4.out e2
        simp only at kk2
        clear kw d4 t4 c4 D3 CC3 P3
        go_wp2_with fail
        ((with_reducible refine kk2.mono ?_); rintro e w5 ⟨rfl, d5, c5⟩)
        have C5 : Hid (Chg w w5 (a.disk t d)) := Lib.hid (C4.out.trans c5)
        have D5 := Lib.hid d5
        clear kk2 d5 c5 D4 C4
        go_wp2_with fail
        go_ret
        rw [HE.out]
        exact ⟨rfl, D5.out, C5.out⟩
      · rw [if_neg h0] at HE
        have d0 : ((e1 : Int) == 0) = false := by simpa using h0
        by_cases h33 : e1 = 33
        · subst h33
          rw [if_neg (by decide)] at HE
          have kw := tlose_any D3.out.tb HG.out.ok HG.out.at40 D3.out.dev (few_le (by omega) HFF.out) (b : Int)
          have hgs := lostLay_good (S := S1) (s := s1) HG.out HB.out
          have hfl := few_losing S1 s1 X'.l (b : Int) _ HFF.out
          have hls : (S1.losing s1 X'.l (b : Int)).2.2 = 0 → (S1.lostLay s1 X'.l (b : Int)).losses = X'.l.losses + 1 := fun q => by
            unfold Ch.losing at q
            rw [if_pos HB.out, Int.toNat_natCast] at q
            unfold Ch.lostLay Ch.lays
            rw [if_pos HB.out, Int.toNat_natCast, if_pos q]
            exact HG.out.loseLoss HB.out
          obtain ⟨r, hr⟩ : ∃ r, r = S1.losing s1 X'.l (b : Int) := ⟨_, rfl⟩
          obtain ⟨l2, hl2⟩ : ∃ l2, l2 = S1.lostLay s1 X'.l (b : Int) := ⟨_, rfl⟩
          simp only [← hr, ← hl2] at HE
          simp only at kw
          rw [← hr, ← hl2] at kw
          rw [← hl2] at hgs
          rw [← hr, ← hl2] at hls
          rw [← hr] at hfl
          obtain ⟨S2, s2, e2⟩ := r
          simp only at kw HE hls hfl
          have HGS := Lib.hid hgs
          have HLS := Lib.hid hls
          have HFL := Lib.hid hfl
          clear hr hl2 hgs d3 hls hfl h0
          go_wp2_with fail
          ((with_reducible refine kw.mono ?_); rintro e w4 ⟨rfl, d4, t4, c4⟩)
          have D4 := Lib.hid (D3.out.tabs c4 d4 t4 HGS.out)
          have c4' : Chg w3 w4 (a.disk t d) := c4.more (fun k _ q => q.elim .inl (fun q => .inr (.inl q)))
          have C4 : Hid (Chg w w4 (a.disk t d)) := Lib.hid (CC3.out.trans c4')
          have P4 := Lib.hid (P3.out.chg c4' HF.out)
          have kk2 := kept_any D4.out e2
          simp only at kk2
          clear kw d4 t4 c4 c4' D3 CC3 P3
          go_wp2_with fail
          ((with_reducible refine kk2.mono ?_); rintro e w5 ⟨rfl, d5, c5⟩)
          have C5 : Hid (Chg w w5 (a.disk t d)) := Lib.hid (C4.out.trans c5)
          have P5 := Lib.hid (P4.out.chg c5 HF.out)
          have D5 := Lib.hid d5
          clear kk2 d5 c5 D4 C4 P4
          by_cases h2 : e2 = 0
          · subst h2
            rw [if_neg (by simp)] at HE
            have hl2 := HLS.out rfl
            have hml5 : mlost w5 t = l2.losses := D5.out.tb.mlost HGS.out
            have h5 := HGS.out.losses
            have D6 := D5.out
            rw [show decide ((0 : Int) ≠ 0) = false from rfl] at D6
            have HD6 := Lib.hid D6
            clear D5 D6
            go_wp2_with fail
            refine ⟨⟨⟨S2, s2, l2, false⟩, m + 1, by show l2.losses = _; omega, few_le (by omega) HFL.out, HD6.out, P5.out, C5.out, ?_⟩, ?_⟩
            · rw [HE.out, show 5 - (DS.mk S2 s2 l2 false).l.losses = k by show 5 - l2.losses = k; omega]
            · rw [hml5, HML.out]
              omega
          · have d2 : (e2 != 0) = true := by simpa using h2
            rw [if_pos h2] at HE
            have D6 := D5.out
            rw [decide_eq_true h2] at D6
            have HD6 := Lib.hid D6
            clear D5 D6 h2
            go_wp2_with fail
            go_ret
            rw [HE.out]
            exact ⟨rfl, HD6.out, C5.out⟩
        · have d33 : ((e1 : Int) != 33) = true := by simpa using h33
          rw [if_pos h33] at HE
          clear h0 h33 d3
          go_wp2_with fail
          go_ret
          rw [HE.out]
          exact ⟨rfl, D3.out, CC3.out⟩
end
end Go.Proofs.YtdiocjneakfdgaaGreatDoor

