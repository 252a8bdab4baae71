/- The walk of DiskPlays: it answers true, and changes nothing that was there. Condition: the table of the check sum holds its sixteen numbers. -/
import Derived.Test.YtaafelhjcmgkdaaGreatDoorQDiskG
import Derived.Test.YtaafelhjcmgkdaaGreatDoorQDiskE
namespace Go.Proofs.YtaafelhjcmgkdaaGreatDoor
open Go.RowKit
set_option maxRecDepth 100000 in
set_option maxHeartbeats 64000000 in
theorem plays_main (A : Option Addr) (cap : Nat) (os : List Op7) (A2 : Option Addr) (cap2 : Nat) (zs : List Int) (pr : Bool) (w : World) (ht : Tab w) (hs : Script7 w w.heap.size (.slice A os.length cap) os) (hv : Nums w w.heap.size .i64 (.slice A2 zs.length cap2) zs) (h60 : os.length ≤ 60) (h3 : zs.length ≤ 3) :
    Calls Tryz.prog 3 #[.slice A os.length cap, .slice A2 zs.length cap2, .bool pr] w fun e w' => e = .returned (.bool true) ∧ Below w.heap.size w w' := by
  have d1 : decide ((60 : Int) < (os.length : Int)) = false := by simp; omega
  have d2 : decide ((3 : Int) < (zs.length : Int)) = false := by simp; omega
  have ks := dspeaks_any w ht
  have z := zeroOp7
  have HS := Lib.hid hs
  have HV := Lib.hid hv
  have HT := Lib.hid ht
  have H60 := Lib.hid h60
  have H3 := Lib.hid h3
  clear hs hv ht h60 h3
  go_enter Tryz.func3, Tryz.ntmps3
  go_wp2_with ((with_reducible refine ks.mono ?_); rintro e w1 ⟨rfl, b1⟩)
  have B1 := Lib.hid b1
  have kl := laid_any 24 (by omega) fresh24d loss24 w1 (HT.out.below b1 HT.out.lt)
  rw [show ((24 : Nat) : Int) = 24 from rfl] at kl
  clear ks b1
  go_wp2_with ((with_reducible refine kl.mono ?_); rintro e w2 ⟨d, t, a, X0, rfl, hX⟩)
  have HX := Lib.hid hX
  have h0 : Hid (X0.l.losses = 0) := Lib.hid (by rw [hX.lay]; exact loss24)
  have B2 : Hid (Below w.heap.size w w2) := Lib.hid (B1.out.trans (hX.below.mono B1.out.size))
  have HF : Hid (∀ j, a.disk t d j → w.heap.size ≤ j) := Lib.hid (fun j hj => Nat.le_trans B1.out.size (hX.far j hj))
  have kn := rnew_any w2
  clear kl hX B1
  go_wp2_with ((with_reducible refine kn.mono ?_); rintro e W ⟨m, g, rfl, hm, hg, hR, b3⟩)
  have HD := Lib.hid (HX.out.one.after b3)
  have HH : Hid (HasAll X0 24 (fun _ => [])) := Lib.hid (fun y hy => ⟨by simp, (fun q h => by cases h), HX.out.blank y hy⟩)
  have HR := Lib.hid hR
  have HB := Lib.hid (B2.out.trans (b3.mono B2.out.size))
  have HMG : Hid (¬ a.disk t d m ∧ ¬ a.disk t d g ∧ g ≠ 0) := Lib.hid ⟨fun q => Nat.lt_irrefl _ (Nat.lt_of_lt_of_le (HX.out.one.all_lt _ q) hm), fun q => Nat.lt_irrefl _ (Nat.lt_of_lt_of_le (HX.out.one.all_lt _ q) hg), fun e => by have h1 := HT.out.lt; have h2 := B2.out.size; rw [← e] at h1; omega⟩
  have HG : Hid (w.heap.size ≤ g) := Lib.hid (Nat.le_trans B2.out.size hg)
  have HL : Hid (X0.l.losses = 0) := h0
  clear kn hm hg hR b3 h0 B2 HX
  go_wp2_with fail
  go_loopw [9, 34] (fun v i wr => ∃ j : Nat, j ≤ zs.length ∧ i = .int .i64 j ∧ ∃ A c L, v = .slice A j c ∧ L.length = j ∧ (∀ z ∈ L, z < 100) ∧ wr.ownsRow W.heap.size 3 1 (.slice A j c) j (zv L) ∧ Below W.heap.size W wr) (fun _ i _ => zs.length - (intOf i).toNat)
  case atStart => exact ⟨0, Nat.zero_le _, rfl, some ⟨W.heap.size, 0, none⟩, 0, [], rfl, rfl, (fun z h => by cases h), ⟨rfl, .inr ⟨W.heap.size, 0, #[], rfl, Nat.le_refl _, heap_alloc_last W _, Nat.le_refl _, Nat.zero_le _, rfl, rfl⟩⟩, (Below.refl _ _).alloc (Nat.le_refl _) _⟩
  case round =>
    rename_i wr
    obtain ⟨j, hj, rfl, A', c, L, rfl, hLj, hL, hO, hB⟩ := hrel
    by_cases hlt : j < zs.length
    · obtain ⟨p, rfl, x0, hcell⟩ := nums_at HV.out hlt (HB.out.trans (hB.mono HB.out.size))
      obtain ⟨x, hx, hx4⟩ := low3 x0 (k := 2) (m := 4) rfl (by omega)
      rw [show ((4 - 1 : Nat) : Int) = 3 from rfl] at hx
      have hj3 : (j : Int) < 3 := by have := H3.out; omega
      have hx4i : (x : Int) < 4 := by omega
      have hbr := hB.alloc hB.size (.cells #[.int .i64 (4 * (j : Int) + (x : Int))] 3)
      have hbs : W.heap.size ≤ (wr.alloc (.cells #[.int .i64 (4 * (j : Int) + (x : Int))] 3)).heap.size := hbr.size
      have R2 : Row (wr.alloc (.cells #[.int .i64 (4 * (j : Int) + (x : Int))] 3)) (wr.heap.size + 1) (some ⟨wr.heap.size, 0, none⟩) [.int .i64 (4 * (j : Int) + (x : Int))] := Row.new wr #[.int .i64 (4 * (j : Int) + (x : Int))] 3 (0, 0) wr.heap.size rfl (Nat.lt_succ_self _)
      have O2 := World.ownsRow.alloc hO (.cells #[.int .i64 (4 * (j : Int) + (x : Int))] 3)
      have HB2 := Lib.hid hbr
      have HOO := Lib.hid O2
      have HRR := Lib.hid R2
      have HL2 := Lib.hid (And.intro hLj (And.intro hL (And.intro hx4 hlt)))
      have hmx : j + 1 ≤ maxLen := by simp only [maxLen]; have := H3.out; omega
      have HM := Lib.hid hmx
      clear hbr R2 O2 hO hB hL hLj hmx hx4
      go_wp2_with (at_builtin; refine wpl_append_vals dintTy rfl (.tmp 39) (.tmp 45) rfl j rfl HOO.out _ _ _ [.int .i64 (4 * (j : Int) + (x : Int))] 1 rfl rfl HRR.out (by intro u hu; simp at hu; subst hu; rfl) (by omega) HM.out hbs (j + 1) rfl ?_; intro A8 c8 w8 O8 g8 h8)
      have b9 : Below W.heap.size W w8 := HB2.out.grown g8 hbs (fun k e => (World.ownsRow.lt HOO.out k e).1)
      have O9 : w8.ownsRow W.heap.size 3 1 (.slice A8 (j + 1) c8) (j + 1) (zv (L ++ [4 * j + x])) := by
        unfold zv
        rw [List.map_append]
        have e : (([4 * j + x] : List Nat).map fun z : Nat => Value.int .i64 (z : Int)) = [.int .i64 (4 * (j : Int) + (x : Int))] := by
          simp only [List.map_cons, List.map_nil]
          rw [show ((4 * j + x : Nat) : Int) = 4 * (j : Int) + (x : Int) by omega]
        rw [e]
        exact O8
      exact ⟨⟨j + 1, by omega, by go_num, A8, c8, _, rfl, by rw [List.length_append, HL2.out.1]; rfl, fun z hz => (by
        rcases List.mem_append.1 hz with q | q
        · exact HL2.out.2.1 z q
        · rw [List.mem_singleton.1 q]; have := HL2.out.2.2.1; omega), O9, b9⟩, by simp [intOf]; omega⟩
    · obtain rfl : j = zs.length := by omega
      obtain ⟨W2, hW2⟩ : ∃ W2, W2 = wr := ⟨_, rfl⟩
      subst hW2
      have hD2 := HD.out.after hB
      have hR2 := HR.out.after hB
      have hn4 := nums_own hO hLj hL
      have c0 := hD2.dk.cells.1
      have hll : (L.map fun z : Nat => (z : Int)).length = zs.length := by rw [List.length_map, hLj]
      have hsum : X0.l.losses + (if pr = true then (L.map fun z : Nat => (z : Int)).length else 0) + (if pr = true then 0 else (L.map fun z : Nat => (z : Int)).length) ≤ zs.length := by
        rw [hll, HL.out]
        cases pr <;> simp
      have k4 := hD2.fail pr _ _ (by rw [hll]; have := H3.out; omega) hn4 (Nat.le_trans hsum (by have := H3.out; omega))
      have HB2 := Lib.hid (HB.out.trans (hB.mono HB.out.size))
      have hH4 := Lib.hid (hasAll_told (pr := pr) (zs := L.map fun z : Nat => (z : Int)) HH.out)
      have HS2 := Lib.hid hsum
      have HR2 := Lib.hid hR2
      clear hD2 hn4 hll hO hB HD HL HB HV hLj hL hj hlt hsum hR2
      go_wp2_with fail
      ((with_reducible refine k4.mono ?_); rintro e w5 ⟨rfl, bb, hb, hD, hc⟩)
      have B5 : Hid (Below w.heap.size w w5) := Lib.hid (HB2.out.trans (hc.below (fun j q => by rw [q]; exact HF.out _ (.inl (.inl (.inl rfl)))) HB2.out.size))
      have hR5 := HR2.out.chg hc (fun q => HMG.out.1 (by rw [q]; exact .inl (.inl (.inl rfl)))) (fun q => HMG.out.2.1 (by rw [q]; exact .inl (.inl (.inl rfl))))
      have hb5 : w.heap.size ≤ bb := Nat.le_trans HB2.out.size hb
      have HM3 : Hid (¬ (a.told pr bb).disk t d m ∧ ¬ (a.told pr bb).disk t d g ∧ g ≠ 0) := Lib.hid ⟨told_not HMG.out.1 HR2.out.hd.lt hb, told_not HMG.out.2.1 HR2.out.rg.lt hb, HMG.out.2.2⟩
      obtain ⟨a3, ha3⟩ : ∃ a3, a3 = a.told pr bb := ⟨_, rfl⟩
      have HF3 : Hid (∀ j, a3.disk t d j → w.heap.size ≤ j) := Lib.hid (by rw [ha3]; exact told_far HF.out hb5)
      have HF4 : Hid (∀ j, (a3.disk t d j ∨ j = g) → w.heap.size ≤ j) := Lib.hid (fun j hj => by
        rcases hj with hj | rfl
        · exact HF3.out j hj
        · exact HG.out)
      rw [← ha3] at hD HM3
      obtain ⟨X3, hX3⟩ : ∃ X3, X3 = DS.mk (X0.S.told pr (L.map fun z : Nat => (z : Int))) X0.s X0.l X0.u := ⟨_, rfl⟩
      have T3 : Two7 w5 d t m g a3 X3 _ _ 1 zs.length (fun _ => []) (List.replicate 18 RB.blank) := ⟨by rw [hX3]; exact hD, by rw [hX3]; exact hH4.out, hR5, by simp, fun y B hB => (by
        rw [List.getElem?_replicate] at hB
        split at hB
        · cases hB; exact RelB.blank
        · cases hB), by rw [hX3]; exact HS2.out, HM3.out⟩
      obtain ⟨f3, e3, HD3⟩ : ∃ f3 e3, Hid (Two7 w5 d t m g a3 X3 f3 e3 1 zs.length (fun _ => []) (List.replicate 18 RB.blank)) := ⟨_, _, Lib.hid T3⟩
      clear k4 hD hc hb hb5 ha3 hX3 c0 HB2 T3 hR5 HR2 HS2 hH4 HH HR HMG HM3
      go_wp2_with fail
      go_loopw [57] (fun i wr => ∃ j : Nat, j ≤ os.length ∧ i = .int .i64 j ∧ ∃ (X : DS) (f e : Nat) (F : Nat → List (List UInt8)) (Bs : List RB), Two7 wr d t m g a3 X f e (1 + 5 * j) zs.length F Bs ∧ Below w.heap.size w wr) (fun i _ => os.length - (intOf i).toNat)
      case atStart => exact ⟨0, Nat.zero_le _, rfl, X3, f3, e3, _, _, HD3.out, B5.out⟩
      case round =>
        rename_i wr
        obtain ⟨j, hj, rfl, X, f, e, F, Bs, hD, hB⟩ := hrel
        clear HD3 B5
        by_cases hlt : j < os.length
        · obtain ⟨p, rfl, hok, hld⟩ := HS.out.at_ hlt hB
          obtain ⟨o, ho⟩ : ∃ o, o = os[j] := ⟨_, rfl⟩
          rw [← ho] at hok hld
          obtain ⟨y, hy⟩ := u8_wf hok.byte
          have O2 := Blk.new wr 35 zOp7
          have hs7 := segSet_all (show zOp7.length = o.row.length from rfl)
          have hb6 : ∀ X, (wr.alloc (.cells zOp7.toArray 35)).grownBy X (some wr.heap.size) → Below wr.heap.size wr X := fun X g => ((Below.refl wr.heap.size wr).alloc (Nat.le_refl _) _).grown g (by simp) (fun k e => Nat.le_of_eq (Option.some.inj e))
          have hj60 : (j : Int) < 60 := by have := H60.out; omega
          have dlt : decide ((j : Int) < (os.length : Int)) = true := by simp; omega
          have hgp : Hid (¬ a3.disk t d wr.heap.size) := Lib.hid (fun q => Nat.lt_irrefl _ (hD.one.all_lt _ q))
          have hgg : Hid (¬ (a3.disk t d wr.heap.size ∨ wr.heap.size = g)) := Lib.hid (fun q => by
            rcases q with q | q
            · exact hgp.out q
            · have := hD.rd.rg.lt; omega)
          have HJ : Hid (j < 60) := Lib.hid (by have := H60.out; omega)
          have HRL := Lib.hid (show o.row.length = 7 from rfl)
          obtain ⟨x, hx, hx4⟩ := low3 o.k (k := 2) (m := 4) rfl (by omega)
          rw [show ((4 - 1 : Nat) : Int) = 3 from rfl] at hx
          have HLT := Lib.hid hlt
          have HD := Lib.hid hD
          have HB := Lib.hid hB
          have HY := Lib.hid hy
          clear hD hB hok ho hj hy hlt
          by_cases c0 : x = 0
          · subst c0
            rw [show ((0 : Nat) : Int) = 0 from rfl] at hx
            clear hx4
            have hke := fun (W : World) (hW : Below wr.heap.size wr W) => (HD.out.after hW).eraseD (by have := HJ.out; omega) o.b
            obtain ⟨q, hq⟩ : ∃ q, q = there 24 o.b 0 := ⟨_, rfl⟩
            have HQ := Lib.hid hq
            clear hq
            cases q with
            | true =>
              rw [show eraE 24 o.b = 0 by unfold eraE; rw [← HQ.out]; rfl] at hke
              have KE := Lib.hid hke
              clear hke
              go_wp2_with (first
                | (with_reducible refine wpl_o7load (.tmp 60) rfl rfl rfl hld ?_)
                | ((with_reducible refine wpl_seg_store sizeOp7 (.tmp 13) (.tmp 61) rfl rfl O2 0 o.row rfl (Nat.le_refl _) (Op7.one _) rfl rfl _ hs7 ?_); intro w6 O6 g6 e6; clear e6; have B6 := hb6 _ g6; have q0 : w6.cell? ⟨wr.heap.size, 0, none⟩ = some (.int .i64 o.k) := O6.cell 0; have q1 : w6.cell? ⟨wr.heap.size, 1, none⟩ = some (.int .i64 o.b) := O6.cell 1; have k6 := KE.out _ B6)
                | ((with_reducible refine k6.mono ?_); rintro e w7 ⟨rfl, X', f', e', hH7, hc⟩; have O7 := O6.chg hc hgp.out; have p0 : w7.cell? ⟨wr.heap.size, 0, none⟩ = some (.int .i64 o.k) := O7.cell 0; have p1 : w7.cell? ⟨wr.heap.size, 1, none⟩ = some (.int .i64 o.b) := O7.cell 1; have kt := there_any hH7.rd hH7.len o.b 0; rw [← HQ.out] at kt; have ke := hH7.eraseM HQ.out.symm; have B7 := chg_far (HB.out.trans (B6.mono HB.out.size)) hc HF3.out; clear k6 hc hH7)
                | ((with_reducible refine kt.mono ?_); rintro e w8 ⟨rfl, rfl⟩)
                | ((with_reducible refine ke.mono ?_); rintro e w9 ⟨rfl, F', Bs', hT9, hc9⟩; have B9 := B7.trans ((hc9.below (fun j e => by rw [e]; exact HG.out) B7.size)); have kw := hT9.whole; clear ke kt)
                | ((with_reducible refine kw.mono ?_); rintro e w10 ⟨rfl, b10⟩; have T10 := hT9.after b10; have B10 := B9.trans (b10.mono B9.size); have kl := T10.one.lost; have hnl : X'.l.losses ≤ zs.length := (by have := T10.sum; omega))
                | ((with_reducible refine kl.mono ?_); rintro e w11 ⟨rfl, rfl⟩))
              exact ⟨⟨j + 1, by have := HLT.out; omega, by go_num, X', f', e', _, _, T10, B10⟩, by have := HLT.out; simp [intOf]; omega⟩
            | false =>
              rw [show eraE 24 o.b = 1 by unfold eraE; rw [← HQ.out]; rfl] at hke
              have KE := Lib.hid hke
              clear hke
              go_wp2_with (first
                | (with_reducible refine wpl_o7load (.tmp 60) rfl rfl rfl hld ?_)
                | ((with_reducible refine wpl_seg_store sizeOp7 (.tmp 13) (.tmp 61) rfl rfl O2 0 o.row rfl (Nat.le_refl _) (Op7.one _) rfl rfl _ hs7 ?_); intro w6 O6 g6 e6; clear e6; have B6 := hb6 _ g6; have q0 : w6.cell? ⟨wr.heap.size, 0, none⟩ = some (.int .i64 o.k) := O6.cell 0; have q1 : w6.cell? ⟨wr.heap.size, 1, none⟩ = some (.int .i64 o.b) := O6.cell 1; have k6 := KE.out _ B6)
                | ((with_reducible refine k6.mono ?_); rintro e w7 ⟨rfl, X', f', e', hH7, hc⟩; have O7 := O6.chg hc hgp.out; have p0 : w7.cell? ⟨wr.heap.size, 0, none⟩ = some (.int .i64 o.k) := O7.cell 0; have p1 : w7.cell? ⟨wr.heap.size, 1, none⟩ = some (.int .i64 o.b) := O7.cell 1; have kt := there_any hH7.rd hH7.len o.b 0; rw [← HQ.out] at kt; have hT9 := hH7.kept HQ.out.symm; have kw := hT9.whole; have B7 := chg_far (HB.out.trans (B6.mono HB.out.size)) hc HF3.out; clear k6 hc hH7; try clear O7)
                | ((with_reducible refine kt.mono ?_); rintro e w8 ⟨rfl, rfl⟩)
                | ((with_reducible refine kw.mono ?_); rintro e w10 ⟨rfl, b10⟩; have T10 := hT9.after b10; have B10 := B7.trans (b10.mono B7.size); have kl := T10.one.lost; have hnl : X'.l.losses ≤ zs.length := (by have := T10.sum; omega))
                | ((with_reducible refine kl.mono ?_); rintro e w11 ⟨rfl, rfl⟩))
              exact ⟨⟨j + 1, by have := HLT.out; omega, by go_num, X', f', e', _, _, T10, B10⟩, by have := HLT.out; simp [intOf]; omega⟩
          · have hx0 : (0 : Int) < (x : Int) := by omega
            have dx : decide ((0 : Int) < (x : Int)) = true := decide_eq_true hx0
            have ex : ((x : Int) == 0) = false := by simpa using c0
            clear c0 hx4
            have hkp := fun (W : World) (hW : Below wr.heap.size wr W) => (HD.out.after hW).program (by have := HJ.out; omega) o y HY.out j HJ.out
            have KP := Lib.hid hkp
            clear hkp
            go_wp2_with (first
              | (with_reducible refine wpl_o7load (.tmp 60) rfl rfl rfl hld ?_)
              | ((with_reducible refine wpl_seg_store sizeOp7 (.tmp 13) (.tmp 61) rfl rfl O2 0 o.row rfl (Nat.le_refl _) (Op7.one _) rfl rfl _ hs7 ?_); intro w6 O6 g6 e6; clear e6; have B6 := hb6 _ g6; have q0 : w6.cell? ⟨wr.heap.size, 0, none⟩ = some (.int .i64 o.k) := O6.cell 0; have k6 := KP.out _ B6)
              | (with_reducible refine wpl_seg_load aggOp7 sizeOp7 (.tmp 13) rfl rfl O6 0 o.row rfl rfl rfl ?_)
              | ((with_reducible refine k6.mono ?_); rintro e w7 ⟨r, rfl, hr, X', f', e', F', Bs', hT9, hc⟩; have O7 := O6.chg hc hgg.out; have p0 : w7.cell? ⟨wr.heap.size, 0, none⟩ = some (.int .i64 o.k) := O7.cell 0; have kw := hT9.whole; have B7 := (HB.out.trans (B6.mono HB.out.size)).trans (hc.below HF4.out (HB.out.trans (B6.mono HB.out.size)).size); clear k6 hc)
              | ((with_reducible refine kw.mono ?_); rintro e w10 ⟨rfl, b10⟩; have T10 := hT9.after b10; have B10 := B7.trans (b10.mono B7.size); have kl := T10.one.lost; have hnl : X'.l.losses ≤ zs.length := (by have := T10.sum; omega))
              | ((with_reducible refine kl.mono ?_); rintro e w11 ⟨rfl, rfl⟩))
            exact ⟨⟨j + 1, by have := HLT.out; omega, by go_num, X', f', e', _, _, T10, B10⟩, by have := HLT.out; simp [intOf]; omega⟩
        · obtain rfl : j = os.length := by omega
          have dlt : decide ((os.length : Int) < (os.length : Int)) = false := by simp
          have HB := Lib.hid hB
          clear hD hB hlt hj HS
          go_wp2_with fail
          go_ret
          exact ⟨rfl, HB.out⟩
set_option maxRecDepth 100000 in
set_option maxHeartbeats 4000000 in
theorem diskPlays_any (v v2 : Value) (pr : Bool) (w : World) (ht : Tab w) (hs : ∃ os, Script7 w w.heap.size v os) (hv : ∃ zs, Nums w w.heap.size .i64 v2 zs) :
    Calls Tryz.prog 3 #[v, v2, .bool pr] w fun e w' => e = .returned (.bool true) ∧ Below w.heap.size w w' := by
  obtain ⟨zs, hv⟩ := hv
  obtain ⟨os, hs⟩ := hs
  obtain ⟨A2, cap2, rfl, _⟩ := id hv
  obtain ⟨A, cap, rfl, _⟩ := id hs
  have ks := dspeaks_any w ht
  by_cases h60 : os.length ≤ 60
  · by_cases h3 : zs.length ≤ 3
    · exact plays_main A cap os A2 cap2 zs pr w ht hs hv h60 h3
    · have d1 : decide ((60 : Int) < (os.length : Int)) = false := by simp; omega
      have d2 : decide ((3 : Int) < (zs.length : Int)) = true := by simp; omega
      clear hv hs ht h60 h3
      go_enter Tryz.func3, Tryz.ntmps3
      go_wp2_with ((with_reducible refine ks.mono ?_); rintro e w1 ⟨rfl, b1⟩)
      go_ret
      exact ⟨rfl, b1⟩
  · have d1 : decide ((60 : Int) < (os.length : Int)) = true := by simp; omega
    clear hv hs ht h60
    go_enter Tryz.func3, Tryz.ntmps3
    go_wp2_with ((with_reducible refine ks.mono ?_); rintro e w1 ⟨rfl, b1⟩)
    go_ret
    exact ⟨rfl, b1⟩
end Go.Proofs.YtaafelhjcmgkdaaGreatDoor

