/- The walk of BbtApart: it answers true, and changes nothing that was there. Condition: the table of the check sum holds its sixteen numbers. -/
import Derived.Test.YtnemlbnmnijghaaDoorQBbtGood
import Derived.Test.YtnemlbnmnijghaaDoorQBbtNone
import Derived.Test.YtnemlbnmnijghaaDoorQMapB
namespace Go.Proofs.YtnemlbnmnijghaaDoor
open Go.RowKit Go.Maps
theorem losses_few {n : Nat} {zs : List Int} (f : Nat → Bool) (hf : ∀ b, b < n → f b = true → (b : Int) ∈ zs) (hn : n ≤ 40) : (Lay.mark n f n).lossesTo n ≤ zs.length := by
  have h1 : (Lay.mark n f n).lossesTo n = ((Lay.mark n f n).lostTo n).length := rfl
  have h2 := nodup_len ((Lay.mark n f n).lostTo n) (zs.map Int.toNat) (List.Nodup.sublist List.filter_sublist List.nodup_range) (fun x hx => by
    obtain ⟨q1, q2⟩ := mem_lostTo.1 hx
    rw [mark_lost n f hn, Bool.and_eq_true] at q2
    exact List.mem_map.2 ⟨_, hf x q1 q2.2, by simp⟩)
  rw [List.length_map] at h2
  omega
/-- a chip with few bad blocks refuses a table only for one of the table's own -/
theorem fresh_refused {zs : List Int} (h4 : zs.length ≤ 4) (h : (Ch.marked 30 zs).fresh = none) : (Ch.marked 30 zs).isBad 0 = true ∨ (Ch.marked 30 zs).isBad 1 = true := by
  have hl : (Ch.marked 30 zs).bs.length = 30 := markB_length 30 zs
  unfold Ch.fresh Lay.fresh at h
  rw [hl] at h
  split at h
  · rename_i hr
    have hc := losses_few (n := 30) (zs := zs) (Ch.marked 30 zs).badAt (fun b hb q => by rw [marked_bad hb] at q; exact of_decide_eq_true q) (by omega)
    have hm := fun c => mark_lost 30 (Ch.marked 30 zs).badAt (c := c) (by omega)
    unfold Lay.markRefuse at hr
    rw [hm, hm] at hr
    have e : (Lay.mark 30 (Ch.marked 30 zs).badAt 30).losses = (Lay.mark 30 (Ch.marked 30 zs).badAt 30).lossesTo 30 := rfl
    rw [e, decide_eq_false (show ¬ 4 < _ by omega)] at hr
    have e0 : (Ch.marked 30 zs).badAt 0 = (Ch.marked 30 zs).isBad 0 := rfl
    have e1 : (Ch.marked 30 zs).badAt 1 = (Ch.marked 30 zs).isBad 1 := rfl
    rw [e0, e1] at hr
    cases h0 : (Ch.marked 30 zs).isBad 0 with
    | true => exact .inl rfl
    | false =>
      cases h1 : (Ch.marked 30 zs).isBad 1 with
      | true => exact .inr rfl
      | false => rw [h0, h1] at hr; cases hr
  · cases h
theorem marked_isBad {N : Nat} {zs : List Int} {b : Nat} (hb : b < N) : (Ch.marked N zs).isBad (b : Int) = decide ((b : Int) ∈ zs) := marked_bad hb
/-- what the table of a new chip is -/
theorem fresh_marked {N : Nat} (hN : 16 ≤ N ∧ N ≤ 40) {zs : List Int} {l : Lay} (h : (Ch.marked N zs).fresh = some l) : l.good ∧ l.n = N ∧ (0 : Int) ∉ zs ∧ (1 : Int) ∉ zs ∧ ∀ b : Nat, b < N → (b : Int) ∈ zs → l.lostAt b = true := by
  have hl : (Ch.marked N zs).bs.length = N := markB_length N zs
  unfold Ch.fresh at h
  rw [hl] at h
  obtain ⟨h1, h2, h3⟩ := fresh_good h hN.1 hN.2
  have hb : ∀ b : Nat, b < N → l.lostAt b = decide ((b : Int) ∈ zs) := fun b hb => by
    rw [h3, marked_bad hb, decide_eq_true hb, Bool.true_and]
  refine ⟨h1, h2, fun q => ?_, fun q => ?_, fun b hb' q => by rw [hb b hb']; exact decide_eq_true q⟩
  · have := h1.own.1
    rw [hb 0 (by omega)] at this
    exact of_decide_eq_false this q
  · have := h1.own.2
    rw [hb 1 (by omega)] at this
    exact of_decide_eq_false this q
/-- a table in the midst of a script: its layout is good, and has all bad blocks lost -/
structure Mid (w : World) (a : At) (t : Nat) (zs : List Int) (n : Nat) (S : Ch) (s : NM.Pwr) (l : Lay) : Prop where
  dev : Dev w a S s
  tb : Tb w t a l
  good : l.good
  sz : l.n = 30
  same : SameB (Ch.marked 30 zs).bs S.bs
  bad : ∀ b : Nat, b < 30 → (b : Int) ∈ zs → l.lostAt b = true
  few : S.few n
section
variable {w w' : World} {a : At} {t n : Nat} {zs : List Int} {S : Ch} {s : NM.Pwr} {l : Lay}
theorem Mid.after (h : Mid w a t zs n S s l) (hb : Below w.heap.size w w') : Mid w' a t zs n S s l := ⟨h.dev.after hb, h.tb.after hb, h.good, h.sz, h.same, h.bad, h.few⟩
theorem Mid.chg {T : Nat → Prop} (h : Mid w a t zs n S s l) (hc : Chg w w' T) (hT : ∀ k, a.all k ∨ k = 0 ∨ k = t → ¬ T k) : Mid w' a t zs n S s l :=
  ⟨h.dev.chg hc (fun k hk => hT k (hk.elim .inl (fun e => .inr (.inl e)))), h.tb.chg hc (hT t (.inr (.inr rfl))), h.good, h.sz, h.same, h.bad, h.few⟩
theorem Mid.call (h : Mid w a t zs n S s l) (hn : n ≤ 999000) (o : Op5) (b : Int) : Calls Tryd.prog 19 #[.pointer (some ⟨t, 0, none⟩), .agg o.row.toArray, .int .i64 b] w fun e w' => (∃ z : Int, e = .returned (.int .i64 z)) ∧ (∃ S' s' l', Mid w' a t zs (n + 24) S' s' l') ∧ Chg w w' (fun j => a.all j ∨ j = t) := by
  refine (bdo_any o h.tb h.good.ok h.good.at40 h.dev (few_le (by omega) h.few) b).mono ?_
  rintro e w' ⟨rfl, d, t', c⟩
  obtain ⟨g1, g2, g3⟩ := good_doing (S := S) (s := s) o b h.good
  exact ⟨⟨_, rfl⟩, ⟨_, _, _, ⟨d, t', g1, g2.trans h.sz, h.same.trans (same_doing S s l o b), fun c hc q => g3 c (h.bad c hc q), few_doing S s l o b n h.few⟩⟩, c⟩
theorem Mid.notBad (h : Mid w a t zs n S s l) {b : Nat} (hb : b < 30) (hl : l.lostAt b = false) : S.isBad (b : Int) = false := by
  rw [isBad_same h.same, marked_isBad hb]
  refine decide_eq_false fun q => ?_
  rw [h.bad b hb q] at hl
  cases hl
end
/-- THE WALK -/
theorem Script5.get {w : World} {B : Nat} {A : Option Addr} {c : Nat} {os : List Op5} (h : Script5 w B (.slice A os.length c) os) {i : Nat} (hi : i < os.length) {w' : World} (hb : Below B w w') :
    ∃ p o, A = some p ∧ os[i]? = some o ∧ o.ok ∧ (loadVar 39 (p.add (i * 5))).run Tryd.prog w' = .ok (.agg o.row.toArray) w' := by
  obtain ⟨p, h1, h2, h3⟩ := h.at_ hi hb
  exact ⟨p, _, h1, List.getElem?_eq_getElem hi, h2, h3⟩
theorem seg5 {a b : List Value} (h1 : a.length = 5) (h2 : b.length = 5) : segSet a 0 b = b := segSet_all (h1.trans h2.symm)
set_option maxRecDepth 100000 in
set_option maxHeartbeats 16000000 in
theorem apart_main (A : Option Addr) (cap : Nat) (zs : List Int) (A2 : Option Addr) (c2 : Nat) (os : List Op5) (w : World) (ht : Tab w) (hv : Nums w w.heap.size .i64 (.slice A zs.length cap) zs) (hs : Script5 w w.heap.size (.slice A2 os.length c2) os) (h4 : zs.length ≤ 4) (h30 : os.length ≤ 30) (hz : badOut 30 zs = false) :
    Calls Tryd.prog 7 #[.slice A zs.length cap, .slice A2 os.length c2] w fun e w' => e = .returned (.bool true) ∧ Below w.heap.size w w' := by
  have d1 : decide ((4 : Int) < (zs.length : Int)) = false := by simp; omega
  have d2 : decide ((30 : Int) < (os.length : Int)) = false := by simp; omega
  have ks := bbtspeaks_any w ht
  have HV := Lib.hid hv
  have HS := Lib.hid hs
  have HT := Lib.hid ht
  have HZ := Lib.hid hz
  have H4 := Lib.hid h4
  have H30 := Lib.hid h30
  have zo := zeroOp5
  have hmm := @run_makeMap Tryd.prog
  clear hv hs ht hz h4 h30
  go_enter Tryd.func7, Tryd.ntmps7
  go_wp2_with ((with_reducible refine ks.mono ?_); rintro e w1 ⟨rfl, b1⟩)
  have B1 := Lib.hid b1
  have k0 := newpower_any w1
  clear b1 ks
  go_wp2_with ((with_reducible refine k0.mono ?_); rintro e w2 ⟨rfl, P2, b2⟩)
  have B2 : Hid (Below w.heap.size w w2) := Lib.hid (B1.out.trans (b2.mono B1.out.size))
  have hv2 : Nums w2 w2.heap.size .i64 (.slice A zs.length cap) zs := by
    obtain ⟨A', cap', ev, hl1, hl2, hrow, hwf⟩ := HV.out
    exact ⟨A', cap', ev, hl1, hl2, (hrow.below B2.out).more B2.out.size, hwf⟩
  have k1 := devNew HT.out B2.out w1.heap.size B1.out.size P2 30 (by omega) zs _ hv2 HZ.out
  rw [show ((30 : Nat) : Int) = 30 from rfl] at k1
  have hf := Lib.hid (behind_new (g := w2.heap.size) (p := w1.heap.size) (B := w.heap.size) B2.out.size B1.out.size)
  clear P2 b2 k0 hv2
  go_wp2_with fail
  ((with_reducible refine k1.mono ?_); rintro e w3 ⟨rfl, D3, b3⟩)
  have B3 : Hid (Below w.heap.size w w3) := Lib.hid (B2.out.trans (b3.mono B2.out.size))
  obtain ⟨a, ha⟩ : ∃ a : At, a = ⟨w2.heap.size + 1, w2.heap.size, w1.heap.size, none, none⟩ := ⟨_, rfl⟩
  have hac : w2.heap.size + 1 = a.c := by rw [ha]
  rw [hac]
  rw [← ha] at D3 hf
  have HD3 := Lib.hid D3
  clear b3 k1 ha hac D3 B1 B2
  cases hfr : (Ch.marked 30 zs).fresh with
  | none =>
    have k3 := format_worn HD3.out (marked_may (by omega) zs) hfr
    have hbad := fresh_refused H4.out hfr
    have k4 := fun X hX b => isbad_any a (Ch.marked 30 zs) b X hX
    have K4 := Lib.hid k4
    clear hfr k4
    go_wp2_with ((with_reducible refine k3.mono ?_); rintro e w4 ⟨rfl, b4⟩; have D4 := HD3.out.after b4; have q0 := K4.out _ D4.pc 0; have q1 := K4.out _ D4.pc 1)
    have B4 : Below w.heap.size w w4 := B3.out.trans (b4.mono B3.out.size)
    obtain ⟨x0, hx0⟩ : ∃ x, x = (Ch.marked 30 zs).isBad 0 := ⟨_, rfl⟩
    obtain ⟨x1, hx1⟩ : ∃ x, x = (Ch.marked 30 zs).isBad 1 := ⟨_, rfl⟩
    rw [← hx0] at q0 hbad
    rw [← hx1] at q1 hbad
    clear hx0 hx1 K4 D4
    cases x0 with
    | true =>
      go_wp2_with ((with_reducible refine q0.mono ?_); rintro e w5 ⟨rfl, rfl⟩)
      go_ret
      exact ⟨rfl, B4⟩
    | false =>
      cases x1 with
      | true =>
        go_wp2_with (first
          | ((with_reducible refine q0.mono ?_); rintro e w5 ⟨rfl, rfl⟩)
          | ((with_reducible refine q1.mono ?_); rintro e w5 ⟨rfl, rfl⟩))
        go_ret
        exact ⟨rfl, B4⟩
      | false => rcases hbad with h | h <;> cases h
  | some l =>
    obtain ⟨hg, hsz, h0, h1, hbl⟩ := fresh_marked (by omega) hfr
    obtain ⟨S', ek, hcm, hK, hln, _⟩ := (marked_calm (N := 30) (by omega) h0 h1).first (marked_blank (b := 0) (by omega) h0) (marked_blank (b := 1) (by omega) h1) hg.ok
    have k3 := format_main l HD3.out (marked_may (by omega) zs) hfr (marked_few _ _ _)
    have hsame := same_keep (Ch.marked 30 zs) NM.Pwr.fresh l
    have hfew := few_keep (Ch.marked 30 zs) NM.Pwr.fresh l 0 (marked_few _ _ _)
    rw [ek] at k3 hsame hfew
    simp only [tptr_ok] at k3 hsame hfew
    clear hcm hK hln h0 h1 hfr ek
    have HG := Lib.hid (And.intro hg (And.intro hsz (And.intro hbl (And.intro hsame hfew))))
    clear hg hsz hbl hsame hfew
    go_wp2_with fail
    ((with_reducible refine k3.mono ?_); rintro e w4 ⟨t, htl, rfl, D4, hT4, c4⟩)
    have M4 : Mid w4 a t zs 24 S' NM.Pwr.fresh l := ⟨D4, hT4 trivial, HG.out.1, HG.out.2.1, HG.out.2.2.2.1, HG.out.2.2.1, HG.out.2.2.2.2⟩
    have B4 : Hid (Below w.heap.size w w4) := Lib.hid (Below.chgAll B3.out c4 hf.out (Nat.le_refl _))
    have HM4 := Lib.hid M4
    have HTL : Hid (w.heap.size ≤ t) := Lib.hid (Nat.le_trans B3.out.size htl)
    clear k3 htl D4 hT4 c4 M4 HD3 B3 HG
    go_wp2_with fail
    go_loopw [51] (fun i wr => ∃ j : Nat, j ≤ os.length ∧ i = .int .i64 j ∧ (∃ S s l, Mid wr a t zs (24 + 24 * j) S s l) ∧ Below w.heap.size w wr) (fun i _ => os.length - (intOf i).toNat)
    case atStart => exact ⟨0, Nat.zero_le _, rfl, ⟨_, _, _, HM4.out⟩, B4.out⟩
    case round =>
      obtain ⟨j, hj, rfl, ⟨S, s, l, hM⟩, hB⟩ := hrel
      clear HM4 B4
      have HM := Lib.hid hM
      have HB := Lib.hid hB
      by_cases hlt : j < os.length
      · obtain ⟨p, o, rfl, _, _, hld⟩ := HS.out.get hlt hB
        have O2 := Blk.new wr 39 zOp5
        have hs5 := seg5 (a := zOp5) (b := o.row) rfl rfl
        have hn : Hid (24 + 24 * j ≤ 999000) := Lib.hid (by have := H30.out; omega)
        have hb6 : ∀ X, (wr.alloc (.cells zOp5.toArray 39)).grownBy X (some wr.heap.size) → Below wr.heap.size wr X := fun X g => ((Below.refl wr.heap.size wr).alloc (Nat.le_refl _) _).grown g (by simp) (fun k e => Nat.le_of_eq (Option.some.inj e))
        have hcel : ∀ X, Blk X wr.heap.size 39 o.row → X.cell? ⟨wr.heap.size, 2, none⟩ = some (.int .i64 o.b) ∧ X.cell? ⟨wr.heap.size, 3, none⟩ = some (.bool o.least) := fun X hX => ⟨hX.cell 2, hX.cell 3⟩
        have hkd : ∀ X (b : Int), Below wr.heap.size wr X → _ := fun X b hb => (HM.out.after hb).call hn.out o b
        have hks : ∀ X, Below wr.heap.size wr X → _ := fun X hb => tspare_any (HM.out.after hb).tb HM.out.good.ok
        have KD := Lib.hid hkd
        have KS := Lib.hid hks
        have hj30 : (j : Int) < 30 := by have := H30.out; omega
        have HO5 : Hid (o.row.length = 5) := Lib.hid rfl
        have HJ := Lib.hid hlt
        obtain ⟨ls, hls⟩ : ∃ ls, ls = o.least := ⟨_, rfl⟩
        rw [← hls] at hcel
        clear hM hB hkd hks hls
        have HEND : ∀ W7 : World, (∃ S' s' l', Mid W7 a t zs (24 + 24 * j + 24) S' s' l') → Below w.heap.size w W7 → (∃ j', j' ≤ os.length ∧ Value.int .i64 ((j : Int) + 1) = .int .i64 (j' : Nat) ∧ (∃ S s l, Mid W7 a t zs (24 + 24 * j') S s l) ∧ Below w.heap.size w W7) := fun W7 h1 h2 => ⟨j + 1, by have := HJ.out; omega, by go_num, by rw [show 24 + 24 * (j + 1) = 24 + 24 * j + 24 by omega]; exact h1, h2⟩
        have HE := Lib.hid HEND
        clear HEND
        have hcg : ∀ X Y, Below wr.heap.size wr X → Chg X Y (fun k => a.all k ∨ k = t) → Below w.heap.size w Y := fun X Y h1 c => (HB.out.trans (h1.mono HB.out.size)).trans (c.below (fun k h => h.elim (hf.out k) (fun e => e ▸ HTL.out)) (Nat.le_trans HB.out.size h1.size))
        have HCG := Lib.hid hcg
        clear hcg
        cases ls with
        | true =>
          go_wp2_with (first
            | (with_reducible refine wpl_o5load (.tmp 53) rfl rfl rfl hld ?_)
            | (with_reducible refine wpl_seg_store sizeOp5 (.tmp 10) (.tmp 54) rfl rfl O2 0 o.row rfl (Nat.le_refl _) (Op5.one _) rfl rfl _ hs5 ?_; intro w6 O6 g6 e6; clear e6; have B6 := hb6 _ g6; have c6 := (hcel _ O6).1; have c7 := (hcel _ O6).2; have k7 := KS.out _ B6)
            | ((with_reducible refine k7.mono ?_); rintro e w7 ⟨rfl, k, rfl⟩; have O7 : Blk (w6.drewN k) wr.heap.size 39 o.row := O6; have B7 : Below wr.heap.size wr (w6.drewN k) := B6.trans ((drewN_below w6 k).mono B6.size); have k8 := KD.out _ ((l.spare.getD 0 : Nat) : Int) B7)
            | (with_reducible refine wpl_seg_load aggOp5 sizeOp5 (.tmp 10) rfl rfl O7 0 o.row rfl rfl rfl ?_)
            | ((with_reducible refine k8.mono ?_); rintro e w8 ⟨⟨z, rfl⟩, M8, c8⟩))
          exact ⟨HE.out _ M8 (HCG.out _ _ B7 c8), by have := HJ.out; simp [intOf]; omega⟩
        | false =>
          go_wp2_with (first
            | (with_reducible refine wpl_o5load (.tmp 53) rfl rfl rfl hld ?_)
            | (with_reducible refine wpl_seg_store sizeOp5 (.tmp 10) (.tmp 54) rfl rfl O2 0 o.row rfl (Nat.le_refl _) (Op5.one _) rfl rfl _ hs5 ?_; intro w6 O6 g6 e6; clear e6; have B6 := hb6 _ g6; have c6 := (hcel _ O6).1; have c7 := (hcel _ O6).2; have k8 := KD.out _ o.b B6)
            | (with_reducible refine wpl_seg_load aggOp5 sizeOp5 (.tmp 10) rfl rfl O6 0 o.row rfl rfl rfl ?_)
            | ((with_reducible refine k8.mono ?_); rintro e w8 ⟨⟨z, rfl⟩, M8, c8⟩))
          exact ⟨HE.out _ M8 (HCG.out _ _ B6 c8), by have := HJ.out; simp [intOf]; omega⟩
      · obtain rfl : j = os.length := by omega
        have O5 : (wr.alloc (.map #[] 0)).ownsMap (H := Unit) Tryd.prog 3 (plainElem Tryd.prog 4) wr.heap.size 0 (.map []) := World.ownsMap_made wr _ _ _
        have HM5 := Lib.hid (hM.after ((Below.refl _ _).alloc (Nat.le_refl _) (.map #[] 0)))
        have HB5 := Lib.hid (hB.alloc hB.size (.map #[] 0))
        have hfar : ∀ k, a.all k ∨ k = 0 ∨ k = t → k < wr.heap.size := fun k hk => by
          rcases hk with h | rfl | rfl
          · exact hM.dev.lt k h
          · exact hM.dev.tab.lt
          · exact hM.tb.blk.lt
        have hgd := hM.good
        have h24 : l.n - 6 = 24 := by rw [hM.sz]
        have hwm : w.heap.size ≤ wr.heap.size := hB.size
        clear hM hB HM HB hlt hj HS H30 HV
        go_wp2_with fail
        obtain ⟨M, hMM⟩ : ∃ M, M = wr.heap.size := ⟨_, rfl⟩
        rw [← hMM] at O5 hfar hwm
        simp only [← hMM]
        obtain ⟨W5, hW5⟩ : ∃ W5, W5 = wr.alloc (.map #[] 0) := ⟨_, rfl⟩
        rw [← hW5] at O5 HM5 HB5 ⊢
        have HFA := Lib.hid hfar
        have HGD := Lib.hid hgd
        have H24 := Lib.hid h24
        have HWM := Lib.hid hwm
        clear hW5 hMM hfar hgd h24 hwm
        go_loopw [13] (fun i wx => ∃ k : Nat, k ≤ 24 ∧ i = .int .i64 k ∧ ∃ D : DataW Unit, wx.ownsMap Tryd.prog 3 (plainElem Tryd.prog 4) M k D ∧ InD D ((l.used.take k).map Int.ofNat) ∧ W5.grownBy wx (some M)) (fun i _ => 24 - (intOf i).toNat)
        case atStart => exact ⟨0, Nat.zero_le _, rfl, .map [], O5, InD.nil, World.grownBy.refl _ _⟩
        case round =>
          obtain ⟨k, hk, rfl, D, hown, hD, hg⟩ := hrel
          clear O5
          have HO := Lib.hid hown
          have HD := Lib.hid hD
          have HG := Lib.hid hg
          have hm := Lib.hid (HM5.out.chg (Chg.of_grown hg (fun k e => Option.some.inj e) : Chg W5 wr (fun k => k = M)) (fun q hq e => by have := HFA.out q hq; omega))
          have q1 := tlen_any hm.out.tb HGD.out.ok
          rw [H24.out, show ((24 : Nat) : Int) = 24 from rfl] at q1
          clear hown hD hg
          have hused : l.used.length = 24 := (Lay.used_length HGD.out.ok).trans H24.out
          by_cases hlt : k < 24
          · have q2 := tat_any hm.out.tb HGD.out.ok (k : Int)
            have hat : l.atOf (k : Int) = l.used.getD k 0 := by
              unfold Lay.atOf
              rw [H24.out, if_pos ⟨by omega, by omega⟩, Int.toNat_natCast]
              unfold Lay.used
              rw [H24.out, List.getD_eq_getElem?_getD, List.getD_eq_getElem?_getD, List.getElem?_take_of_lt hlt]
            rw [hat, H24.out, decide_eq_true (show (0 : Int) ≤ (k : Int) ∧ (k : Int) < ((24 : Nat) : Int) by omega)] at q2
            have hget : l.used[k]? = some (l.used.getD k 0) := by
              rw [List.getD_eq_getElem?_getD, List.getElem?_eq_getElem (by omega)]
              rfl
            have hmem : l.used.getD k 0 ∈ l.used := List.mem_of_getElem? hget
            have htk := take_snoc l.used hget
            have hnot : l.used.getD k 0 ∉ l.used.take k := fun h => by
              have hd := HGD.out.nd
              rw [← List.take_append_drop (k + 1) l.used, List.nodup_append] at hd
              have h1 := hd.1
              rw [htk, List.nodup_append] at h1
              exact h1.2.2 _ h _ (List.mem_singleton.2 rfl) rfl
            obtain ⟨y2, yn, yl⟩ := HGD.out.inn _ hmem
            obtain ⟨y, hy⟩ : ∃ y, y = l.used.getD k 0 := ⟨_, rfl⟩
            rw [← hy] at q2 htk hnot y2 yn yl
            have hs30 := hm.out.sz
            have q3 := isbad_any a S (y : Int) wr hm.out.dev.pc
            rw [hm.out.notBad (by omega) yl] at q3
            have hy1 : (2 : Int) ≤ (y : Int) := by omega
            have hy2 : (y : Int) < 30 := by omega
            have hwf : Hid ((Lit.int .i64 (y : Int)).wf = true) := Lib.hid (wfI (by omega) (by omega))
            have hat' : Hid (D.atKey (.int .i64 (y : Int)) (.lit (.bool false)) = .lit (.bool false)) := Lib.hid (by
              rw [HD.out, decide_eq_false]
              intro h
              obtain ⟨b, hb, e⟩ := List.mem_map.1 h
              have e' : (b : Int) = (y : Int) := e
              exact hnot (by rw [show y = b by omega]; exact hb))
            have HTK := Lib.hid htk
            have hmp : Hid (IsMap D) := Lib.hid HO.out.isMap
            clear hat hget hmem htk hnot y2 yn yl hy hused hs30
            go_wp2_with (first
              | ((with_reducible refine q1.mono ?_); rintro e w' ⟨rfl, rfl⟩)
              | ((with_reducible refine q2.mono ?_); rintro e w' ⟨rfl, rfl⟩)
              | ((with_reducible refine q3.mono ?_); rintro e w' ⟨rfl, rfl⟩)
              | (at_lookup; refine wpl_lookup_bool (by rfl) (.tmp 85) (.tmp 86) 60 rfl keyLaw Tryd.underlying60 Tryd.underlying4 (zeroBool _) rfl HO.out _ (.int .i64 (y : Int)) rfl (keyI hwf.out) false hat'.out ?_)
              | (at_mapUpdate; refine wpList_mapUpdate_own _ rfl _ _ _ 60 rfl 3 4 keyLaw Tryd.underlying60 _ M k _ rfl HO.out (by unfold maxLen; omega) _ _ (.int .i64 (y : Int)) rfl rfl (keyI hwf.out) _ [] (plainElem_bool Tryd.underlying4 _) ?_; intro w6 hown6 hg6))
            exact ⟨⟨k + 1, by omega, by go_num, _, hown6, by rw [HTK.out, List.map_append]; exact HD.out.put hmp.out (y : Int), HG.out.trans hg6⟩, by simp [intOf]; omega⟩
          · obtain rfl : k = 24 := by omega
            have qs := tspare_any hm.out.tb HGD.out.ok
            have hls := HGD.out.losses
            have hown2 : ∀ k2, (wr.drewN k2).ownsMap Tryd.prog 3 (plainElem Tryd.prog 4) M 24 D := fun k2 => by
              obtain ⟨es, cl, hb, r⟩ := HO.out
              exact ⟨es, cl, hb, r⟩
            have HOW := Lib.hid hown2
            have hfin : ∀ k2, Mid (wr.drewN k2) a t zs _ S s l := fun k2 => hm.out.after (drewN_below wr k2)
            have h1 := fun k2 => tlen_any (hfin k2).tb HGD.out.ok
            have h2 := fun k2 => tlost_any (hfin k2).tb HGD.out.ok
            have h3 := fun k2 b => isbad_any a S b (wr.drewN k2) (hfin k2).dev.pc
            rw [H24.out, show ((24 : Nat) : Int) = 24 from rfl] at h1
            obtain ⟨m, hmm2⟩ : ∃ m, m = l.losses := ⟨_, rfl⟩
            rw [← hmm2] at h2 hls
            have hm4 : decide ((m : Int) ≤ 4) = true := by simp; omega
            have K1 := Lib.hid h1
            have K2 := Lib.hid h2
            have K3 := Lib.hid h3
            have hB9 : Hid (∀ k2, Below w.heap.size w (wr.drewN k2)) := Lib.hid (fun k2 => (HB5.out.grown HG.out HB5.out.size (fun k e => by have := HWM.out; have h' := Option.some.inj e; omega)).trans ((drewN_below wr k2).mono (Nat.le_trans HB5.out.size HG.out.size)))
            clear h1 h2 h3 hfin hls hmm2 hown2 hk hlt
            cases hsp : l.spare with
            | none =>
              rw [hsp] at qs
              have qs' := qs
              simp only [Option.getD_none, Option.isSome_none] at qs'
              clear qs
              go_wp2_with (first
                | ((with_reducible refine q1.mono ?_); rintro e w' ⟨rfl, rfl⟩)
                | ((with_reducible refine qs'.mono ?_); rintro e w2 ⟨rfl, k2, rfl⟩; have p1 := K1.out k2; have p2 := K2.out k2)
                | ((with_reducible refine p1.mono ?_); rintro e w' ⟨rfl, rfl⟩)
                | ((with_reducible refine p2.mono ?_); rintro e w' ⟨rfl, rfl⟩))
              go_ret
              exact ⟨rfl, hB9.out k2⟩
            | some b =>
              rw [hsp] at qs
              have qs' := qs
              simp only [Option.getD_some, Option.isSome_some] at qs'
              obtain ⟨b2, bn, bl, bu⟩ := spare_iff.1 (spare_some hsp)
              have hs30 := hm.out.sz
              have hb1 : (2 : Int) ≤ (b : Int) := by omega
              have hbb : Hid (S.isBad (b : Int) = false) := Lib.hid (hm.out.notBad (by omega) bl)
              have hwf : Hid ((Lit.int .i64 (b : Int)).wf = true) := Lib.hid (wfI (by omega) (by omega))
              have hat' : Hid (D.atKey (.int .i64 (b : Int)) (.lit (.bool false)) = .lit (.bool false)) := Lib.hid (by
                rw [HD.out, decide_eq_false]
                intro h
                obtain ⟨c, hc, e⟩ := List.mem_map.1 h
                have e' : (c : Int) = (b : Int) := e
                exact bu (by rw [show b = c by omega]; exact List.mem_of_mem_take hc))
              clear qs b2 bn bl bu hs30 hsp hused
              go_wp2_with (first
                | ((with_reducible refine q1.mono ?_); rintro e w' ⟨rfl, rfl⟩)
                | ((with_reducible refine qs'.mono ?_); rintro e w2 ⟨rfl, k2, rfl⟩; have p1 := K1.out k2; have p2 := K2.out k2; have p3 := K3.out k2 (b : Int); rw [hbb.out] at p3)
                | ((with_reducible refine p1.mono ?_); rintro e w' ⟨rfl, rfl⟩)
                | ((with_reducible refine p2.mono ?_); rintro e w' ⟨rfl, rfl⟩)
                | ((with_reducible refine p3.mono ?_); rintro e w' ⟨rfl, rfl⟩)
                | (at_lookup; refine wpl_lookup_bool (by rfl) (.tmp 116) (.tmp 117) 60 rfl keyLaw Tryd.underlying60 Tryd.underlying4 (zeroBool _) rfl (HOW.out k2) _ (.int .i64 (b : Int)) rfl (keyI hwf.out) false hat'.out ?_))
              go_ret
              exact ⟨rfl, hB9.out k2⟩
set_option maxRecDepth 100000 in
set_option maxHeartbeats 4000000 in
theorem bbtApart_any (v v2 : Value) (w : World) (ht : Tab w) (hv : ∃ zs, Nums w w.heap.size .i64 v zs) (hs : ∃ os, Script5 w w.heap.size v2 os) :
    Calls Tryd.prog 7 #[v, v2] w fun e w' => e = .returned (.bool true) ∧ Below w.heap.size w w' := by
  obtain ⟨zs, hv⟩ := hv
  obtain ⟨os, hs⟩ := hs
  obtain ⟨A, cap, rfl, hl1, hl2, hrow, hwf⟩ := id hv
  obtain ⟨A2, c2, rfl, _⟩ := id hs
  have ks := bbtspeaks_any w ht
  by_cases h30 : os.length ≤ 30
  · have d2 : decide ((30 : Int) < (os.length : Int)) = false := by simp; omega
    by_cases h4 : zs.length ≤ 4
    · by_cases hz : badOut 30 zs = false
      · exact apart_main A cap zs A2 c2 os w ht hv hs h4 h30 hz
      · have d1 : decide ((4 : Int) < (zs.length : Int)) = false := by simp; omega
        have HV := Lib.hid hv
        have HE : Hid (newE 30 zs = 1) := Lib.hid (if_pos (.inr (.inr (by simpa using hz))))
        clear hl1 hl2 hrow hwf hv h30 h4 ht hs hz
        go_enter Tryd.func7, Tryd.ntmps7
        go_wp2_with ((with_reducible refine ks.mono ?_); rintro e w1 ⟨rfl, b1⟩)
        have k0 := newpower_any w1
        go_wp2_with ((with_reducible refine k0.mono ?_); rintro e w2 ⟨rfl, P2, b2⟩)
        have B2 : Below w.heap.size w w2 := b1.trans (b2.mono b1.size)
        have hv2 : Nums w2 w2.heap.size .i64 (.slice A zs.length cap) zs := by
          obtain ⟨A', cap', ev, hl1, hl2, hrow, hwf⟩ := HV.out
          exact ⟨A', cap', ev, hl1, hl2, (hrow.below B2).more B2.size, hwf⟩
        have k1 := newR_any 30 zs _ w1.heap.size w2 hv2 HE.out
        clear k0 ks P2 hv2
        go_wp2_with ((with_reducible refine k1.mono ?_); rintro e w3 ⟨rfl, b3⟩)
        go_ret
        exact ⟨rfl, B2.trans (b3.mono B2.size)⟩
    · have d1 : decide ((4 : Int) < (zs.length : Int)) = true := by simp; omega
      clear hl1 hl2 hrow hwf hv h30 h4 ht hs
      go_enter Tryd.func7, Tryd.ntmps7
      go_wp2_with ((with_reducible refine ks.mono ?_); rintro e w1 ⟨rfl, b1⟩)
      go_ret
      exact ⟨rfl, b1⟩
  · have d2 : decide ((30 : Int) < (os.length : Int)) = true := by simp; omega
    clear hl1 hl2 hrow hwf hv h30 ht hs
    go_enter Tryd.func7, Tryd.ntmps7
    go_wp2_with ((with_reducible refine ks.mono ?_); rintro e w1 ⟨rfl, b1⟩)
    go_ret
    exact ⟨rfl, b1⟩
end Go.Proofs.YtnemlbnmnijghaaDoor

