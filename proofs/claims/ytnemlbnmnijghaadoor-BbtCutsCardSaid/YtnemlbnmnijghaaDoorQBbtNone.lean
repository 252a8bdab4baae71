/- The walk of BbtNone: it answers true, and changes nothing that was there. Condition: the table of the check sum holds its sixteen numbers. -/
import Derived.Test.YtnemlbnmnijghaaDoorQBbtSpeaks
namespace Go.Proofs.YtnemlbnmnijghaaDoor
open Go.RowKit
section
variable {w w' : World} {a : At} {S S' : Ch} {s s' : NM.Pwr}
theorem PChip.own_p (h : PChip w a S) : ¬ a.own a.p := by
  rintro (e | e | e | e)
  · exact h.pc e
  · exact h.pg e
  · exact (h.mps _ e).2.2 rfl
  · exact (h.mes _ e).2.2 rfl
theorem Dev.cut (h : Dev w a S s) (g : w.grownBy w' (some a.p)) (hp : PPow w' a.p s') (hf : s'.fits) : Dev w' a S s' := by
  have q : Chg w w' (fun k => k = a.p) := Chg.of_grown g (fun k e => Option.some.inj e)
  exact ⟨h.pc.chg q (fun k hk e => h.pc.own_p (e ▸ hk)), hp, h.tab.chg q (fun e => h.far _ (.inr e) rfl), h.far, hf⟩
theorem Dev.set (h : Dev w a S s) (hc : Chg w w' (fun j => j = a.c)) (hp : PChip w' a S') : Dev w' a S' s :=
  ⟨hp, h.pw.chg hc h.pc.pc, h.tab.chg hc (fun e => h.far _ (.inl (.inl e)) rfl), h.far, h.fits⟩
theorem look_none (h : S.mayE s ≠ 0) : S.lookE s = S.mayE s := if_neg h
theorem open_off (hD : Dev w a S s) (h : S.mayE s ≠ 0) : Calls Tryd.prog 21 #[.pointer (some ⟨a.c, 0, none⟩)] w fun e w' => e = .returned (.tuple #[.pointer none, .int .i64 (S.mayE s)]) ∧ Below w.heap.size w w' := by
  have := open_none hD (by rw [look_none h]; exact h)
  rw [look_none h] at this
  exact this
end
theorem marked_look {N : Nat} (hN : 16 ≤ N) (zs : List Int) : (Ch.marked N zs).lookE NM.Pwr.fresh = 35 := by
  unfold Ch.lookE
  rw [if_pos (marked_may hN zs), lookTo_none (bs := (Ch.marked N zs).bs) (fun i hi => by
    have : pageOf (Ch.marked N zs).bs (i / 8) (i % 8) = NM.ff := by
      show ((markB N zs).getD (i / 8) ⟨[], 0, false⟩).pg.getD (i % 8) [] = NM.ff
      rw [markB_getD zs (by omega)]
      exact ff_pages (by omega)
    rw [this]
    exact tableOf_ff) 16 (Nat.le_refl _)]
  rfl
theorem newE_ok {n : Int} {zs : List Int} (h : newE n zs ≠ 1) : ∃ N : Nat, n = N ∧ 16 ≤ N ∧ N ≤ 40 ∧ badOut N zs = false := by
  unfold newE at h
  split at h
  · exact absurd rfl h
  · rename_i c
    refine ⟨n.toNat, by omega, by omega, by omega, ?_⟩
    rw [show ((n.toNat : Nat) : Int) = n by omega]
    cases e : badOut n zs with
    | false => rfl
    | true => exact absurd (.inr (.inr e)) c
def offPwr : NM.Pwr := NM.Pwr.fresh.cut 0 0
theorem off_erase {N : Nat} (hN : 16 ≤ N) (zs : List Int) : (((Ch.marked N zs).erase 2 offPwr).1).mayE ((Ch.marked N zs).erase 2 offPwr).2.1 = 30 := by
  have hm : NM.may offPwr.off (Ch.marked N zs).live ((Ch.marked N zs).bs.length : Int) 2 0 = 0 := may_here (b := 2) (k := 0) rfl rfl (by show 2 < (markB N zs).length; rw [markB_length]; omega) (by omega)
  have : ((Ch.marked N zs).erase 2 offPwr).2.1 = offPwr.act.1 := by
    unfold Ch.erase
    rw [if_neg (by rw [hm]; simp)]
  unfold Ch.mayE NM.may
  rw [this]
  rfl
theorem dead_may {N : Nat} (zs : List Int) : (Ch.marked N zs).setDead.mayE NM.Pwr.fresh = 31 := rfl
set_option maxRecDepth 100000 in
set_option maxHeartbeats 8000000 in
theorem none_main (A : Option Addr) (cap : Nat) (zs : List Int) (N : Nat) (hN : 16 ≤ N ∧ N ≤ 40) (dead : Bool) (w : World) (ht : Tab w) (hv : Nums w w.heap.size .i64 (.slice A zs.length cap) zs) (h20 : zs.length ≤ 20) (hz : badOut N zs = false) :
    Calls Tryd.prog 6 #[.int .i64 (N : Int), .slice A zs.length cap, .bool dead] w fun e w' => e = .returned (.bool true) ∧ Below w.heap.size w w' := by
  have d1 : decide ((20 : Int) < (zs.length : Int)) = false := by simp; omega
  have ks := bbtspeaks_any w ht
  have HV := Lib.hid hv
  have HT := Lib.hid ht
  have HZ := Lib.hid hz
  have HN := Lib.hid hN
  clear hv ht hz hN h20
  go_enter Tryd.func6, Tryd.ntmps6
  go_wp2_with ((with_reducible refine ks.mono ?_); rintro e w1 ⟨rfl, b1⟩)
  have B1 := Lib.hid b1
  have k0 := newpower_any w1
  clear b1 ks
  go_wp2_with ((with_reducible refine k0.mono ?_); rintro e w2 ⟨rfl, P2, b2⟩)
  have B2 : Hid (Below w.heap.size w w2) := Lib.hid (B1.out.trans (b2.mono B1.out.size))
  have hv2 : Nums w2 w2.heap.size .i64 (.slice A zs.length cap) zs := by
    obtain ⟨A', cap', ev, hl1, hl2, hrow, hwf⟩ := HV.out
    exact ⟨A', cap', ev, hl1, hl2, (hrow.below B2.out).more B2.out.size, hwf⟩
  have k1 := devNew HT.out B2.out w1.heap.size B1.out.size P2 N HN.out zs _ hv2 HZ.out
  have hf := Lib.hid (behind_new (g := w2.heap.size) (p := w1.heap.size) (B := w.heap.size) B2.out.size B1.out.size)
  clear P2 b2 k0 hv2
  go_wp2_with fail
  ((with_reducible refine k1.mono ?_); rintro e w3 ⟨rfl, D3, b3⟩)
  have B3 : Hid (Below w.heap.size w w3) := Lib.hid (B2.out.trans (b3.mono B2.out.size))
  obtain ⟨a, ha⟩ : ∃ a : At, a = ⟨w2.heap.size + 1, w2.heap.size, w1.heap.size, none, none⟩ := ⟨_, rfl⟩
  have hac : w2.heap.size + 1 = a.c := by rw [ha]
  have hap : w1.heap.size = a.p := by rw [ha]
  rw [hac, hap]
  rw [← ha] at D3 hf
  have HD3 := Lib.hid D3
  have k3 := open_none D3 (by rw [marked_look HN.out.1 zs]; decide)
  rw [marked_look HN.out.1 zs] at k3
  clear b3 k1 ha hac hap D3 B1 B2
  go_wp2_with fail
  ((with_reducible refine k3.mono ?_); rintro e w4 ⟨rfl, b4⟩)
  have B4 : Hid (Below w.heap.size w w4) := Lib.hid (B3.out.trans (b4.mono B3.out.size))
  have D4 := Lib.hid (HD3.out.after b4)
  clear k3 b4 HD3 B3
  cases dead with
  | true =>
    have k4 := die_any a _ w4 D4.out.pc
    go_wp2_with ((with_reducible refine k4.mono ?_); rintro e w5 ⟨rfl, C5, c5⟩)
    have D5 := D4.out.set c5 C5
    have B5 : Below w.heap.size w w5 := Below.chgAll B4.out (c5.more (fun k _ e => .inl (.inl e)) : Chg w4 w5 a.all) hf.out (Nat.le_refl _)
    have k5 := open_off D5 (by rw [dead_may]; decide)
    rw [dead_may] at k5
    have H5 := Lib.hid D5
    have HB5 := Lib.hid B5
    clear k4 C5 c5 D5 B5 D4 B4
    go_wp2_with fail
    ((with_reducible refine k5.mono ?_); rintro e w6 ⟨rfl, b6⟩)
    have H6 := Lib.hid (H5.out.after b6)
    have HB6 : Hid (Below w.heap.size w w6) := Lib.hid (HB5.out.trans (b6.mono HB5.out.size))
    have k6 := format_off H6.out (by rw [dead_may]; decide)
    rw [dead_may] at k6
    clear k5 b6 H5 HB5
    go_wp2_with ((with_reducible refine k6.mono ?_); rintro e w7 ⟨rfl, b7⟩)
    go_ret
    exact ⟨rfl, HB6.out.trans (b7.mono HB6.out.size)⟩
  | false =>
    have k4 := cut_any a.p _ 0 0 w4 D4.out.pw
    go_wp2_with ((with_reducible refine k4.mono ?_); rintro e w5 ⟨rfl, P5, g5⟩)
    have D5 : Dev w5 a (Ch.marked N zs) offPwr := D4.out.cut g5 P5 ⟨by decide, by decide⟩
    have c5 : Chg w4 w5 a.all := Chg.of_grown g5 (fun k e => .inr (Option.some.inj e))
    have B5 : Below w.heap.size w w5 := Below.chgAll B4.out c5 hf.out (Nat.le_refl _)
    have k5 := erase_any a _ _ 2 D5.fits (marked_few _ _ _) w5 D5.pc D5.pw
    have hfit := erase_fits (S := Ch.marked N zs) 2 D5.fits
    have hm := off_erase HN.out.1 zs
    obtain ⟨r, hr⟩ : ∃ r, r = (Ch.marked N zs).erase 2 offPwr := ⟨_, rfl⟩
    rw [← hr] at k5 hfit hm
    obtain ⟨Sr, sr, er⟩ := r
    simp only at k5 hfit hm
    have H5 := Lib.hid D5
    have HB5 := Lib.hid B5
    have HM := Lib.hid hm
    clear k4 P5 g5 c5 D5 B5 D4 B4 hr hm
    go_wp2_with fail
    ((with_reducible refine k5.mono ?_); rintro e w6 ⟨rfl, C6, P6, c6⟩)
    have D6 := H5.out.act c6 C6 P6 hfit
    have H6 := Lib.hid D6
    have HB6 : Hid (Below w.heap.size w w6) := Lib.hid (Below.chgAll HB5.out c6 hf.out (Nat.le_refl _))
    have k6 := open_off D6 (by rw [HM.out]; decide)
    rw [HM.out] at k6
    clear k5 C6 P6 c6 D6 H5 HB5
    go_wp2_with fail
    ((with_reducible refine k6.mono ?_); rintro e w7 ⟨rfl, b7⟩)
    have H7 := Lib.hid (H6.out.after b7)
    have HB7 : Hid (Below w.heap.size w w7) := Lib.hid (HB6.out.trans (b7.mono HB6.out.size))
    have k7 := format_off H7.out (by rw [HM.out]; decide)
    rw [HM.out] at k7
    clear k6 b7 H6 HB6
    go_wp2_with ((with_reducible refine k7.mono ?_); rintro e w8 ⟨rfl, b8⟩)
    go_ret
    exact ⟨rfl, HB7.out.trans (b8.mono HB7.out.size)⟩
set_option maxRecDepth 100000 in
set_option maxHeartbeats 4000000 in
theorem bbtNone_any (n : Int) (v : Value) (dead : Bool) (w : World) (ht : Tab w) (hn : (Lit.int .i64 n).wf = true) (hv : ∃ zs, Nums w w.heap.size .i64 v zs) :
    Calls Tryd.prog 6 #[.int .i64 n, v, .bool dead] w fun e w' => e = .returned (.bool true) ∧ Below w.heap.size w w' := by
  obtain ⟨zs, hv⟩ := hv
  obtain ⟨A, cap, rfl, hl1, hl2, hrow, hwf⟩ := id hv
  by_cases h20 : zs.length ≤ 20
  · by_cases hE : newE n zs = 1
    · have d1 : decide ((20 : Int) < (zs.length : Int)) = false := by simp; omega
      have ks := bbtspeaks_any w ht
      have HV := Lib.hid hv
      clear hl1 hl2 hrow hwf hv h20 hn ht
      have HE := Lib.hid hE
      clear hE
      go_enter Tryd.func6, Tryd.ntmps6
      go_wp2_with ((with_reducible refine ks.mono ?_); rintro e w1 ⟨rfl, b1⟩)
      have k0 := newpower_any w1
      go_wp2_with ((with_reducible refine k0.mono ?_); rintro e w2 ⟨rfl, P2, b2⟩)
      have B2 : Below w.heap.size w w2 := b1.trans (b2.mono b1.size)
      have hv2 : Nums w2 w2.heap.size .i64 (.slice A zs.length cap) zs := by
        obtain ⟨A', cap', ev, hl1, hl2, hrow, hwf⟩ := HV.out
        exact ⟨A', cap', ev, hl1, hl2, (hrow.below B2).more B2.size, hwf⟩
      have k1 := newR_any n zs _ w1.heap.size w2 hv2 HE.out
      clear k0 ks P2 hv2
      go_wp2_with ((with_reducible refine k1.mono ?_); rintro e w3 ⟨rfl, b3⟩)
      go_ret
      exact ⟨rfl, B2.trans (b3.mono B2.size)⟩
    · obtain ⟨N, rfl, h1, h2, hz⟩ := newE_ok hE
      exact none_main A cap zs N ⟨h1, h2⟩ dead w ht hv h20 hz
  · have d1 : decide ((20 : Int) < (zs.length : Int)) = true := by simp; omega
    have ks := bbtspeaks_any w ht
    clear hl1 hl2 hrow hwf hv h20 hn ht
    go_enter Tryd.func6, Tryd.ntmps6
    go_wp2_with ((with_reducible refine ks.mono ?_); rintro e w1 ⟨rfl, b1⟩)
    go_ret
    exact ⟨rfl, b1⟩
end Go.Proofs.YtnemlbnmnijghaaDoor

