/- The walk of BbtFlips: it answers true, and changes nothing that was there. Condition: the table of the check sum holds its sixteen numbers. -/
import Derived.Test.YtnemlbnmnijghaaDoorQBbtTurned
import Derived.Test.YtnemlbnmnijghaaDoorQBbtR
import Derived.Test.YtnemlbnmnijghaaDoorQBbtApart
namespace Go.Proofs.YtnemlbnmnijghaaDoor
open Go.RowKit
def lay20 : Lay := ⟨20, List.range' 2 14 ++ List.replicate 20 0, List.replicate 40 false⟩
theorem fresh20 : (Ch.marked 20 []).fresh = some lay20 := by kernel_rfl
theorem uses20 : refUses 20 (fun _ => false) 20 2 [] = lay20.used := by kernel_rfl

def falses (n : Nat) : List Bool := List.replicate n false
theorem falses_length (n : Nat) : (falses n).length = n := by simp [falses]
theorem falses_at {n j : Nat} (h : j < n) : (falses n)[j]? = some false := by unfold falses; rw [List.getElem?_replicate, if_pos h]
theorem lost20 : falses 20 = lay20.lost.take lay20.n := by kernel_rfl
theorem make20 (w : World) : (Instr.makeSlice 36 (.int .i64 20) (.int .i64 20)).run Tryd.prog w = .ok (.slice (some ⟨w.heap.size, 0, none⟩) 20 20) (w.alloc (.cells (bl (falses 20)).toArray 4)) := by kernel_rfl
theorem and_65535 (z : Int) : ∃ y : Nat, bits .and .i64 z 65535 = (y : Int) := by
  have e : (BitVec.ofInt 64 z &&& BitVec.ofInt 64 65535).toNat = (z % 18446744073709551616).toNat % 2 ^ 16 := by
    rw [BitVec.toNat_and, show (BitVec.ofInt 64 65535).toNat = 2 ^ 16 - 1 from rfl, Nat.and_two_pow_sub_one_eq_mod, BitVec.toNat_ofInt]
    rfl
  refine ⟨(z % 18446744073709551616).toNat % 2 ^ 16, ?_⟩
  unfold bits
  show IntKind.i64.wrap ((BitVec.ofInt 64 z &&& BitVec.ofInt 64 65535).toNat : Int) = _
  rw [e, IntKind.wrap_i64]
  omega
theorem flip_bit (z : Int) : ∃ x : Nat, (bits .and .i64 z 65535).tmod 2064 = (x : Int) ∧ x < 2064 := by
  obtain ⟨y, hy⟩ := and_65535 z
  rw [hy]
  exact ⟨y % 2064, by rw [Int.tmod_eq_emod_of_nonneg (by omega)]; omega, by omega⟩
theorem Dev.turn {w w' : World} {a : At} {S S' : Ch} {s : NM.Pwr} (h : Dev w a S s) (hc : Chg w w' (fun j => j = a.g)) (hp : PChip w' a S') : Dev w' a S' s :=
  ⟨hp, h.pw.chg hc h.pc.pg, h.tab.chg hc (fun e => h.far _ (.inl (.inr (.inl e))) rfl), h.far, h.fits⟩
/-- the two tables in the midst of a script: they tell the same -/
structure Both (w : World) (a : At) (t lo hi m N q : Nat) (S : Ch) (s : NM.Pwr) (l : Lay) : Prop where
  dev : Dev w a S s
  tb : Tb w t a l
  calm : Calm S s
  keeps : ∃ o k, Keeps S o k l ∧ k ≤ 1 + q
  good : l.good
  sz : l.n = N
  len : S.bs.length = N
  few : S.few (24 + 24 * q)
  ref : RTL w lo hi m l
  far : ∀ k, a.all k ∨ k = t → k < lo ∨ hi ≤ k
section
variable {w w' : World} {a : At} {t lo hi m N q : Nat} {S : Ch} {s : NM.Pwr} {l : Lay}
theorem Both.after (h : Both w a t lo hi m N q S s l) (hb : Below w.heap.size w w') : Both w' a t lo hi m N q S s l := ⟨h.dev.after hb, h.tb.after hb, h.calm, h.keeps, h.good, h.sz, h.len, h.few, h.ref.after hb, h.far⟩
/-- a step of the document's table, and the same call of the program's -/
theorem Both.call (h : Both w a t lo hi m N q S s l) (hq : q ≤ 30) {lo' hi' m' : Nat} (o : Op5) (hR : RTL w lo' hi' m' (l.next o (o.blk l))) (hfar : ∀ k, a.all k ∨ k = t → k < lo' ∨ hi' ≤ k) :
    Calls Tryd.prog 19 #[.pointer (some ⟨t, 0, none⟩), .agg o.row.toArray, .int .i64 (o.blk l)] w fun e w' => e = .returned (.int .i64 (if l.can o (o.blk l) then 0 else 1)) ∧ (∃ S', Both w' a t lo' hi' m' N (q + 1) S' s (l.next o (o.blk l))) ∧ (l.can o (o.blk l) = false → ∃ S', Both w' a t lo hi m N (q + 1) S' s l) ∧ Chg w w' (fun j => a.all j ∨ j = t) := by
  refine (bdo_any o h.tb h.good.ok h.good.at40 h.dev (few_le (by omega) h.few) (o.blk l)).mono ?_
  rintro e w' ⟨rfl, d, t', c⟩
  obtain ⟨oo, k, hK, hk⟩ := h.keeps
  have hg := good_next h.good o (o.blk l)
  have hRc : RTL w' lo' hi' m' (l.next o (o.blk l)) := hR.chg c (fun k h1 h2 h3 => by have := hfar k h3; omega)
  have hfw := few_doing S s l o (o.blk l) _ h.few
  cases hc : l.can o (o.blk l) with
  | true =>
    obtain ⟨S', e1, c1, K1, e2, e3⟩ := calm_doing h.calm hK h.good (h.sz.trans h.len.symm) (by omega) o (o.blk l) hc
    rw [e1] at d hfw ⊢
    rw [e2] at t'
    exact ⟨rfl, ⟨S', d, t', c1, ⟨1 - oo, k + 1, K1, by omega⟩, hg.1, hg.2.trans h.sz, e3.trans h.len, few_le (by omega) hfw, hRc, hfar⟩, (fun e => by cases e), c⟩
  | false =>
    obtain ⟨e1, e2, e3⟩ := cannot_doing (S := S) (s := s) o (o.blk l) hc
    rw [e1] at d hfw ⊢
    rw [e2] at t'
    rw [e3] at hRc ⊢
    have hB : ∀ lo hi m, RTL w' lo hi m l → (∀ k, a.all k ∨ k = t → k < lo ∨ hi ≤ k) → Both w' a t lo hi m N (q + 1) S s l := fun lo hi m r f => ⟨d, t', h.calm, ⟨oo, k, hK, by omega⟩, h.good, h.sz, h.len, few_le (by omega) h.few, r, f⟩
    exact ⟨rfl, ⟨S, hB _ _ _ hRc hfar⟩, (fun _ => ⟨S, hB _ _ _ (h.ref.chg c (fun k h1 h2 h3 => by have := h.far k h3; omega)) h.far⟩), c⟩
end
set_option maxRecDepth 100000 in
set_option maxHeartbeats 16000000 in
theorem flips_main (A : Option Addr) (cap : Nat) (os : List Op5) (A2 : Option Addr) (c2 : Nat) (zs : List Int) (w : World) (ht : Tab w) (hs : Script5 w w.heap.size (.slice A os.length cap) os) (hv : Nums w w.heap.size .i64 (.slice A2 zs.length c2) zs) (h30 : os.length ≤ 30) (h40 : zs.length ≤ 40) :
    Calls Tryd.prog 5 #[.slice A os.length cap, .slice A2 zs.length c2] w fun e w' => e = .returned (.bool true) ∧ Below w.heap.size w w' := by
  have d1 : decide ((40 : Int) < (zs.length : Int)) = false := by simp; omega
  have d2 : decide ((30 : Int) < (os.length : Int)) = false := by simp; omega
  have ks := bbtspeaks_any w ht
  have HV := Lib.hid hv
  have HS := Lib.hid hs
  have HT := Lib.hid ht
  have H30 := Lib.hid h30
  have H40 := Lib.hid h40
  have zo := zeroOp5
  clear hv hs ht h30 h40
  go_enter Tryd.func5, Tryd.ntmps5
  go_wp2_with ((with_reducible refine ks.mono ?_); rintro e w1 ⟨rfl, b1⟩)
  have B1 := Lib.hid b1
  have k0 := newpower_any w1
  clear b1 ks
  go_wp2_with ((with_reducible refine k0.mono ?_); rintro e w2 ⟨rfl, P2, b2⟩)
  have B2 : Hid (Below w.heap.size w w2) := Lib.hid (B1.out.trans (b2.mono B1.out.size))
  have hv2 : Nums w2 w2.heap.size .i64 (.slice none 0 0) [] := ⟨none, 0, rfl, Nat.le_refl _, Nat.zero_le _, (fun j u h => by simp at h), fun z h => by cases h⟩
  have k1 := devNew HT.out B2.out w1.heap.size B1.out.size P2 20 (by omega) [] _ hv2 rfl
  rw [show ((20 : Nat) : Int) = 20 from rfl] at k1
  have hf := Lib.hid (behind_new (g := w2.heap.size) (p := w1.heap.size) (B := w.heap.size) B2.out.size B1.out.size)
  clear P2 b2 k0 hv2
  go_wp2_with fail
  ((with_reducible refine k1.mono ?_); rintro e w3 ⟨rfl, D3, b3⟩)
  have B3 : Hid (Below w.heap.size w w3) := Lib.hid (B2.out.trans (b3.mono B2.out.size))
  obtain ⟨a, ha⟩ : ∃ a : At, a = ⟨w2.heap.size + 1, w2.heap.size, w1.heap.size, none, none⟩ := ⟨_, rfl⟩
  have hac : w2.heap.size + 1 = a.c := by rw [ha]
  rw [hac]
  rw [← ha] at D3 hf
  obtain ⟨hg, hsz, _, _, _⟩ := fresh_marked (by omega) fresh20
  obtain ⟨S', ek, hcm, hK, hln, _⟩ := (marked_calm (N := 20) (zs := []) (by omega) (by simp) (by simp)).first (marked_blank (b := 0) (by omega) (by simp)) (marked_blank (b := 1) (by omega) (by simp)) hg.ok
  have k3 := format_main lay20 D3 (marked_may (by omega) _) fresh20 (marked_few _ _ _)
  have hfew := few_keep (Ch.marked 20 []) NM.Pwr.fresh lay20 0 (marked_few _ _ _)
  rw [ek] at k3 hfew
  simp only [tptr_ok] at k3 hfew
  have HG := Lib.hid (And.intro hg (And.intro hsz (And.intro hcm (And.intro hK (And.intro (hln.trans (markB_length 20 [])) hfew)))))
  clear hg hsz hcm hK hln hfew ek b3 k1 ha hac D3 B1 B2
  go_wp2_with fail
  ((with_reducible refine k3.mono ?_); rintro e w4 ⟨t, htl, rfl, D4, hT4, c4⟩)
  have B4 : Hid (Below w.heap.size w w4) := Lib.hid (Below.chgAll B3.out c4 hf.out (Nat.le_refl _))
  have HD4 := Lib.hid D4
  have HT4 := Lib.hid (hT4 trivial)
  have HTL : Hid (w.heap.size ≤ t) := Lib.hid (Nat.le_trans B3.out.size htl)
  clear k3 htl D4 hT4 c4 B3
  have mk := make20
  have X5 : Below w4.heap.size w4 (w4.alloc (.cells (bl (falses 20)).toArray 4)) := (Below.refl _ _).alloc (Nat.le_refl _) _
  have kF := refFormat_yes 20 (by omega) (by omega) w4.heap.size 20 (falses 20) (falses_length 20) (w4.alloc (.cells (bl (falses 20)).toArray 4)) (row_blk (Z := []) (by rw [List.append_nil]; exact Blk.new w4 _ _)) (fun _ => false) (fun j hj => falses_at hj) rfl rfl (by rw [uses20]; decide)
  rw [uses20] at kF
  have HX5 := Lib.hid X5
  clear X5
  go_wp2_with ((with_reducible refine kF.mono ?_); rintro e w6 ⟨m, rfl, R6, b6⟩)
  have B6 : Below w.heap.size w w6 := (B4.out.trans (HX5.out.mono B4.out.size)).trans (b6.mono (Nat.le_trans B4.out.size HX5.out.size))
  have D6 := HD4.out.after (HX5.out.trans (b6.mono HX5.out.size))
  have T6 := HT4.out.after (HX5.out.trans (b6.mono HX5.out.size))
  have hl6 : w4.heap.size ≤ (w4.alloc (.cells (bl (falses 20)).toArray 4)).heap.size := HX5.out.size
  have I6 : Both w6 a t (w4.alloc (.cells (bl (falses 20)).toArray 4)).heap.size w6.heap.size m 20 0 S' NM.Pwr.fresh lay20 :=
    ⟨D6, T6, HG.out.2.2.1, ⟨1, 1, HG.out.2.2.2.1, by omega⟩, HG.out.1, HG.out.2.1, HG.out.2.2.2.2.1, HG.out.2.2.2.2.2, (by unfold RTL; rw [← lost20]; exact R6), fun k hk => .inl (by
      rcases hk with h | rfl
      · have := HD4.out.lt k h; omega
      · have := HT4.out.blk.lt; omega)⟩
  have HI6 := Lib.hid I6
  have HB6 := Lib.hid B6
  have mkO := HTL
  clear B6 D6 T6 hl6 I6 R6 b6 kF HX5 HD4 HT4 B4 mk mkO
  go_wp2_with fail
  go_loopw [9, 47] (fun v i wr => ∃ j : Nat, j ≤ os.length ∧ i = .int .i64 j ∧ ∃ (m lo hi : Nat) (S : Ch) (s : NM.Pwr) (l : Lay), v = .pointer (some ⟨m, 0, none⟩) ∧ Both wr a t lo hi m 20 j S s l ∧ hi ≤ wr.heap.size ∧ Below w.heap.size w wr) (fun _ i _ => os.length - (intOf i).toNat)
  case atStart => exact ⟨0, Nat.zero_le _, rfl, m, _, _, S', _, _, rfl, HI6.out, Nat.le_refl _, HB6.out⟩
  case round =>
    obtain ⟨j, hj, rfl, m, lo, hi, S, s, l, rfl, hI, hhi, hB⟩ := hrel
    clear HI6 HB6
    have HI := Lib.hid hI
    have HB := Lib.hid hB
    by_cases hlt : j < os.length
    · obtain ⟨p, o, rfl, _, _, hld⟩ := HS.out.get hlt hB
      have O2 := Blk.new wr 39 zOp5
      have hs5 := seg5 (a := zOp5) (b := o.row) rfl rfl
      have hj30 : (j : Int) < 30 := by have := H30.out; omega
      have hb6 : ∀ X, (wr.alloc (.cells zOp5.toArray 39)).grownBy X (some wr.heap.size) → Below wr.heap.size wr X := fun X g => ((Below.refl wr.heap.size wr).alloc (Nat.le_refl _) _).grown g (by simp) (fun k e => Nat.le_of_eq (Option.some.inj e))
      have hks : ∀ X, Below wr.heap.size wr X → _ := fun X hb => bstep_any (hI.after hb).ref hI.good o
      have hfar : ∀ k, a.all k ∨ k = t → k < wr.heap.size := fun k hk => by
        rcases hk with h | rfl
        · exact hI.dev.lt k h
        · exact hI.tb.blk.lt
      have hkd : ∀ X7 lo2 m2, Below wr.heap.size wr X7 → wr.heap.size ≤ lo2 → RTL X7 lo2 X7.heap.size m2 (l.next o (o.blk l)) → _ := fun X7 lo2 m2 b h R => (HI.out.after b).call (by have := H30.out; omega) o R (fun k hk => .inl (Nat.lt_of_lt_of_le (hfar k hk) h))
      have KS := Lib.hid hks
      have KD := Lib.hid hkd
      have HHI := Lib.hid hhi
      have hbe : ∀ X7 Y, Below wr.heap.size wr X7 → Chg X7 Y (fun k => a.all k ∨ k = t) → Below w.heap.size w Y := fun X7 Y b q => (HB.out.trans (b.mono HB.out.size)).trans (q.below (fun k h => h.elim (hf.out k) (fun e => e ▸ HTL.out)) (Nat.le_trans HB.out.size b.size))
      have HBE := Lib.hid hbe
      obtain ⟨bk, hbk⟩ : ∃ bk, bk = o.blk l := ⟨_, rfl⟩
      obtain ⟨cn, hcn⟩ : ∃ cn, cn = l.can o bk := ⟨_, rfl⟩
      rw [← hbk, ← hcn] at KS
      rw [← hbk, ← hcn] at KD
      clear hI hB hks hhi hfar hkd hbe hcn hbk
      cases cn with
      | true =>
        go_wp2_with (first
          | (with_reducible refine wpl_o5load (.tmp 49) rfl rfl rfl hld ?_)
          | (with_reducible refine wpl_seg_store sizeOp5 (.tmp 11) (.tmp 50) rfl rfl O2 0 o.row rfl (Nat.le_refl _) (Op5.one _) rfl rfl _ hs5 ?_; intro w6 O6 g6 e6; clear e6; have B6 := hb6 _ g6; have k7 := KS.out _ B6)
          | (with_reducible refine wpl_seg_load aggOp5 sizeOp5 (.tmp 11) rfl rfl O6 0 o.row rfl rfl rfl ?_)
          | ((with_reducible refine k7.mono ?_); rintro e w7 ⟨m2, lo2, rfl, hlo2, R7, b7⟩; have O7 := O6.after b7; have B7 := B6.trans (b7.mono B6.size); have k8 := KD.out w7 lo2 m2 B7 (Nat.le_trans B6.size hlo2) R7)
          | (with_reducible refine wpl_seg_load aggOp5 sizeOp5 (.tmp 11) rfl rfl O7 0 o.row rfl rfl rfl ?_)
          | ((with_reducible refine k8.mono ?_); rintro e w8 ⟨rfl, ⟨S8, J1⟩, J2, c8⟩))
        exact ⟨⟨j + 1, by omega, by go_num, m2, lo2, w7.heap.size, S8, s, _, rfl, J1, c8.size, HBE.out _ _ B7 c8⟩, by simp [intOf]; omega⟩
      | false =>
        go_wp2_with (first
          | (with_reducible refine wpl_o5load (.tmp 49) rfl rfl rfl hld ?_)
          | (with_reducible refine wpl_seg_store sizeOp5 (.tmp 11) (.tmp 50) rfl rfl O2 0 o.row rfl (Nat.le_refl _) (Op5.one _) rfl rfl _ hs5 ?_; intro w6 O6 g6 e6; clear e6; have B6 := hb6 _ g6; have k7 := KS.out _ B6)
          | (with_reducible refine wpl_seg_load aggOp5 sizeOp5 (.tmp 11) rfl rfl O6 0 o.row rfl rfl rfl ?_)
          | ((with_reducible refine k7.mono ?_); rintro e w7 ⟨m2, lo2, rfl, hlo2, R7, b7⟩; have O7 := O6.after b7; have B7 := B6.trans (b7.mono B6.size); have k8 := KD.out w7 lo2 m2 B7 (Nat.le_trans B6.size hlo2) R7)
          | (with_reducible refine wpl_seg_load aggOp5 sizeOp5 (.tmp 11) rfl rfl O7 0 o.row rfl rfl rfl ?_)
          | ((with_reducible refine k8.mono ?_); rintro e w8 ⟨rfl, ⟨S8, J1⟩, J2, c8⟩))
        obtain ⟨S9, J3⟩ := J2 trivial
        exact ⟨⟨j + 1, by omega, by go_num, m, lo, hi, S9, s, _, rfl, J3, Nat.le_trans HHI.out (Nat.le_trans B7.size c8.size), HBE.out _ _ B7 c8⟩, by simp [intOf]; omega⟩
    · obtain rfl : j = os.length := by omega
      obtain ⟨oo, kk, hKe, hkk⟩ := hI.keeps
      have hk1000 : kk < 1000 := by have := H30.out; omega
      have T0 := Lib.hid (Turned.zero hI.calm)
      have HDV := Lib.hid hI.dev
      have HRF := Lib.hid hI.ref
      have HFR := Lib.hid hI.far
      have HFX := Lib.hid (And.intro hKe (And.intro hI.good (And.intro hI.sz (And.intro hI.len (And.intro hI.calm.off (And.intro hI.calm.live hk1000))))))
      clear hI hB HI hlt hj hKe hkk hk1000 HS H30 hhi zo
      go_wp2_with fail
      go_loopw [70] (fun i wx => ∃ q : Nat, q ≤ zs.length ∧ i = .int .i64 q ∧ ∃ S2 : Ch, Dev wx a S2 s ∧ Turned S S2 q ∧ RTL wx lo hi m l ∧ Below w.heap.size w wx) (fun i _ => zs.length - (intOf i).toNat)
      case atStart => exact ⟨0, Nat.zero_le _, rfl, S, HDV.out, T0.out, HRF.out, HB.out⟩
      case round =>
        obtain ⟨q, hq, rfl, S2, hD, hT2, hR, hB2⟩ := hrel
        clear HDV T0 HRF HB
        have HD := Lib.hid hD
        have HT2 := Lib.hid hT2
        have HR := Lib.hid hR
        have HB2 := Lib.hid hB2
        by_cases hlt : q < zs.length
        · obtain ⟨A', cap', ev, hl1, hl2, hrow, hwf⟩ := HV.out
          obtain ⟨rfl, _, rfl⟩ := Value.slice.inj ev
          obtain ⟨p2, rfl, hab, hcell⟩ := hrow.at_ (k := q) (by simpa using hlt)
          have hc2 : wr.cell? (p2.add q) = some (Value.int .i64 zs[q]) := by
            have h1 := (hB2.cell (p := p2.add q) (by rw [add_block]; exact hab)).trans hcell
            rw [List.getElem_map] at h1
            exact h1
          obtain ⟨z, hzz⟩ : ∃ z, z = zs[q] := ⟨_, rfl⟩
          rw [← hzz] at hc2
          have hq40 : (q : Int) < 40 := by have := H40.out; omega
          clear hcell hzz ev hrow hwf hl1 hl2 hD hT2 hR hB2
          have HQ := Lib.hid hlt
          by_cases h16 : q < 16
          · have d3 : decide ((q : Int) < 16) = true := by simp; omega
            obtain ⟨x, hx, hx2⟩ := flip_bit z
            have kf := flip_any a S2 ((q : Int) / 8) ((q : Int) % 8) ((bits .and .i64 z 65535).tmod 2064) wr HD.out.pc
            have hT3 := HT2.out.flip h16 hx2 HD.out.pc.len.1
            rw [show (((q / 8 : Nat) : Nat) : Int) = (q : Int) / 8 by omega, show (((q % 8 : Nat) : Nat) : Int) = (q : Int) % 8 by omega, ← hx] at hT3
            have HT3 := Lib.hid hT3
            clear hT3 hx hx2 h16
            go_wp2_with ((with_reducible refine kf.mono ?_); rintro e w5 ⟨rfl, C5, c5⟩)
            have q5 : Chg wr w5 a.all := c5.more (fun k _ e => .inl (.inr (.inl e)))
            have hq := HQ.out
            exact ⟨⟨q + 1, by omega, by go_num, _, HD.out.turn c5 C5, HT3.out, HR.out.chg q5 (fun k h1 h2 h3 => by have := HFR.out k (.inl h3); omega), Below.chgAll HB2.out q5 hf.out (Nat.le_refl _)⟩, by simp [intOf]; omega⟩
          · have d3 : decide ((q : Int) < 16) = false := by simp; omega
            go_wp2_with fail
            exact ⟨⟨q + 1, by omega, by go_num, S2, HD.out, HT2.out.more (by omega), HR.out, HB2.out⟩, by simp [intOf]; omega⟩
        · obtain rfl : q = zs.length := by omega
          obtain ⟨h1, h2, h3, h4, h5, h6, h7⟩ := HFX.out
          have hlen : S2.bs.length = 20 := HT2.out.len.trans h4
          obtain ⟨pg, hlk⟩ := HT2.out.look h1 h2 (h3.trans hlen.symm) h7
          have hm : S2.mayE s = 0 := may_here (b := 0) (k := 0) h5 (HT2.out.live.trans h6) (by omega) (by omega)
          have hE : S2.lookE s = 0 := by unfold Ch.lookE; rw [if_pos hm, hlk]; rfl
          have hK : (keptOf (S2.lookK s)).lay = l := by unfold Ch.lookK; rw [if_pos hm, hlk]; rfl
          have ko := open_some HD.out hE
          rw [hK] at ko
          have hok := Lib.hid h2.ok
          clear h1 h2 h3 h4 h5 h6 h7 hlen hlk hm hE hK hq hlt hD hT2 hR hB2
          go_wp2_with fail
          ((with_reducible refine ko.mono ?_); rintro e w5 ⟨t5, ht5, rfl, T5, b5⟩)
          have ksm := bsame_yes T5 hok.out (RT.after HR.out b5)
          have B5 := HB2.out.trans (b5.mono HB2.out.size)
          clear ko T5 b5
          go_wp2_with ((with_reducible refine ksm.mono ?_); rintro e w6 ⟨rfl, k, rfl⟩)
          go_ret
          exact ⟨rfl, B5.trans ((drewN_below w5 k).mono B5.size)⟩
set_option maxRecDepth 100000 in
set_option maxHeartbeats 4000000 in
theorem bbtFlips_any (v v2 : Value) (w : World) (ht : Tab w) (hs : ∃ os, Script5 w w.heap.size v os) (hv : ∃ zs, Nums w w.heap.size .i64 v2 zs) :
    Calls Tryd.prog 5 #[v, v2] w fun e w' => e = .returned (.bool true) ∧ Below w.heap.size w w' := by
  obtain ⟨zs, hv⟩ := hv
  obtain ⟨os, hs⟩ := hs
  obtain ⟨A2, c2, rfl, _⟩ := id hv
  obtain ⟨A, cap, rfl, _⟩ := id hs
  have ks := bbtspeaks_any w ht
  by_cases h30 : os.length ≤ 30
  · have d2 : decide ((30 : Int) < (os.length : Int)) = false := by simp; omega
    by_cases h40 : zs.length ≤ 40
    · exact flips_main A cap os A2 c2 zs w ht hs hv h30 h40
    · have d1 : decide ((40 : Int) < (zs.length : Int)) = true := by simp; omega
      clear hv h30 h40 ht hs
      go_enter Tryd.func5, Tryd.ntmps5
      go_wp2_with ((with_reducible refine ks.mono ?_); rintro e w1 ⟨rfl, b1⟩)
      go_ret
      exact ⟨rfl, b1⟩
  · have d2 : decide ((30 : Int) < (os.length : Int)) = true := by simp; omega
    clear hv h30 ht hs
    go_enter Tryd.func5, Tryd.ntmps5
    go_wp2_with ((with_reducible refine ks.mono ?_); rintro e w1 ⟨rfl, b1⟩)
    go_ret
    exact ⟨rfl, b1⟩
end Go.Proofs.YtnemlbnmnijghaaDoor

