/- The walk of NandOnce: it answers true, and changes nothing that was there. No condition. -/
import Derived.Test.YtnclefdlmbkjmaaNandKeep
import Derived.Test.YtnclefdlmbkjmaaNandCuts
namespace Go.Proofs.Ytnclefdlmbkjmaa
open Go.RowKit
theorem ff_at {k : Nat} (h : k < 258) : (cl NM.ff)[k]? = some (.int .u8 255) := by
  rw [cl_get (by rw [NM.ff_length]; exact h)]
  unfold NM.ff
  rw [List.getElem_replicate]
  rfl
theorem wiped8 (P : List (List UInt8)) (h : 0 < P.length) : (wipP 8 P).getD 0 [] = NM.ff := by
  unfold wipP
  rw [show min 8 P.length = (min 8 P.length - 1) + 1 by omega, List.replicate_succ]
  rfl
theorem ptr_flat (w : World) : (isAgg 26).run Try.prog w = .ok false w := by kernel_rfl
structure XY (w : World) (gx gy : Nat) (d e : List UInt8) : Prop where
  x : PArr w gx d
  y : PArr w gy e
theorem XY.after {w w' : World} {gx gy : Nat} {d e : List UInt8} (h : XY w gx gy d e) (hb : Below w.heap.size w w') : XY w' gx gy d e := ⟨h.x.after hb, h.y.after hb⟩
theorem XY.drew {w : World} {gx gy : Nat} {d e : List UInt8} (h : XY w gx gy d e) : XY w.drew gx gy d e := ⟨h.x.drew, h.y.drew⟩
theorem XY.chg {w w' : World} {gx gy : Nat} {d e : List UInt8} {S : Nat → Prop} (h : XY w gx gy d e) (hc : Chg w w' S) (hg : ¬ S gx ∧ ¬ S gy) : XY w' gx gy d e := ⟨h.x.chg hc hg.1, h.y.chg hc hg.2⟩
structure EC (w : World) (gv : Nat) (o : OpV) (a : At) : Prop where
  b : Blk w gv 39 o.row
  c : w.cell? ⟨a.c, 0, none⟩ = some (.pointer (some ⟨a.p, 0, none⟩))
theorem okFits (kp : Int) : (⟨false, -1, kp⟩ : NM.Pwr).fits := ⟨by show (-9223372036854775808 : Int) ≤ -1; omega, by show (-1 : Int) < 9223372036854775808; omega⟩
set_option maxRecDepth 100000 in
set_option maxHeartbeats 8000000 in
theorem once_main (b : UInt8) (A : Option Addr) (c : Nat) (os : List OpV) (w : World) (hs : Script w w.heap.size (.slice A os.length c) os) :
    Calls Try.prog 4 #[.int .u8 ((b.toNat : Nat) : Int), .slice A os.length c] w fun e w' => e = .returned (.bool true) ∧ Below w.heap.size w w' := by
  have k0 := nandspeaks_any w
  have z := zeroOp
  have zp := zeroPage
  have kpb := lpage_any b
  obtain ⟨d, hd⟩ : ∃ d, d = lpage b := ⟨_, rfl⟩
  have hL : d.length = 258 := by rw [hd]; exact lpage_length b
  rw [← hd] at kpb
  have HS := Lib.hid hs
  clear hs hd
  go_enter Try.func4, Try.ntmps4
  go_wp2_with ((with_reducible refine k0.mono ?_); rintro e w0 ⟨rfl, b0⟩)
  have kg := great_any A c os w0 (by
    obtain ⟨A', c', e, h1, h2, h3, h4⟩ := HS.out
    refine ⟨A', c', e, h1, h2, fun i o ho => ?_, fun o ho => ?_⟩
    · obtain ⟨p, r1, r2, r3⟩ := h3 i o ho
      exact ⟨p, r1, Nat.lt_of_lt_of_le r2 b0.size, fun j u hu => (b0.cell (by rw [add_block]; exact r2)).trans (r3 j u hu)⟩
    · obtain ⟨q1, q2, q3, q4, q5, q6, q7, q8⟩ := h4 o ho
      obtain ⟨X, x, r1, r2, r3, r4, r5⟩ := q8
      exact ⟨q1, q2, q3, q4, q5, q6, q7, ⟨X, x, r1, r2, r3, (r4.below b0).more b0.size, r5⟩⟩)
  have B0 := Lib.hid b0
  clear b0 k0
  ((with_reducible refine kg.mono ?_); rintro e wg ⟨g, rfl, hg, bg⟩)
  have Bg := Lib.hid (B0.out.trans (bg.mono B0.out.size))
  clear bg kg B0
  cases g
  · obtain ⟨hlen, hg2⟩ := hg rfl
    have k1 := newpower_any wg
    clear hg hg2
    go_wp2_with ((with_reducible refine k1.mono ?_); rintro e w1 ⟨rfl, P1, b1⟩)
    have k2 := C1.new 20 5 wg.heap.size (by omega) (by omega) _ w1 P1 (z := 20) rfl
    have hf : At.from ⟨w1.heap.size + 1, w1.heap.size, wg.heap.size, none, none⟩ w.heap.size := At.from_new (Nat.le_trans Bg.out.size b1.size) Bg.out.size
    have B1 := Lib.hid (Bg.out.trans (b1.mono Bg.out.size))
    clear P1 b1 k1 Bg
    go_wp2_with ((with_reducible refine k2.mono ?_); rintro e w2 ⟨rfl, C2, b2⟩)
    have B2 : Hid (Below w.heap.size w w2) := Lib.hid (B1.out.trans (b2.mono B1.out.size))
    have H2 := Lib.hid C2
    have Hf := Lib.hid hf
    obtain ⟨a, ha⟩ : ∃ a : At, a = ⟨w1.heap.size + 1, w1.heap.size, wg.heap.size, none, none⟩ := ⟨_, rfl⟩
    have hac : a.c = w1.heap.size + 1 := by rw [ha]
    rw [← hac]
    rw [← ha] at H2 Hf
    clear C2 b2 k2 B1 hf hac ha
    go_wp2_with ((with_reducible refine (kpb _).mono ?_); rintro e w3 ⟨rfl, b3⟩)
    have B3 := Lib.hid (B2.out.trans (b3.mono B2.out.size))
    have H3 := Lib.hid (H2.out.after b3)
    have k3 := H3.out.prog fresh_off fresh_fits (by omega) (k := 0) (by omega) rfl hL (zb := 5) (zk := 0) rfl rfl (m := 258) (z := 0) rfl
    rw [one_eq hL] at k3
    clear b3 H2 B2
    go_wp2_with ((with_reducible refine k3.mono ?_); rintro e w4 ⟨rfl, C4, q4⟩)
    have B4 := Lib.hid (Below.chg B3.out q4 Hf.out (Nat.le_refl _))
    have H4 : Hid (KP w4 a d 1) := Lib.hid (KP.start C4)
    clear C4 q4 k3 B3 H3
    go_loopw [36] (fun i wr => ∃ j : Nat, j ≤ os.length ∧ i = .int .i64 j ∧ KP wr a d (j + 1) ∧ Below w.heap.size w wr) (fun i _ => os.length - (intOf i).toNat)
    case atStart => exact ⟨0, by omega, rfl, H4.out, B4.out⟩
    case round =>
      obtain ⟨j, hj, rfl, hC, hb⟩ := hrel
      clear B4 H4
      by_cases hlt : j < os.length
      · obtain ⟨p, rfl, hok, hld⟩ := HS.out.at_ hlt hb
        obtain ⟨o, ho⟩ : ∃ o, o = os[j] := ⟨_, rfl⟩
        rw [← ho] at hok hld
        have hone := OpV.one hok
        obtain ⟨by_, hby⟩ := u8_byte o.by_ hok.by_
        have HBY := Lib.hid hby
        have HNR := Lib.hid (i64_range hok.n)
        have HL := Lib.hid hld
        have HC := Lib.hid hC
        have HB := Lib.hid hb
        clear hok ho hb hC hld hby
        obtain ⟨ob, hob⟩ : ∃ ob, ob = o.b := ⟨_, rfl⟩
        have HOB := Lib.hid hob
        have hkk := and_3 o.k
        clear hob
        have hk4 : o.k % 4 = 0 ∨ o.k % 4 = 1 ∨ o.k % 4 = 2 ∨ o.k % 4 = 3 := by omega
        rcases hk4 with h4 | h4 | h4 | h4
        · rw [h4] at hkk
          clear h4
          by_cases hb5 : ob = 5
          · subst hb5
            go_wp2_with (first | (with_reducible refine wpl_oload (.tmp 38) rfl rfl rfl HL.out ?_) | ((with_reducible refine wpl_ostore (.tmp 9) (.tmp 39) rfl rfl (Blk.new _ _ zOp) rfl rfl hone rfl ?_); intro w5 R5 g5 e5; have ck : w5.cell? ⟨wr.heap.size, 0, none⟩ = some (.int .i64 o.k) := R5.cell 0; have cb : w5.cell? ⟨wr.heap.size, 2, none⟩ = some (.int .i64 5) := (R5.cell 2).trans (by rw [HOB.out]; rfl); have b5 : Below wr.heap.size wr w5 := ((Below.refl _ _).alloc (Nat.le_refl _) _).grown g5 (by simp) (fun k e => by cases e; exact Nat.le_refl _); have H6 := Lib.hid (HC.out.after b5); have c0 := H6.out.cell0))
            have B6 := Lib.hid (HB.out.trans (b5.mono HB.out.size))
            have hgv : ¬ a.all wr.heap.size := fun e => Nat.lt_irrefl _ (HC.out.all_lt e)
            clear g5 e5 b5 HL HB HC hone
            exact ⟨⟨j + 1, by omega, by go_num, H6.out.more, B6.out⟩, by simp [intOf]; omega⟩
          · have d5 : (ob != 5) = true := by simp [hb5]
            go_wp2_with (first | (with_reducible refine wpl_oload (.tmp 38) rfl rfl rfl HL.out ?_) | ((with_reducible refine wpl_ostore (.tmp 9) (.tmp 39) rfl rfl (Blk.new _ _ zOp) rfl rfl hone rfl ?_); intro w5 R5 g5 e5; have ck : w5.cell? ⟨wr.heap.size, 0, none⟩ = some (.int .i64 o.k) := R5.cell 0; have cb : w5.cell? ⟨wr.heap.size, 2, none⟩ = some (.int .i64 ob) := (R5.cell 2).trans (by rw [HOB.out]; rfl); have b5 : Below wr.heap.size wr w5 := ((Below.refl _ _).alloc (Nat.le_refl _) _).grown g5 (by simp) (fun k e => by cases e; exact Nat.le_refl _); have H6 := Lib.hid (HC.out.after b5); have c0 := H6.out.cell0))
            have B6 := Lib.hid (HB.out.trans (b5.mono HB.out.size))
            have hgv : ¬ a.all wr.heap.size := fun e => Nat.lt_irrefl _ (HC.out.all_lt e)
            clear g5 e5 b5 HL HB HC hone
            have ke := H6.out.erase (by omega) ob hb5
            ((with_reducible refine ke.mono ?_); rintro e w7 ⟨r7, rfl, C7, q7⟩)
            have B7 := Lib.hid (Below.chg B6.out q7 Hf.out (Nat.le_refl _))
            have H7 := Lib.hid C7
            clear C7 q7 ke
            try (go_wp2_with fail)
            exact ⟨⟨j + 1, by omega, by go_num, H7.out, B7.out⟩, by simp [intOf]; omega⟩
        · rw [h4] at hkk
          clear h4
          go_wp2_with (first | (with_reducible refine wpl_oload (.tmp 38) rfl rfl rfl HL.out ?_) | ((with_reducible refine wpl_ostore (.tmp 9) (.tmp 39) rfl rfl (Blk.new _ _ zOp) rfl rfl hone rfl ?_); intro w5 R5 g5 e5; have ck : w5.cell? ⟨wr.heap.size, 0, none⟩ = some (.int .i64 o.k) := R5.cell 0; have cb : w5.cell? ⟨wr.heap.size, 2, none⟩ = some (.int .i64 ob) := (R5.cell 2).trans (by rw [HOB.out]; rfl); have b5 : Below wr.heap.size wr w5 := ((Below.refl _ _).alloc (Nat.le_refl _) _).grown g5 (by simp) (fun k e => by cases e; exact Nat.le_refl _); have H6 := Lib.hid (HC.out.after b5); have c0 := H6.out.cell0))
          have B6 := Lib.hid (HB.out.trans (b5.mono HB.out.size))
          have hgv : ¬ a.all wr.heap.size := fun e => Nat.lt_irrefl _ (HC.out.all_lt e)
          clear g5 e5 b5 HL HB HC hone
          have E6 : EC w5 wr.heap.size o a := ⟨R5, c0⟩
          refine wp_region_held_drew (S := fun w' => EC w' wr.heap.size o a) (by kernel_rfl) (⟨E6.b.drew, E6.c⟩ : EC w5.drew wr.heap.size o a) (fun _ => ?_)
          have E6d : EC w5.drew wr.heap.size o a := ⟨E6.b.drew, E6.c⟩
          have H6d := Lib.hid (H6.out.after (Below.refl _ _).drew)
          have B6d := Lib.hid (B6.out.drew)
          clear ck cb c0 R5 E6
          refine wpAnyH_take (i := 0) (v := .pointer (some ⟨a.c, 0, none⟩)) rfl (by kernel_rfl) (by kernel_rfl) (by kernel_rfl) (fun _ _ _ h => h) (Or.inl ⟨by kernel_rfl, fun w _ => by go_simp⟩) E6d ?_
          refine wpAnyH_take (i := 1) (v := .pointer (some ⟨a.c, 0, none⟩)) rfl (by kernel_rfl) (by kernel_rfl) (by kernel_rfl) (fun _ _ _ h => h) (Or.inl ⟨by kernel_rfl, fun w _ => by go_simp⟩) E6d ?_
          refine wpAnyH_take (i := 2) (v := .pointer (some ⟨a.c, 0, none⟩)) rfl (by kernel_rfl) (by kernel_rfl) (by kernel_rfl) (fun _ _ _ h => h) (Or.inl ⟨by kernel_rfl, fun w _ => by go_simp⟩) E6d ?_
          refine wpAnyH_take (i := 3) (v := .pointer (some ⟨a.p, 0, none⟩)) rfl (by kernel_rfl) (by kernel_rfl) (by kernel_rfl) (fun _ _ _ h => h) (yields_one (p := ⟨a.c, 0, none⟩) ptr_flat (.tmp 65) (by kernel_rfl) (by kernel_rfl) (by kernel_rfl) (fun _ h => h.c)) E6d ?_
          refine wpAnyH_take (i := 4) (v := .pointer (some ⟨wr.heap.size, 4, none⟩)) rfl (by kernel_rfl) (by kernel_rfl) (by kernel_rfl) (fun _ _ _ h => h) (Or.inl ⟨by kernel_rfl, fun w _ => by go_simp⟩) E6d ?_
          refine wpAnyH_take (i := 5) (v := .int .i64 o.n) rfl (by kernel_rfl) (by kernel_rfl) (by kernel_rfl) (fun _ _ _ h => h) (yields_one (p := ⟨wr.heap.size, 4, none⟩) int_flat (.tmp 67) (by kernel_rfl) (by kernel_rfl) (by kernel_rfl) (fun _ h => h.b.cell 4)) E6d ?_
          refine wpAnyH_take (i := 6) (v := .pointer (some ⟨wr.heap.size, 5, none⟩)) rfl (by kernel_rfl) (by kernel_rfl) (by kernel_rfl) (fun _ _ _ h => h) (Or.inl ⟨by kernel_rfl, fun w _ => by go_simp⟩) E6d ?_
          refine wpAnyH_take (i := 7) (v := .int .i64 o.kp) rfl (by kernel_rfl) (by kernel_rfl) (by kernel_rfl) (fun _ _ _ h => h) (yields_one (p := ⟨wr.heap.size, 5, none⟩) int_flat (.tmp 69) (by kernel_rfl) (by kernel_rfl) (by kernel_rfl) (fun _ h => h.b.cell 5)) E6d ?_
          have k7 := H6d.out.cut o.n o.kp HNR.out
          refine wpAnyH_ready (rs := [8]) (by kernel_rfl) (by simp) (AllReadyH.cons rfl (fun K hK => ?_) AllReadyH.nil)
          go_simp
          ((with_reducible refine k7.mono ?_); rintro e w7 ⟨rfl, C7, q7⟩)
          have B7 := Lib.hid (Below.chg B6d.out q7 Hf.out (Nat.le_refl _))
          have H7 := Lib.hid C7
          have E7 : EC w7 wr.heap.size o a := ⟨E6d.b.chg q7 hgv, C7.cell0⟩
          refine hK.out _ _ E7 (fun _ => ?_)
          clear hK K k7 q7 C7
          refine wpAnyH_done (by kernel_rfl) ?_ _
          try (go_wp2_with fail)
          exact ⟨⟨j + 1, by omega, by go_num, H7.out, B7.out⟩, by simp [intOf]; omega⟩
        · rw [h4] at hkk
          clear h4
          go_wp2_with (first | (with_reducible refine wpl_oload (.tmp 38) rfl rfl rfl HL.out ?_) | ((with_reducible refine wpl_ostore (.tmp 9) (.tmp 39) rfl rfl (Blk.new _ _ zOp) rfl rfl hone rfl ?_); intro w5 R5 g5 e5; have ck : w5.cell? ⟨wr.heap.size, 0, none⟩ = some (.int .i64 o.k) := R5.cell 0; have cb : w5.cell? ⟨wr.heap.size, 2, none⟩ = some (.int .i64 ob) := (R5.cell 2).trans (by rw [HOB.out]; rfl); have b5 : Below wr.heap.size wr w5 := ((Below.refl _ _).alloc (Nat.le_refl _) _).grown g5 (by simp) (fun k e => by cases e; exact Nat.le_refl _); have H6 := Lib.hid (HC.out.after b5); have c0 := H6.out.cell0))
          have B6 := Lib.hid (HB.out.trans (b5.mono HB.out.size))
          have hgv : ¬ a.all wr.heap.size := fun e => Nat.lt_irrefl _ (HC.out.all_lt e)
          clear g5 e5 b5 HL HB HC hone
          have ke := H6.out.on (by omega)
          ((with_reducible refine ke.mono ?_); rintro e w7 ⟨rfl, C7, _, q7⟩)
          have B7 := Lib.hid (Below.chg B6.out q7 Hf.out (Nat.le_refl _))
          have H7 := Lib.hid C7
          clear C7 q7 ke
          try (go_wp2_with fail)
          exact ⟨⟨j + 1, by omega, by go_num, H7.out, B7.out⟩, by simp [intOf]; omega⟩
        · rw [h4] at hkk
          clear h4
          go_wp2_with (first | (with_reducible refine wpl_oload (.tmp 38) rfl rfl rfl HL.out ?_) | ((with_reducible refine wpl_ostore (.tmp 9) (.tmp 39) rfl rfl (Blk.new _ _ zOp) rfl rfl hone rfl ?_); intro w5 R5 g5 e5; have ck : w5.cell? ⟨wr.heap.size, 0, none⟩ = some (.int .i64 o.k) := R5.cell 0; have cb : w5.cell? ⟨wr.heap.size, 2, none⟩ = some (.int .i64 ob) := (R5.cell 2).trans (by rw [HOB.out]; rfl); have b5 : Below wr.heap.size wr w5 := ((Below.refl _ _).alloc (Nat.le_refl _) _).grown g5 (by simp) (fun k e => by cases e; exact Nat.le_refl _); have H6 := Lib.hid (HC.out.after b5); have c0 := H6.out.cell0))
          have B6 := Lib.hid (HB.out.trans (b5.mono HB.out.size))
          have hgv : ¬ a.all wr.heap.size := fun e => Nat.lt_irrefl _ (HC.out.all_lt e)
          clear g5 e5 b5 HL HB HC hone
          have kp := lpage_any by_
          rw [← HBY.out] at kp
          have E6 : EC w5 wr.heap.size o a := ⟨R5, c0⟩
          refine wp_region_held_drew (S := fun w' => EC w' wr.heap.size o a) (by kernel_rfl) (⟨E6.b.drew, E6.c⟩ : EC w5.drew wr.heap.size o a) (fun _ => ?_)
          have E6d : EC w5.drew wr.heap.size o a := ⟨E6.b.drew, E6.c⟩
          have H6d := Lib.hid (H6.out.after (Below.refl _ _).drew)
          have B6d := Lib.hid (B6.out.drew)
          clear ck cb c0 R5 E6
          refine wpAnyH_take (i := 0) (v := .pointer (some ⟨a.c, 0, none⟩)) rfl (by kernel_rfl) (by kernel_rfl) (by kernel_rfl) (fun _ _ _ h => h) (Or.inl ⟨by kernel_rfl, fun w _ => by go_simp⟩) E6d ?_
          refine wpAnyH_take (i := 1) (v := .pointer (some ⟨wr.heap.size, 2, none⟩)) rfl (by kernel_rfl) (by kernel_rfl) (by kernel_rfl) (fun _ _ _ h => h) (Or.inl ⟨by kernel_rfl, fun w _ => by go_simp⟩) E6d ?_
          refine wpAnyH_take (i := 2) (v := .int .i64 o.b) rfl (by kernel_rfl) (by kernel_rfl) (by kernel_rfl) (fun _ _ _ h => h) (yields_one (p := ⟨wr.heap.size, 2, none⟩) int_flat (.tmp 44) (by kernel_rfl) (by kernel_rfl) (by kernel_rfl) (fun _ h => h.b.cell 2)) E6d ?_
          refine wpAnyH_take (i := 3) (v := .pointer (some ⟨wr.heap.size, 3, none⟩)) rfl (by kernel_rfl) (by kernel_rfl) (by kernel_rfl) (fun _ _ _ h => h) (Or.inl ⟨by kernel_rfl, fun w _ => by go_simp⟩) E6d ?_
          refine wpAnyH_take (i := 4) (v := .int .i64 o.p) rfl (by kernel_rfl) (by kernel_rfl) (by kernel_rfl) (fun _ _ _ h => h) (yields_one (p := ⟨wr.heap.size, 3, none⟩) int_flat (.tmp 46) (by kernel_rfl) (by kernel_rfl) (by kernel_rfl) (fun _ h => h.b.cell 3)) E6d ?_
          refine wpAnyH_take (i := 5) (v := .pointer (some ⟨wr.heap.size, 6, none⟩)) rfl (by kernel_rfl) (by kernel_rfl) (by kernel_rfl) (fun _ _ _ h => h) (Or.inl ⟨by kernel_rfl, fun w _ => by go_simp⟩) E6d ?_
          refine wpAnyH_take (i := 6) (v := .int .u8 o.by_) rfl (by kernel_rfl) (by kernel_rfl) (by kernel_rfl) (fun _ _ _ h => h) (yields_one (p := ⟨wr.heap.size, 6, none⟩) byte_flat (.tmp 48) (by kernel_rfl) (by kernel_rfl) (by kernel_rfl) (fun _ h => h.b.cell 6)) E6d ?_
          refine wpAnyH_ready (rs := [7]) (by kernel_rfl) (by simp) (AllReadyH.cons rfl (fun K hK => ?_) AllReadyH.nil)
          go_simp
          ((with_reducible refine (kp _).mono ?_); rintro e w8 ⟨rfl, b8⟩)
          have B8 := Lib.hid (B6d.out.trans (b8.mono B6d.out.size))
          have H8 := Lib.hid (H6d.out.after b8)
          have E8 : EC w8 wr.heap.size o a := ⟨E6d.b.after b8, H8.out.cell0⟩
          refine hK.out _ _ E8 (fun _ => ?_)
          clear hK K b8 B6d H6d E6d
          have k7 := H8.out.program (by omega) o.b o.p (lpage_length by_)
          refine wpAnyH_ready (rs := [8]) (by kernel_rfl) (by simp) (AllReadyH.cons rfl (fun K hK => ?_) AllReadyH.nil)
          go_simp
          ((with_reducible refine k7.mono ?_); rintro e w7 ⟨r7, rfl, C7, q7⟩)
          have B7 := Lib.hid (Below.chg B8.out q7 Hf.out (Nat.le_refl _))
          have H7 := Lib.hid C7
          have E7 : EC w7 wr.heap.size o a := ⟨E8.b.chg q7 hgv, C7.cell0⟩
          refine hK.out _ _ E7 (fun _ => ?_)
          clear hK K k7 q7 C7
          refine wpAnyH_done (by kernel_rfl) ?_ _
          try (go_wp2_with fail)
          exact ⟨⟨j + 1, by omega, by go_num, H7.out, B7.out⟩, by simp [intOf]; omega⟩
      · obtain rfl : j = os.length := by omega
        have HB := Lib.hid hb
        have c0 := hC.cell0
        have k9 := hC.on (by omega)
        clear hb hC
        go_wp2_with ((with_reducible refine k9.mono ?_); rintro e w7 ⟨rfl, _, ⟨X, kp, hX, C7⟩, q7⟩)
        have B7 := Lib.hid (Below.chg HB.out q7 Hf.out (Nat.le_refl _))
        have H7 := Lib.hid C7
        have hXl : 0 < X.pg.length := by
          rcases Nat.lt_or_ge 0 X.pg.length with h | h
          · exact h
          · rw [List.getD_eq_getElem?_getD, List.getElem?_eq_none h] at hX
            rw [← hX] at hL
            cases hL
        have HXL := Lib.hid hXl
        have k8 := H7.out.read rfl (k := 0) (by omega) (zb := 5) (zk := 0) rfl rfl
        rw [hX] at k8
        clear C7 q7 k9 HB c0 hX hXl
        go_wp2_with (first | ((with_reducible refine k8.mono ?_); rintro e w8 ⟨rfl, C8, b8⟩) | ((with_reducible refine wpl_pstore (.tmp 10) (.tmp 88) rfl rfl (PArr.new _ pzeros_length) rfl hL rfl ?_); intro w9 R9 g9 e9))
        have B8 := Lib.hid (B7.out.trans (b8.mono B7.out.size))
        have hgx1 : ¬ a.all w8.heap.size := fun e => Nat.lt_irrefl _ (C8.all_lt e)
        obtain ⟨gx, hgxe⟩ : ∃ gx, gx = w8.heap.size := ⟨_, rfl⟩
        have B9 := Lib.hid (pkept_new B8.out g9)
        have H9 := Lib.hid (C8.after (pkept_new (Below.refl _ _) g9))
        rw [← hgxe] at hgx1 R9 ⊢
        have X9 := Lib.hid R9
        clear g9 e9 C8 b8 k8 H7 B7 B8 hgxe R9
        have k10 := H9.out.eraseOk rfl (okFits kp) (by omega) rfl (zb := 5) rfl
        go_wp2_with ((with_reducible refine k10.mono ?_); rintro e w10 ⟨rfl, C10, q10⟩)
        have B10 := Lib.hid (Below.chg B9.out q10 Hf.out (Nat.le_refl _))
        have H10 : Hid (C1 w10 a 20 5 { X with nx := 0, pg := wipP 8 X.pg } 501 ⟨false, -1, kp⟩) := Lib.hid C10
        have X10 := Lib.hid (X9.out.chg q10 hgx1)
        clear C10 q10 k10 B9 H9 X9
        have k11 := H10.out.read rfl (k := 0) (by omega) (zb := 5) (zk := 0) rfl rfl
        rw [show ({ X with nx := 0, pg := wipP 8 X.pg } : Bk).pg.getD 0 [] = NM.ff from wiped8 _ HXL.out] at k11
        go_wp2_with (first | ((with_reducible refine k11.mono ?_); rintro e w11 ⟨rfl, C11, b11⟩) | ((with_reducible refine wpl_pstore (.tmp 13) (.tmp 95) rfl rfl (PArr.new _ pzeros_length) rfl NM.ff_length rfl ?_); intro w12 R12y g12 e12))
        have B11 := Lib.hid (B10.out.trans (b11.mono B10.out.size))
        have hgy1 : ¬ a.all w11.heap.size := fun e => Nat.lt_irrefl _ (C11.all_lt e)
        obtain ⟨gy, hgye⟩ : ∃ gy, gy = w11.heap.size := ⟨_, rfl⟩
        have B12 := Lib.hid (pkept_new B11.out g12)
        have H12 := Lib.hid (C11.after (pkept_new (Below.refl _ _) g12))
        have X12 := (X10.out.after b11).after (pkept_new (Below.refl _ _) g12)
        rw [← hgye] at hgy1 R12y ⊢
        have R12 : XY w12 gx gy d NM.ff := ⟨X12, R12y⟩
        have hgx := And.intro hgx1 hgy1
        clear X12 R12y g12 e12 C11 b11 k11 H10 B10 B11 hgye X10 hgx1 hgy1 HXL
        have hEq : ∀ w, (Op.equalIn 10000 55 (.agg (cl d)) (.agg (cl d))).run Try.prog w = .ok true w := fun w => by
          have := equalIn_pcl hL hL w
          rwa [decide_eq_true rfl] at this
        refine wp_region_held_drew (S := fun w' => XY w' gx gy d NM.ff) (by kernel_rfl) R12.drew (fun _ => ?_)
        have R12d := R12.drew
        have H12d := Lib.hid (H12.out.after (Below.refl _ _).drew)
        have B12d := Lib.hid (B12.out.drew)
        refine wpAnyH_take (i := 0) (v := .int .i64 0) rfl (by kernel_rfl) (by kernel_rfl) (by kernel_rfl) (fun _ _ _ h => h) (Or.inl ⟨by kernel_rfl, fun w _ => by go_simp⟩) R12d ?_
        refine wpAnyH_take (i := 1) (v := .bool true) rfl (by kernel_rfl) (by kernel_rfl) (by kernel_rfl) (fun _ _ _ h => h) (Or.inl ⟨by kernel_rfl, fun w _ => by go_simp⟩) R12d ?_
        refine wpAnyH_take (i := 2) (v := .bool true) rfl (by kernel_rfl) (by kernel_rfl) (by kernel_rfl) (fun _ _ _ h => h) (Or.inl ⟨by kernel_rfl, fun w _ => by go_simp⟩) R12d ?_
        refine wpAnyH_take (i := 3) (v := .agg (cl d)) rfl (by kernel_rfl) (by kernel_rfl) (by kernel_rfl) (fun _ _ _ h => h) (yields_pload (g := gx) (.tmp 10) (by kernel_rfl) (by kernel_rfl) (by kernel_rfl) (fun _ h => h.x)) R12d ?_
        refine wpAnyH_take (i := 4) (v := .int .u8 ((b.toNat : Nat) : Int)) rfl (by kernel_rfl) (by kernel_rfl) (by kernel_rfl) (fun _ _ _ h => h) (Or.inl ⟨by kernel_rfl, fun w _ => by go_simp⟩) R12d ?_
        refine wpAnyH_ready (rs := [5]) (by kernel_rfl) (by simp) (AllReadyH.cons rfl (fun K hK => ?_) AllReadyH.nil)
        go_simp
        ((with_reducible refine (kpb _).mono ?_); rintro e w13 ⟨rfl, b13⟩)
        have B13 := Lib.hid (B12d.out.trans (b13.mono B12d.out.size))
        have H13 := Lib.hid (H12d.out.after b13)
        have R13 := R12d.after b13
        refine hK.out _ _ R13 (fun _ => ?_)
        clear hK K b13 B12d H12d R12d
        refine wpAnyH_take (i := 6) (v := .bool true) rfl (by kernel_rfl) (by kernel_rfl) (by kernel_rfl) (fun _ _ _ h => h) (Or.inl ⟨by kernel_rfl, fun w _ => by go_simp⟩) R13 ?_
        refine wpAnyH_take (i := 7) (v := .bool true) rfl (by kernel_rfl) (by kernel_rfl) (by kernel_rfl) (fun _ _ _ h => h) (Or.inl ⟨by kernel_rfl, fun w _ => by go_simp⟩) R13 ?_
        refine wpAnyH_take (i := 8) (v := .bool true) rfl (by kernel_rfl) (by kernel_rfl) (by kernel_rfl) (fun _ _ _ h => h) (Or.inl ⟨by kernel_rfl, fun w _ => by go_simp⟩) R13 ?_
        refine wpAnyH_take (i := 9) (v := .int .i64 0) rfl (by kernel_rfl) (by kernel_rfl) (by kernel_rfl) (fun _ _ _ h => h) (Or.inl ⟨by kernel_rfl, fun w _ => by go_simp⟩) R13 ?_
        refine wpAnyH_take (i := 10) (v := .bool true) rfl (by kernel_rfl) (by kernel_rfl) (by kernel_rfl) (fun _ _ _ h => h) (Or.inl ⟨by kernel_rfl, fun w _ => by go_simp⟩) R13 ?_
        refine wpAnyH_take (i := 11) (v := .bool true) rfl (by kernel_rfl) (by kernel_rfl) (by kernel_rfl) (fun _ _ _ h => h) (Or.inl ⟨by kernel_rfl, fun w _ => by go_simp⟩) R13 ?_
        refine wpAnyH_take (i := 12) (v := .bool true) rfl (by kernel_rfl) (by kernel_rfl) (by kernel_rfl) (fun _ _ _ h => h) (Or.inl ⟨by kernel_rfl, fun w _ => by go_simp⟩) R13 ?_
        refine wpAnyH_take (i := 13) (v := .int .i64 0) rfl (by kernel_rfl) (by kernel_rfl) (by kernel_rfl) (fun _ _ _ h => h) (Or.inl ⟨by kernel_rfl, fun w _ => by go_simp⟩) R13 ?_
        refine wpAnyH_take (i := 14) (v := .bool true) rfl (by kernel_rfl) (by kernel_rfl) (by kernel_rfl) (fun _ _ _ h => h) (Or.inl ⟨by kernel_rfl, fun w _ => by go_simp⟩) R13 ?_
        refine wpAnyH_take (i := 15) (v := .bool true) rfl (by kernel_rfl) (by kernel_rfl) (by kernel_rfl) (fun _ _ _ h => h) (Or.inl ⟨by kernel_rfl, fun w _ => by go_simp⟩) R13 ?_
        refine wpAnyH_take (i := 16) (v := .bool true) rfl (by kernel_rfl) (by kernel_rfl) (by kernel_rfl) (fun _ _ _ h => h) (Or.inl ⟨by kernel_rfl, fun w _ => by go_simp⟩) R13 ?_
        refine wpAnyH_take (i := 17) (v := .pointer (some ⟨gy, 0, none⟩)) rfl (by kernel_rfl) (by kernel_rfl) (by kernel_rfl) (fun _ _ _ h => h) (Or.inl ⟨by kernel_rfl, fun w _ => by go_simp⟩) R13 ?_
        refine wpAnyH_take (i := 18) (v := .int .u8 255) rfl (by kernel_rfl) (by kernel_rfl) (by kernel_rfl) (fun _ _ _ h => h) (yields_one (p := ⟨gy, 0, none⟩) byte_flat (.tmp 114) (by kernel_rfl) (by kernel_rfl) (by kernel_rfl) (fun _ h => (h.y.cell 0).trans (ff_at (by omega)))) R13 ?_
        refine wpAnyH_take (i := 19) (v := .bool true) rfl (by kernel_rfl) (by kernel_rfl) (by kernel_rfl) (fun _ _ _ h => h) (Or.inl ⟨by kernel_rfl, fun w _ => by go_simp⟩) R13 ?_
        refine wpAnyH_take (i := 20) (v := .bool true) rfl (by kernel_rfl) (by kernel_rfl) (by kernel_rfl) (fun _ _ _ h => h) (Or.inl ⟨by kernel_rfl, fun w _ => by go_simp⟩) R13 ?_
        refine wpAnyH_take (i := 21) (v := .bool true) rfl (by kernel_rfl) (by kernel_rfl) (by kernel_rfl) (fun _ _ _ h => h) (Or.inl ⟨by kernel_rfl, fun w _ => by go_simp⟩) R13 ?_
        refine wpAnyH_take (i := 22) (v := .pointer (some ⟨gy, 257, none⟩)) rfl (by kernel_rfl) (by kernel_rfl) (by kernel_rfl) (fun _ _ _ h => h) (Or.inl ⟨by kernel_rfl, fun w _ => by go_simp⟩) R13 ?_
        refine wpAnyH_take (i := 23) (v := .int .u8 255) rfl (by kernel_rfl) (by kernel_rfl) (by kernel_rfl) (fun _ _ _ h => h) (yields_one (p := ⟨gy, 257, none⟩) byte_flat (.tmp 119) (by kernel_rfl) (by kernel_rfl) (by kernel_rfl) (fun _ h => (h.y.cell 257).trans (ff_at (by omega)))) R13 ?_
        refine wpAnyH_take (i := 24) (v := .bool true) rfl (by kernel_rfl) (by kernel_rfl) (by kernel_rfl) (fun _ _ _ h => h) (Or.inl ⟨by kernel_rfl, fun w _ => by go_simp⟩) R13 ?_
        refine wpAnyH_take (i := 25) (v := .bool true) rfl (by kernel_rfl) (by kernel_rfl) (by kernel_rfl) (fun _ _ _ h => h) (Or.inl ⟨by kernel_rfl, fun w _ => by go_simp⟩) R13 ?_
        refine wpAnyH_take (i := 26) (v := .bool true) rfl (by kernel_rfl) (by kernel_rfl) (by kernel_rfl) (fun _ _ _ h => h) (Or.inl ⟨by kernel_rfl, fun w _ => by go_simp⟩) R13 ?_
        refine wpAnyH_take (i := 27) (v := .pointer (some ⟨a.c, 0, none⟩)) rfl (by kernel_rfl) (by kernel_rfl) (by kernel_rfl) (fun _ _ _ h => h) (Or.inl ⟨by kernel_rfl, fun w _ => by go_simp⟩) R13 ?_
        refine wpAnyH_take (i := 28) (v := .int .u8 ((b.toNat : Nat) : Int)) rfl (by kernel_rfl) (by kernel_rfl) (by kernel_rfl) (fun _ _ _ h => h) (Or.inl ⟨by kernel_rfl, fun w _ => by go_simp⟩) R13 ?_
        refine wpAnyH_ready (rs := [29]) (by kernel_rfl) (by simp) (AllReadyH.cons rfl (fun K hK => ?_) AllReadyH.nil)
        go_simp
        ((with_reducible refine (kpb _).mono ?_); rintro e w14 ⟨rfl, b14⟩)
        have B14 := Lib.hid (B13.out.trans (b14.mono B13.out.size))
        have H14 := Lib.hid (H13.out.after b14)
        have R14 := R13.after b14
        refine hK.out _ _ R14 (fun _ => ?_)
        clear hK K b14 B13 H13 R13
        have k15 := H14.out.prog rfl (okFits kp) (by omega) (k := 0) (by omega) rfl hL (zb := 5) (zk := 0) rfl rfl (m := 258) (z := 0) rfl
        refine wpAnyH_ready (rs := [30]) (by kernel_rfl) (by simp) (AllReadyH.cons rfl (fun K hK => ?_) AllReadyH.nil)
        go_simp
        ((with_reducible refine k15.mono ?_); rintro e w15 ⟨rfl, C15, q15⟩)
        have B15 := Lib.hid (Below.chg B14.out q15 Hf.out (Nat.le_refl _))
        have H15 := Lib.hid C15
        have R15 := R14.chg q15 hgx
        refine hK.out _ _ R15 (fun _ => ?_)
        clear hK K k15 q15 C15 B14 H14 R14
        refine wpAnyH_take (i := 31) (v := .bool true) rfl (by kernel_rfl) (by kernel_rfl) (by kernel_rfl) (fun _ _ _ h => h) (Or.inl ⟨by kernel_rfl, fun w _ => by go_simp⟩) R15 ?_
        refine wpAnyH_take (i := 32) (v := .bool true) rfl (by kernel_rfl) (by kernel_rfl) (by kernel_rfl) (fun _ _ _ h => h) (Or.inl ⟨by kernel_rfl, fun w _ => by go_simp⟩) R15 ?_
        refine wpAnyH_ready (rs := [33]) (by kernel_rfl) (by simp) (AllReadyH.cons rfl (fun K hK => ?_) AllReadyH.nil)
        go_simp
        refine hK.out _ _ R15 (fun _ => ?_)
        clear hK K
        refine wpAnyH_done (by kernel_rfl) ?_ _
        go_wp2_with fail
        go_ret
        exact ⟨rfl, B15.out⟩
  · go_wp2_with fail
    go_ret
    exact ⟨rfl, Bg.out⟩
end Go.Proofs.Ytnclefdlmbkjmaa
