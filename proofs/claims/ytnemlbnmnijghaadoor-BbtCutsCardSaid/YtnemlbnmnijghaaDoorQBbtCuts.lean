/- The walk of BbtCuts: it answers true, and changes nothing that was there. Condition: the table of the check sum holds its sixteen numbers. -/
import Derived.Test.YtnemlbnmnijghaaDoorQBbtCutS
import Derived.Test.YtnemlbnmnijghaaDoorQNandAnd
namespace Go.Proofs.YtnemlbnmnijghaaDoor
open Go.RowKit
theorem on_fits (s : NM.Pwr) : s.on.fits := ⟨by show (-9223372036854775808 : Int) ≤ -1; omega, by show (-1 : Int) < 9223372036854775808; omega⟩
theorem cut_fits (s : NM.Pwr) {z keep : Int} (h0 : 0 ≤ z) (h : z < 4) : (s.cut z keep).fits := by
  refine ⟨?_, ?_⟩
  · show (-9223372036854775808 : Int) ≤ (if z < 0 then -1 else z)
    rw [if_neg (by omega)]; omega
  · show (if z < 0 then -1 else z) < (9223372036854775808 : Int)
    rw [if_neg (by omega)]; omega
section
variable {w w' : World} {a : At} {t lo hi m N q : Nat} {S : Ch} {s s' : NM.Pwr} {l l2 : Lay}
theorem grown_p (g : w.grownBy w' (some a.p)) : Chg w w' a.all := Chg.of_grown g (fun _ e => .inr (Option.some.inj e))
theorem CutS.pwr (h : CutS w a t lo hi m N q S s l) (g : w.grownBy w' (some a.p)) (hp : PPow w' a.p s') (hf : s'.fits) (ho : s'.off = false) : CutS w' a t lo hi m N q S s' l :=
  ⟨h.dev.cut g hp hf, h.tb.chg (grown_p g) h.tb.na, h.calm, ho, h.two, h.good, h.sz, h.len, h.few, h.ref.chg (grown_p g) (fun k h1 h2 h3 => by have := h.far k (.inl h3); omega), h.far⟩
theorem CutE.pwr (h : CutE w a N q S s l l2) (g : w.grownBy w' (some a.p)) (hp : PPow w' a.p s') (hf : s'.fits) : CutE w' a N q S s' l l2 := ⟨h.dev.cut g hp hf, h.calm, h.len, h.few, h.two⟩
theorem CutS.more (h : CutS w a t lo hi m N q S s l) : CutS w a t lo hi m N (q + 1) S s l := by
  obtain ⟨o, k, h1, h2⟩ := h.two
  exact ⟨h.dev, h.tb, h.calm, h.off, ⟨o, k, h1, by omega⟩, h.good, h.sz, h.len, few_le (by omega) h.few, h.ref, h.far⟩
/-- Open behind a call in which the power ended: the elder table, or the new one -/
theorem CutE.open_ (h : CutE w a N q S s l l2) (ho : s.off = false) (hg : l.good) (hn : l.n = N) (hg2 : l2.good) (hn2 : l2.n = N) : Calls Tryd.prog 21 #[.pointer (some ⟨a.c, 0, none⟩)] w fun e w' => ∃ t', w.heap.size ≤ t' ∧ e = .returned (.tuple #[.pointer (some ⟨t', 0, none⟩), .int .i64 0]) ∧ Below w.heap.size w w' ∧
    ((∀ lo hi m, RTL w' lo hi m l → (∀ k, a.all k ∨ k = t' → k < lo ∨ hi ≤ k) → CutS w' a t' lo hi m N (q + 1) S s l) ∧ Tb w' t' a l ∨ (∀ lo hi m, RTL w' lo hi m l2 → (∀ k, a.all k ∨ k = t' → k < lo ∨ hi ≤ k) → CutS w' a t' lo hi m N (q + 1) S s l2) ∧ Tb w' t' a l2) := by
  obtain ⟨o, k, hk, hT⟩ := h.two
  have hm : S.mayE s = 0 := may_here (b := 0) (k := 0) ho h.calm.live (by have := h.calm.len; omega) (by omega)
  have main : ∀ l3, Two2 S o k l3 → Calls Tryd.prog 21 #[.pointer (some ⟨a.c, 0, none⟩)] w fun e w' => ∃ t', w.heap.size ≤ t' ∧ e = .returned (.tuple #[.pointer (some ⟨t', 0, none⟩), .int .i64 0]) ∧ Tb w' t' a l3 ∧ Below w.heap.size w w' := fun l3 hT3 => by
    obtain ⟨pg, hlk⟩ := hT3.look
    have hE : S.lookE s = 0 := by unfold Ch.lookE; rw [if_pos hm, hlk]; rfl
    have hKp : (keptOf (S.lookK s)).lay = l3 := by unfold Ch.lookK; rw [if_pos hm, hlk]; rfl
    have ko := open_some h.dev hE
    rw [hKp] at ko
    exact ko
  rcases hT with hT | hT
  · refine (main l hT).mono ?_
    rintro e w' ⟨t', ht, rfl, T, b⟩
    exact ⟨t', ht, rfl, b, .inl ⟨fun lo hi m r f => ⟨h.dev.after b, T, h.calm, ho, ⟨o, k, hT, by omega⟩, hg, hn, h.len, h.few, r, f⟩, T⟩⟩
  · refine (main l2 hT).mono ?_
    rintro e w' ⟨t', ht, rfl, T, b⟩
    exact ⟨t', ht, rfl, b, .inr ⟨fun lo hi m r f => ⟨h.dev.after b, T, h.calm, ho, ⟨o, k, hT, by omega⟩, hg2, hn2, h.len, h.few, r, f⟩, T⟩⟩
end
set_option maxRecDepth 100000 in
set_option maxHeartbeats 16000000 in
theorem cuts_main (A : Option Addr) (cap : Nat) (os : List Op5) (A2 : Option Addr) (c2 : Nat) (zs : List Int) (A3 : Option Addr) (c3 : Nat) (ys : List Int) (w : World) (ht : Tab w) (hs : Script5 w w.heap.size (.slice A os.length cap) os) (hv : Nums w w.heap.size .i64 (.slice A2 zs.length c2) zs) (hy : Nums w w.heap.size .i64 (.slice A3 ys.length c3) ys) (h30 : os.length ≤ 30) (h40 : zs.length ≤ 40) (h41 : ys.length ≤ 40) :
    Calls Tryd.prog 4 #[.slice A os.length cap, .slice A2 zs.length c2, .slice A3 ys.length c3] w fun e w' => e = .returned (.bool true) ∧ Below w.heap.size w w' := by
  have d1 : decide ((40 : Int) < (zs.length : Int)) = false := by simp; omega
  have d0 : decide ((40 : Int) < (ys.length : Int)) = false := by simp; omega
  have d2 : decide ((30 : Int) < (os.length : Int)) = false := by simp; omega
  have ks := bbtspeaks_any w ht
  have HV := Lib.hid hv
  have HY := Lib.hid hy
  have HS := Lib.hid hs
  have HT := Lib.hid ht
  have H30 := Lib.hid h30
  have H40 := Lib.hid (And.intro h40 h41)
  have zo := zeroOp5
  clear hv hy hs ht h30 h40 h41
  go_enter Tryd.func4, Tryd.ntmps4
  go_wp2_with ((with_reducible refine ks.mono ?_); rintro e w1 ⟨rfl, b1⟩)
  have B1 := Lib.hid b1
  have k0 := newpower_any w1
  clear b1 ks
  go_wp2_with ((with_reducible refine k0.mono ?_); rintro e w2 ⟨rfl, P2, b2⟩)
  have B2 : Hid (Below w.heap.size w w2) := Lib.hid (B1.out.trans (b2.mono B1.out.size))
  have hv2 : Nums w2 w2.heap.size .i64 (.slice none 0 0) [] := ⟨none, 0, rfl, Nat.le_refl _, Nat.zero_le _, (fun j u h => by simp at h), fun z h => by cases h⟩
  have k1 := devNew HT.out B2.out w1.heap.size B1.out.size P2 24 (by omega) [] _ hv2 rfl
  rw [show ((24 : Nat) : Int) = 24 from rfl] at k1
  have hf := Lib.hid (behind_new (g := w2.heap.size) (p := w1.heap.size) (B := w.heap.size) B2.out.size B1.out.size)
  clear P2 b2 k0 hv2
  go_wp2_with fail
  ((with_reducible refine k1.mono ?_); rintro e w3 ⟨rfl, D3, b3⟩)
  have B3 : Hid (Below w.heap.size w w3) := Lib.hid (B2.out.trans (b3.mono B2.out.size))
  obtain ⟨a, ha⟩ : ∃ a : At, a = ⟨w2.heap.size + 1, w2.heap.size, w1.heap.size, none, none⟩ := ⟨_, rfl⟩
  have hac : w2.heap.size + 1 = a.c := by rw [ha]
  rw [hac]
  rw [← ha] at D3 hf
  obtain ⟨hg, hsz, _, _, _⟩ := fresh_marked (by omega) fresh24
  obtain ⟨S', ek, hcm, hK, hln, _⟩ := (marked_calm (N := 24) (zs := []) (by omega) (by simp) (by simp)).first (marked_blank (b := 0) (by omega) (by simp)) (marked_blank (b := 1) (by omega) (by simp)) hg.ok
  have k3 := format_main lay24 D3 (marked_may (by omega) _) fresh24 (marked_few _ _ _)
  have hfew := few_keep (Ch.marked 24 []) NM.Pwr.fresh lay24 0 (marked_few _ _ _)
  rw [ek] at k3 hfew
  simp only [tptr_ok] at k3 hfew
  have HG := Lib.hid (And.intro hg (And.intro hsz (And.intro hcm (And.intro hK (And.intro (hln.trans (markB_length 24 [])) hfew)))))
  clear hg hsz hcm hK hln hfew ek b3 k1 ha hac D3 B1 B2
  go_wp2_with fail
  ((with_reducible refine k3.mono ?_); rintro e w4 ⟨t, htl, rfl, D4, hT4, c4⟩)
  have B4 : Hid (Below w.heap.size w w4) := Lib.hid (Below.chgAll B3.out c4 hf.out (Nat.le_refl _))
  have HD4 := Lib.hid D4
  have HT4 := Lib.hid (hT4 trivial)
  have HTL : Hid (w.heap.size ≤ t) := Lib.hid (Nat.le_trans B3.out.size htl)
  clear k3 htl D4 hT4 c4 B3
  have mk := make24
  have X5 : Below w4.heap.size w4 (w4.alloc (.cells (bl (falses 24)).toArray 4)) := (Below.refl _ _).alloc (Nat.le_refl _) _
  have kF := refFormat_yes 24 (by omega) (by omega) w4.heap.size 24 (falses 24) (falses_length 24) (w4.alloc (.cells (bl (falses 24)).toArray 4)) (row_blk (Z := []) (by rw [List.append_nil]; exact Blk.new w4 _ _)) (fun _ => false) (fun j hj => falses_at hj) rfl rfl (by rw [uses24]; decide)
  rw [uses24] at kF
  have HX5 := Lib.hid X5
  clear X5
  go_wp2_with ((with_reducible refine kF.mono ?_); rintro e w6 ⟨m, rfl, R6, b6⟩)
  have B6 : Below w.heap.size w w6 := (B4.out.trans (HX5.out.mono B4.out.size)).trans (b6.mono (Nat.le_trans B4.out.size HX5.out.size))
  have D6 := HD4.out.after (HX5.out.trans (b6.mono HX5.out.size))
  have T6 := HT4.out.after (HX5.out.trans (b6.mono HX5.out.size))
  have hl6 : w4.heap.size ≤ (w4.alloc (.cells (bl (falses 24)).toArray 4)).heap.size := HX5.out.size
  have I6 : CutS w6 a t (w4.alloc (.cells (bl (falses 24)).toArray 4)).heap.size w6.heap.size m 24 0 S' NM.Pwr.fresh lay24 :=
    ⟨D6, T6, HG.out.2.2.1.toP, rfl, ⟨1, 1, HG.out.2.2.2.1.two HG.out.1 (HG.out.2.1.trans HG.out.2.2.2.2.1.symm) (by omega), by omega⟩, HG.out.1, HG.out.2.1, HG.out.2.2.2.2.1, HG.out.2.2.2.2.2, (by unfold RTL; rw [← lost24]; exact R6), fun k hk => .inl (by
      rcases hk with h | rfl
      · have := HD4.out.lt k h; omega
      · have := HT4.out.blk.lt; omega)⟩
  have HI6 := Lib.hid I6
  have HB6 := Lib.hid B6
  have mkO := HTL
  clear B6 D6 T6 hl6 I6 R6 b6 kF HX5 HD4 HT4 B4 mk mkO
  go_wp2_with fail
  go_loopw [9, 11, 52] (fun vt vm i wr => ∃ j : Nat, j ≤ os.length ∧ i = .int .i64 j ∧ ∃ (t m lo hi : Nat) (S : Ch) (s : NM.Pwr) (l : Lay), vt = .pointer (some ⟨t, 0, none⟩) ∧ vm = .pointer (some ⟨m, 0, none⟩) ∧ CutS wr a t lo hi m 24 j S s l ∧ w.heap.size ≤ t ∧ Below w.heap.size w wr) (fun _ _ i _ => os.length - (intOf i).toNat)
  case atStart => exact ⟨0, Nat.zero_le _, rfl, t, m, _, _, S', _, _, rfl, rfl, HI6.out, HTL.out, HB6.out⟩
  case round =>
    obtain ⟨j, hj, rfl, t, m, lo, hi, S, s, l, rfl, rfl, hI, htl, hB⟩ := hrel
    clear HI6 HB6 HTL
    have HI := Lib.hid hI
    have HB := Lib.hid hB
    have HTL := Lib.hid htl
    by_cases hlt : j < os.length
    · obtain ⟨p, o, rfl, _, _, hld⟩ := HS.out.get hlt hB
      have O2 := Blk.new wr 39 zOp5
      have hs5 := seg5 (a := zOp5) (b := o.row) rfl rfl
      have hj30 : (j : Int) < 30 := by have := H30.out; omega
      have hb6 : ∀ X, (wr.alloc (.cells zOp5.toArray 39)).grownBy X (some wr.heap.size) → Below wr.heap.size wr X := fun X g => ((Below.refl wr.heap.size wr).alloc (Nat.le_refl _) _).grown g (by simp) (fun k e => Nat.le_of_eq (Option.some.inj e))
      have hks : ∀ X, Below wr.heap.size wr X → _ := fun X hb => bstep_any (hI.after hb).ref hI.good o
      have hfar : ∀ k, a.all k ∨ k = t → k < wr.heap.size := fun k hk => by
        rcases hk with h | rfl
        · exact hI.dev.lt k h
        · exact hI.tb.blk.lt
      have KS := Lib.hid hks
      have HFR := Lib.hid hfar
      have hbe : ∀ X7 Y, Below wr.heap.size wr X7 → Chg X7 Y (fun k => a.all k ∨ k = t) → Below w.heap.size w Y := fun X7 Y b q => (HB.out.trans (b.mono HB.out.size)).trans (q.below (fun k h => h.elim (hf.out k) (fun e => e ▸ HTL.out)) (Nat.le_trans HB.out.size b.size))
      have HBE := Lib.hid hbe
      have HBX : Hid (∀ X Y, Below w.heap.size w X → Chg X Y (fun k => a.all k ∨ k = t) → Below w.heap.size w Y) := Lib.hid (fun X Y b q => b.trans (q.below (fun k h => h.elim (hf.out k) (fun e => e ▸ HTL.out)) b.size))
      obtain ⟨bk, hbk⟩ : ∃ bk, bk = o.blk l := ⟨_, rfl⟩
      obtain ⟨cn, hcn⟩ : ∃ cn, cn = l.can o bk := ⟨_, rfl⟩
      rw [← hbk, ← hcn] at KS
      have HCN := Lib.hid (And.intro hbk hcn)
      have HJ := Lib.hid hlt
      clear hI hB htl hks hfar hbe hcn hbk
      have hcut : (j < zs.length ∧ j < ys.length) ∨ ¬ (j < zs.length ∧ j < ys.length) := Decidable.em _
      rcases hcut with ⟨x1, x2⟩ | hx
      · have e1 : decide ((j : Int) < (zs.length : Int)) = true := by simp; omega
        have e2 : decide ((j : Int) < (ys.length : Int)) = true := by simp; omega
        go_wp2_with (first
          | (with_reducible refine wpl_o5load (.tmp 55) rfl rfl rfl hld ?_)
          | (with_reducible refine wpl_seg_store sizeOp5 (.tmp 13) (.tmp 56) rfl rfl O2 0 o.row rfl (Nat.le_refl _) (Op5.one _) rfl rfl _ hs5 ?_; intro w6 O6 g6 e6; clear e6; have B6 := hb6 _ g6; have k7 := KS.out _ B6)
          | (with_reducible refine wpl_seg_load aggOp5 sizeOp5 (.tmp 13) rfl rfl O6 0 o.row rfl rfl rfl ?_)
          | ((with_reducible refine k7.mono ?_); rintro e w7 ⟨m2, lo2, rfl, hlo2, R7, b7⟩; have O7 := O6.after b7; have B7 := B6.trans (b7.mono B6.size)))
        obtain ⟨Ax, cx, evx, _, _, hrx, _⟩ := HV.out
        obtain ⟨rfl, _, rfl⟩ := Value.slice.inj evx
        obtain ⟨Ay, cy, evy, _, _, hry, _⟩ := HY.out
        obtain ⟨rfl, _, rfl⟩ := Value.slice.inj evy
        obtain ⟨p2, rfl, hab2, hcl2⟩ := hrx.at_ (k := j) (by simpa using x1)
        obtain ⟨p3, rfl, hab3, hcl3⟩ := hry.at_ (k := j) (by simpa using x2)
        rw [List.getElem_map] at hcl2 hcl3
        have BW7 : Below w.heap.size w w7 := HB.out.trans (B7.mono HB.out.size)
        obtain ⟨zc, hzc⟩ : ∃ z, z = zs[j] := ⟨_, rfl⟩
        obtain ⟨zk, hzk⟩ : ∃ z, z = ys[j] := ⟨_, rfl⟩
        rw [← hzc] at hcl2
        rw [← hzk] at hcl3
        have q2 : w7.cell? (p2.add j) = some (.int .i64 zc) := (BW7.cell (p := p2.add j) (by rw [add_block]; exact hab2)).trans hcl2
        have q3 : w7.cell? (p3.add j) = some (.int .i64 zk) := (BW7.cell (p := p3.add j) (by rw [add_block]; exact hab3)).trans hcl3
        have I7 := HI.out.after B7
        have S2 : w7.cell? ⟨a.c, 0, none⟩ = some (.pointer (some ⟨a.p, 0, none⟩)) ∧ w7.cell? (p2.add j) = some (.int .i64 zc) ∧ w7.cell? (p3.add j) = some (.int .i64 zk) := ⟨I7.dev.pc.cell.1, q2, q3⟩
        clear evx evy hrx hry hcl2 hcl3 hzc hzk q2 q3 k7 b7 hs5 O2 hld
        refine wp_region_held_drew (S := (fun w' => w'.cell? ⟨a.c, 0, none⟩ = some (.pointer (some ⟨a.p, 0, none⟩)) ∧ w'.cell? (p2.add j) = some (.int .i64 zc) ∧ w'.cell? (p3.add j) = some (.int .i64 zk))) (by kernel_rfl) S2 (fun _ => ?_)
        refine wpAnyH_take (i := 0) (v := .pointer (some ⟨a.c, 0, none⟩)) rfl (by kernel_rfl) (by kernel_rfl) (by kernel_rfl) (fun _ _ _ h => h) (Or.inl ⟨by kernel_rfl, fun w _ => by go_simp⟩) S2 ?_
        refine wpAnyH_take (i := 1) (v := .pointer (some ⟨a.c, 0, none⟩)) rfl (by kernel_rfl) (by kernel_rfl) (by kernel_rfl) (fun _ _ _ h => h) (Or.inl ⟨by kernel_rfl, fun w _ => by go_simp⟩) S2 ?_
        refine wpAnyH_take (i := 2) (v := .pointer (some ⟨a.c, 0, none⟩)) rfl (by kernel_rfl) (by kernel_rfl) (by kernel_rfl) (fun _ _ _ h => h) (Or.inl ⟨by kernel_rfl, fun w _ => by go_simp⟩) S2 ?_
        refine wpAnyH_take (i := 3) (v := .pointer (some ⟨a.p, 0, none⟩)) rfl (by kernel_rfl) (by kernel_rfl) (by kernel_rfl) (fun _ _ _ h => h) (yields_one (ty := 29) (fun w => by kernel_rfl) (.tmp 76) (by kernel_rfl) (by kernel_rfl) (by kernel_rfl) (fun _ h => h.1)) S2 ?_
        refine wpAnyH_take (i := 4) (v := .slice (some p2) zs.length c2) rfl (by kernel_rfl) (by kernel_rfl) (by kernel_rfl) (fun _ _ _ h => h) (Or.inl ⟨by kernel_rfl, fun w _ => by go_simp⟩) S2 ?_
        refine wpAnyH_take (i := 5) (v := .int .i64 (j : Int)) rfl (by kernel_rfl) (by kernel_rfl) (by kernel_rfl) (fun _ _ _ h => h) (Or.inl ⟨by kernel_rfl, fun w _ => by go_simp⟩) S2 ?_
        refine wpAnyH_take (i := 6) (v := .pointer (some (p2.add j))) rfl (by kernel_rfl) (by kernel_rfl) (by kernel_rfl) (fun _ _ _ h => h) (Or.inl ⟨by kernel_rfl, fun w _ => by go_simp⟩) S2 ?_
        refine wpAnyH_take (i := 7) (v := .int .i64 zc) rfl (by kernel_rfl) (by kernel_rfl) (by kernel_rfl) (fun _ _ _ h => h) (yields_one (ty := 3) (fun w => by kernel_rfl) (.tmp 80) (by kernel_rfl) (by kernel_rfl) (by kernel_rfl) (fun _ h => h.2.1)) S2 ?_
        refine wpAnyH_take (i := 8) (v := .int .i64 (bits .and .i64 zc 3)) rfl (by kernel_rfl) (by kernel_rfl) (by kernel_rfl) (fun _ _ _ h => h) (Or.inl ⟨by kernel_rfl, fun w _ => by go_simp⟩) S2 ?_
        refine wpAnyH_take (i := 9) (v := .slice (some p3) ys.length c3) rfl (by kernel_rfl) (by kernel_rfl) (by kernel_rfl) (fun _ _ _ h => h) (Or.inl ⟨by kernel_rfl, fun w _ => by go_simp⟩) S2 ?_
        refine wpAnyH_take (i := 10) (v := .int .i64 (j : Int)) rfl (by kernel_rfl) (by kernel_rfl) (by kernel_rfl) (fun _ _ _ h => h) (Or.inl ⟨by kernel_rfl, fun w _ => by go_simp⟩) S2 ?_
        refine wpAnyH_take (i := 11) (v := .pointer (some (p3.add j))) rfl (by kernel_rfl) (by kernel_rfl) (by kernel_rfl) (fun _ _ _ h => h) (Or.inl ⟨by kernel_rfl, fun w _ => by go_simp⟩) S2 ?_
        refine wpAnyH_take (i := 12) (v := .int .i64 zk) rfl (by kernel_rfl) (by kernel_rfl) (by kernel_rfl) (fun _ _ _ h => h) (yields_one (ty := 3) (fun w => by kernel_rfl) (.tmp 85) (by kernel_rfl) (by kernel_rfl) (by kernel_rfl) (fun _ h => h.2.2)) S2 ?_
        refine wpAnyH_ready (rs := [13]) (by kernel_rfl) (by simp) ?_
        with_reducible refine AllReadyH.cons rfl ?_ AllReadyH.nil
        intro K hK
        have I7d : CutS w7.drew a t lo hi m 24 j S s l := I7.after (Below.refl _ _).drew
        have kc := cut_any a.p s (bits .and .i64 zc 3) zk w7.drew I7d.dev.pw
        go_simp
        refine kc.mono ?_
        rintro e w8 ⟨rfl, P8, g8⟩
        have hz3 : bits .and .i64 zc 3 = zc % 4 := and_3 zc
        have I8 : CutS w8 a t lo hi m 24 j S (s.cut (bits .and .i64 zc 3) zk) l := I7d.pwr g8 P8 (cut_fits s (by rw [hz3]; omega) (by rw [hz3]; omega)) I7d.off
        have q8 : Chg w7 w8 a.all := (Chg.of_below (Below.refl w7.heap.size w7).drew).trans (grown_p g8)
        have hlw : wr.heap.size ≤ w6.heap.size := B6.size
        have R8 : RTL w8 lo2 w7.heap.size m2 (l.next o bk) := R7.chg q8 (fun k h1 h2 h3 => by have := HFR.out k (.inl h3); omega)
        have O8 : Blk w8 wr.heap.size 39 o.row := O7.chg q8 (fun h => Nat.lt_irrefl _ (HFR.out _ (.inl h)))
        have BW8 := HBE.out w7 w8 B7 (q8.more (fun k _ h => .inl h))
        have hlo3 : wr.heap.size ≤ lo2 := Nat.le_trans hlw hlo2
        have S8 : w8.cell? ⟨a.c, 0, none⟩ = some (.pointer (some ⟨a.p, 0, none⟩)) ∧ w8.cell? (p2.add j) = some (.int .i64 zc) ∧ w8.cell? (p3.add j) = some (.int .i64 zk) := by
          have hn2 : w8.cell? (p2.add j) = w7.cell? (p2.add j) := World.cell?_of_block (q8.block _ (World.block_lt_of_cell? w7 _ S2.2.1) (fun h => by have h1 := hf.out _ h; rw [add_block] at h1; omega))
          have hn3 : w8.cell? (p3.add j) = w7.cell? (p3.add j) := World.cell?_of_block (q8.block _ (World.block_lt_of_cell? w7 _ S2.2.2) (fun h => by have h1 := hf.out _ h; rw [add_block] at h1; omega))
          exact ⟨I8.dev.pc.cell.1, hn2.trans S2.2.1, hn3.trans S2.2.2⟩
        refine hK.out _ _ S8 (fun _ => ?_)
        clear hK K S2 S8 I7 I7d P8 g8 q8 kc
        refine wpAnyH_done (by kernel_rfl) ?_ _
        have hR8 : RTL w8 lo2 w7.heap.size m2 (l.next o (o.blk l)) := by rw [← HCN.out.1]; exact R8
        have k8 := I8.call (by have := H30.out; omega) o hR8 (fun k hk => .inl (Nat.lt_of_lt_of_le (HFR.out k hk) hlo3))
        rw [← HCN.out.1, ← HCN.out.2] at k8
        have HG := Lib.hid (And.intro I8.good I8.sz)
        have HFO : Hid (∀ k, a.all k → k < lo ∨ hi ≤ k) := Lib.hid (fun k h => I8.far k (.inl h))
        have HG2 := Lib.hid (good_next I8.good o bk)
        clear hR8 I8 R8 R7 B7 O7 B6 O6 g6
        go_wp2_with (with_reducible refine wpl_seg_load aggOp5 sizeOp5 (.tmp 13) rfl rfl O8 0 o.row rfl rfl rfl ?_)
        ((with_reducible refine k8.mono ?_); rintro e w9 ⟨z, rfl, c9, hz⟩)
        have B9 := HBX.out _ _ BW8 c9
        clear k8 c9 O8
        rcases hz with ⟨rfl, rfl, J⟩ | ⟨rfl, rfl, S', s', J⟩ | ⟨rfl, rfl, S', s', E, Ro, Rn⟩
        · have cc := J.dev.pc.cell.1
          have kon := pon_any a.p _ w9 J.dev.pw
          go_wp2_with ((with_reducible refine kon.mono ?_); rintro e w10 ⟨rfl, P10, g10⟩)
          exact ⟨⟨j + 1, by omega, by go_num, t, m, lo, hi, _, _, l, rfl, rfl, J.pwr g10 P10 (on_fits _) rfl, HTL.out, HBX.out _ _ B9 ((grown_p g10).more (fun k _ h => .inl h))⟩, by simp [intOf]; omega⟩
        · have cc := J.dev.pc.cell.1
          have kon := pon_any a.p _ w9 J.dev.pw
          go_wp2_with ((with_reducible refine kon.mono ?_); rintro e w10 ⟨rfl, P10, g10⟩)
          exact ⟨⟨j + 1, by omega, by go_num, t, m2, lo2, _, _, _, _, rfl, rfl, J.pwr g10 P10 (on_fits _) rfl, HTL.out, HBX.out _ _ B9 ((grown_p g10).more (fun k _ h => .inl h))⟩, by simp [intOf]; omega⟩
        · have cc := E.dev.pc.cell.1
          have kon := pon_any a.p _ w9 E.dev.pw
          have HGE := Lib.hid E
          have HRO := Lib.hid (And.intro Ro Rn)
          clear E Ro Rn
          go_wp2_with ((with_reducible refine kon.mono ?_); rintro e w10 ⟨rfl, P10, g10⟩)
          have k11 := (HGE.out.pwr g10 P10 (on_fits _)).open_ rfl HG.out.1 HG.out.2 HG2.out.1 (HG2.out.2.trans HG.out.2)
          have Ro10 : RTL w10 lo hi m l := HRO.out.1.chg (grown_p g10) (fun k h1 h2 h3 => by have := HFO.out k h3; omega)
          have Rn10 : RTL w10 lo2 w7.heap.size m2 (l.next o bk) := by
            have h := HRO.out.2
            exact h.chg (grown_p g10) (fun k h1 h2 h3 => by have := HFR.out k (.inl h3); omega)
          have B10 := HBX.out _ _ B9 ((grown_p g10).more (fun k _ h => .inl h))
          clear P10 g10 kon
          ((with_reducible refine k11.mono ?_); rintro e w11 ⟨t11, ht11, rfl, b11, hcs⟩)
          have B11 := B10.trans (b11.mono B10.size)
          have ht : w.heap.size ≤ t11 := Nat.le_trans B10.size ht11
          have fo : ∀ k, a.all k ∨ k = t11 → k < lo ∨ hi ≤ k := fun k hk => by
            rcases hk with h | rfl
            · exact HFO.out k h
            · exact .inr (Nat.le_trans Ro10.hi ht11)
          have fn : ∀ k, a.all k ∨ k = t11 → k < lo2 ∨ w7.heap.size ≤ k := fun k hk => by
            rcases hk with h | rfl
            · exact .inl (Nat.lt_of_lt_of_le (HFR.out k (.inl h)) hlo3)
            · exact .inr (Nat.le_trans Rn10.hi ht11)
          rcases hcs with ⟨mk, T11⟩ | ⟨mk, T11⟩
          · have I11 := Lib.hid (mk lo hi m (Ro10.after b11) fo)
            have ks1 := bsame_no T11 HG.out.1.ok (RT.after Rn10 b11) HG2.out.1.ok HG2.out.2 (next_losses HG.out.1 o bk HCN.out.2.symm)
            clear mk T11 k11 Ro10 Rn10 b11 fo fn
            go_wp2_with (first
              | ((with_reducible refine ks1.mono ?_); rintro e w12 ⟨rfl, k, rfl⟩; have I12 := I11.out.after (drewN_below w11 k); have ks2 := bsame_yes I12.tb I12.good.ok I12.ref)
              | ((with_reducible refine ks2.mono ?_); rintro e w13 ⟨rfl, k2, rfl⟩))
            exact ⟨⟨j + 1, by omega, by go_num, t11, m, lo, hi, _, _, l, rfl, rfl, I11.out.after (drewN_below w11 (k + k2)), ht, B11.trans ((drewN_below w11 (k + k2)).mono B11.size)⟩, by simp [intOf]; omega⟩
          · have I11 := Lib.hid (mk lo2 w7.heap.size m2 (Rn10.after b11) fn)
            have ks1 := bsame_yes T11 HG2.out.1.ok (RT.after Rn10 b11)
            clear mk T11 k11 Ro10 Rn10 b11 fo fn
            go_wp2_with (first
              | ((with_reducible refine ks1.mono ?_); rintro e w12 ⟨rfl, k, rfl⟩; have I12 := I11.out.after (drewN_below w11 k); have ks2 := bsame_yes I12.tb I12.good.ok I12.ref)
              | ((with_reducible refine ks2.mono ?_); rintro e w13 ⟨rfl, k2, rfl⟩))
            exact ⟨⟨j + 1, by omega, by go_num, t11, m2, lo2, _, _, _, _, rfl, rfl, I11.out.after (drewN_below w11 (k + k2)), ht, B11.trans ((drewN_below w11 (k + k2)).mono B11.size)⟩, by simp [intOf]; omega⟩
      · by_cases x1 : j < zs.length
        · have x2 : ¬ j < ys.length := fun h => hx ⟨x1, h⟩
          have e1 : decide ((j : Int) < (zs.length : Int)) = true := by simp; omega
          have e2 : decide ((j : Int) < (ys.length : Int)) = false := by simp; omega
          go_wp2_with (first
            | (with_reducible refine wpl_o5load (.tmp 55) rfl rfl rfl hld ?_)
            | (with_reducible refine wpl_seg_store sizeOp5 (.tmp 13) (.tmp 56) rfl rfl O2 0 o.row rfl (Nat.le_refl _) (Op5.one _) rfl rfl _ hs5 ?_; intro w6 O6 g6 e6; clear e6; have B6 := hb6 _ g6; have k7 := KS.out _ B6)
            | (with_reducible refine wpl_seg_load aggOp5 sizeOp5 (.tmp 13) rfl rfl O6 0 o.row rfl rfl rfl ?_)
            | ((with_reducible refine k7.mono ?_); rintro e w7 ⟨m2, lo2, rfl, hlo2, R7, b7⟩; have O7 := O6.after b7; have B7 := B6.trans (b7.mono B6.size))
            | (with_reducible refine wpl_seg_load aggOp5 sizeOp5 (.tmp 13) rfl rfl O7 0 o.row rfl rfl rfl ?_))
          have I8 := HI.out.after B7
          have R8 := R7
          have O8 := O7
          have BW8 : Below w.heap.size w w7 := HB.out.trans (B7.mono HB.out.size)
          have hlo3 : wr.heap.size ≤ lo2 := Nat.le_trans B6.size hlo2
          obtain ⟨w8, hw8⟩ : ∃ w8, w8 = w7 := ⟨_, rfl⟩
          rw [← hw8] at I8 O8 BW8
          have R8' : RTL w8 lo2 w7.heap.size m2 (l.next o bk) := by rw [hw8]; exact R8
          clear R8
          have R8 := R8'
          clear R8' k7 b7 hs5 O2 hld
          rw [← hw8]
          clear hw8
          have hR8 : RTL w8 lo2 w7.heap.size m2 (l.next o (o.blk l)) := by rw [← HCN.out.1]; exact R8
          have k8 := I8.call (by have := H30.out; omega) o hR8 (fun k hk => .inl (Nat.lt_of_lt_of_le (HFR.out k hk) hlo3))
          rw [← HCN.out.1, ← HCN.out.2] at k8
          have HG := Lib.hid (And.intro I8.good I8.sz)
          have HFO : Hid (∀ k, a.all k → k < lo ∨ hi ≤ k) := Lib.hid (fun k h => I8.far k (.inl h))
          have HG2 := Lib.hid (good_next I8.good o bk)
          clear hR8 I8 R8 R7 B7 O7 B6 O6 g6
          ((with_reducible refine k8.mono ?_); rintro e w9 ⟨z, rfl, c9, hz⟩)
          have B9 := HBX.out _ _ BW8 c9
          clear k8 c9 O8
          rcases hz with ⟨rfl, rfl, J⟩ | ⟨rfl, rfl, S', s', J⟩ | ⟨rfl, rfl, S', s', E, Ro, Rn⟩
          · have cc := J.dev.pc.cell.1
            have kon := pon_any a.p _ w9 J.dev.pw
            go_wp2_with ((with_reducible refine kon.mono ?_); rintro e w10 ⟨rfl, P10, g10⟩)
            exact ⟨⟨j + 1, by omega, by go_num, t, m, lo, hi, _, _, l, rfl, rfl, J.pwr g10 P10 (on_fits _) rfl, HTL.out, HBX.out _ _ B9 ((grown_p g10).more (fun k _ h => .inl h))⟩, by simp [intOf]; omega⟩
          · have cc := J.dev.pc.cell.1
            have kon := pon_any a.p _ w9 J.dev.pw
            go_wp2_with ((with_reducible refine kon.mono ?_); rintro e w10 ⟨rfl, P10, g10⟩)
            exact ⟨⟨j + 1, by omega, by go_num, t, m2, lo2, _, _, _, _, rfl, rfl, J.pwr g10 P10 (on_fits _) rfl, HTL.out, HBX.out _ _ B9 ((grown_p g10).more (fun k _ h => .inl h))⟩, by simp [intOf]; omega⟩
          · have cc := E.dev.pc.cell.1
            have kon := pon_any a.p _ w9 E.dev.pw
            have HGE := Lib.hid E
            have HRO := Lib.hid (And.intro Ro Rn)
            clear E Ro Rn
            go_wp2_with ((with_reducible refine kon.mono ?_); rintro e w10 ⟨rfl, P10, g10⟩)
            have k11 := (HGE.out.pwr g10 P10 (on_fits _)).open_ rfl HG.out.1 HG.out.2 HG2.out.1 (HG2.out.2.trans HG.out.2)
            have Ro10 : RTL w10 lo hi m l := HRO.out.1.chg (grown_p g10) (fun k h1 h2 h3 => by have := HFO.out k h3; omega)
            have Rn10 : RTL w10 lo2 w7.heap.size m2 (l.next o bk) := by
              have h := HRO.out.2
              exact h.chg (grown_p g10) (fun k h1 h2 h3 => by have := HFR.out k (.inl h3); omega)
            have B10 := HBX.out _ _ B9 ((grown_p g10).more (fun k _ h => .inl h))
            clear P10 g10 kon
            ((with_reducible refine k11.mono ?_); rintro e w11 ⟨t11, ht11, rfl, b11, hcs⟩)
            have B11 := B10.trans (b11.mono B10.size)
            have ht : w.heap.size ≤ t11 := Nat.le_trans B10.size ht11
            have fo : ∀ k, a.all k ∨ k = t11 → k < lo ∨ hi ≤ k := fun k hk => by
              rcases hk with h | rfl
              · exact HFO.out k h
              · exact .inr (Nat.le_trans Ro10.hi ht11)
            have fn : ∀ k, a.all k ∨ k = t11 → k < lo2 ∨ w7.heap.size ≤ k := fun k hk => by
              rcases hk with h | rfl
              · exact .inl (Nat.lt_of_lt_of_le (HFR.out k (.inl h)) hlo3)
              · exact .inr (Nat.le_trans Rn10.hi ht11)
            rcases hcs with ⟨mk, T11⟩ | ⟨mk, T11⟩
            · have I11 := Lib.hid (mk lo hi m (Ro10.after b11) fo)
              have ks1 := bsame_no T11 HG.out.1.ok (RT.after Rn10 b11) HG2.out.1.ok HG2.out.2 (next_losses HG.out.1 o bk HCN.out.2.symm)
              clear mk T11 k11 Ro10 Rn10 b11 fo fn
              go_wp2_with (first
                | ((with_reducible refine ks1.mono ?_); rintro e w12 ⟨rfl, k, rfl⟩; have I12 := I11.out.after (drewN_below w11 k); have ks2 := bsame_yes I12.tb I12.good.ok I12.ref)
                | ((with_reducible refine ks2.mono ?_); rintro e w13 ⟨rfl, k2, rfl⟩))
              exact ⟨⟨j + 1, by omega, by go_num, t11, m, lo, hi, _, _, l, rfl, rfl, I11.out.after (drewN_below w11 (k + k2)), ht, B11.trans ((drewN_below w11 (k + k2)).mono B11.size)⟩, by simp [intOf]; omega⟩
            · have I11 := Lib.hid (mk lo2 w7.heap.size m2 (Rn10.after b11) fn)
              have ks1 := bsame_yes T11 HG2.out.1.ok (RT.after Rn10 b11)
              clear mk T11 k11 Ro10 Rn10 b11 fo fn
              go_wp2_with (first
                | ((with_reducible refine ks1.mono ?_); rintro e w12 ⟨rfl, k, rfl⟩; have I12 := I11.out.after (drewN_below w11 k); have ks2 := bsame_yes I12.tb I12.good.ok I12.ref)
                | ((with_reducible refine ks2.mono ?_); rintro e w13 ⟨rfl, k2, rfl⟩))
              exact ⟨⟨j + 1, by omega, by go_num, t11, m2, lo2, _, _, _, _, rfl, rfl, I11.out.after (drewN_below w11 (k + k2)), ht, B11.trans ((drewN_below w11 (k + k2)).mono B11.size)⟩, by simp [intOf]; omega⟩
        · have e1 : decide ((j : Int) < (zs.length : Int)) = false := by simp; omega
          go_wp2_with (first
            | (with_reducible refine wpl_o5load (.tmp 55) rfl rfl rfl hld ?_)
            | (with_reducible refine wpl_seg_store sizeOp5 (.tmp 13) (.tmp 56) rfl rfl O2 0 o.row rfl (Nat.le_refl _) (Op5.one _) rfl rfl _ hs5 ?_; intro w6 O6 g6 e6; clear e6; have B6 := hb6 _ g6; have k7 := KS.out _ B6)
            | (with_reducible refine wpl_seg_load aggOp5 sizeOp5 (.tmp 13) rfl rfl O6 0 o.row rfl rfl rfl ?_)
            | ((with_reducible refine k7.mono ?_); rintro e w7 ⟨m2, lo2, rfl, hlo2, R7, b7⟩; have O7 := O6.after b7; have B7 := B6.trans (b7.mono B6.size))
            | (with_reducible refine wpl_seg_load aggOp5 sizeOp5 (.tmp 13) rfl rfl O7 0 o.row rfl rfl rfl ?_))
          have I8 := HI.out.after B7
          have R8 := R7
          have O8 := O7
          have BW8 : Below w.heap.size w w7 := HB.out.trans (B7.mono HB.out.size)
          have hlo3 : wr.heap.size ≤ lo2 := Nat.le_trans B6.size hlo2
          obtain ⟨w8, hw8⟩ : ∃ w8, w8 = w7 := ⟨_, rfl⟩
          rw [← hw8] at I8 O8 BW8
          have R8' : RTL w8 lo2 w7.heap.size m2 (l.next o bk) := by rw [hw8]; exact R8
          clear R8
          have R8 := R8'
          clear R8' k7 b7 hs5 O2 hld
          rw [← hw8]
          clear hw8
          have hR8 : RTL w8 lo2 w7.heap.size m2 (l.next o (o.blk l)) := by rw [← HCN.out.1]; exact R8
          have k8 := I8.call (by have := H30.out; omega) o hR8 (fun k hk => .inl (Nat.lt_of_lt_of_le (HFR.out k hk) hlo3))
          rw [← HCN.out.1, ← HCN.out.2] at k8
          have HG := Lib.hid (And.intro I8.good I8.sz)
          have HFO : Hid (∀ k, a.all k → k < lo ∨ hi ≤ k) := Lib.hid (fun k h => I8.far k (.inl h))
          have HG2 := Lib.hid (good_next I8.good o bk)
          clear hR8 I8 R8 R7 B7 O7 B6 O6 g6
          ((with_reducible refine k8.mono ?_); rintro e w9 ⟨z, rfl, c9, hz⟩)
          have B9 := HBX.out _ _ BW8 c9
          clear k8 c9 O8
          rcases hz with ⟨rfl, rfl, J⟩ | ⟨rfl, rfl, S', s', J⟩ | ⟨rfl, rfl, S', s', E, Ro, Rn⟩
          · have cc := J.dev.pc.cell.1
            have kon := pon_any a.p _ w9 J.dev.pw
            go_wp2_with ((with_reducible refine kon.mono ?_); rintro e w10 ⟨rfl, P10, g10⟩)
            exact ⟨⟨j + 1, by omega, by go_num, t, m, lo, hi, _, _, l, rfl, rfl, J.pwr g10 P10 (on_fits _) rfl, HTL.out, HBX.out _ _ B9 ((grown_p g10).more (fun k _ h => .inl h))⟩, by simp [intOf]; omega⟩
          · have cc := J.dev.pc.cell.1
            have kon := pon_any a.p _ w9 J.dev.pw
            go_wp2_with ((with_reducible refine kon.mono ?_); rintro e w10 ⟨rfl, P10, g10⟩)
            exact ⟨⟨j + 1, by omega, by go_num, t, m2, lo2, _, _, _, _, rfl, rfl, J.pwr g10 P10 (on_fits _) rfl, HTL.out, HBX.out _ _ B9 ((grown_p g10).more (fun k _ h => .inl h))⟩, by simp [intOf]; omega⟩
          · have cc := E.dev.pc.cell.1
            have kon := pon_any a.p _ w9 E.dev.pw
            have HGE := Lib.hid E
            have HRO := Lib.hid (And.intro Ro Rn)
            clear E Ro Rn
            go_wp2_with ((with_reducible refine kon.mono ?_); rintro e w10 ⟨rfl, P10, g10⟩)
            have k11 := (HGE.out.pwr g10 P10 (on_fits _)).open_ rfl HG.out.1 HG.out.2 HG2.out.1 (HG2.out.2.trans HG.out.2)
            have Ro10 : RTL w10 lo hi m l := HRO.out.1.chg (grown_p g10) (fun k h1 h2 h3 => by have := HFO.out k h3; omega)
            have Rn10 : RTL w10 lo2 w7.heap.size m2 (l.next o bk) := by
              have h := HRO.out.2
              exact h.chg (grown_p g10) (fun k h1 h2 h3 => by have := HFR.out k (.inl h3); omega)
            have B10 := HBX.out _ _ B9 ((grown_p g10).more (fun k _ h => .inl h))
            clear P10 g10 kon
            ((with_reducible refine k11.mono ?_); rintro e w11 ⟨t11, ht11, rfl, b11, hcs⟩)
            have B11 := B10.trans (b11.mono B10.size)
            have ht : w.heap.size ≤ t11 := Nat.le_trans B10.size ht11
            have fo : ∀ k, a.all k ∨ k = t11 → k < lo ∨ hi ≤ k := fun k hk => by
              rcases hk with h | rfl
              · exact HFO.out k h
              · exact .inr (Nat.le_trans Ro10.hi ht11)
            have fn : ∀ k, a.all k ∨ k = t11 → k < lo2 ∨ w7.heap.size ≤ k := fun k hk => by
              rcases hk with h | rfl
              · exact .inl (Nat.lt_of_lt_of_le (HFR.out k (.inl h)) hlo3)
              · exact .inr (Nat.le_trans Rn10.hi ht11)
            rcases hcs with ⟨mk, T11⟩ | ⟨mk, T11⟩
            · have I11 := Lib.hid (mk lo hi m (Ro10.after b11) fo)
              have ks1 := bsame_no T11 HG.out.1.ok (RT.after Rn10 b11) HG2.out.1.ok HG2.out.2 (next_losses HG.out.1 o bk HCN.out.2.symm)
              clear mk T11 k11 Ro10 Rn10 b11 fo fn
              go_wp2_with (first
                | ((with_reducible refine ks1.mono ?_); rintro e w12 ⟨rfl, k, rfl⟩; have I12 := I11.out.after (drewN_below w11 k); have ks2 := bsame_yes I12.tb I12.good.ok I12.ref)
                | ((with_reducible refine ks2.mono ?_); rintro e w13 ⟨rfl, k2, rfl⟩))
              exact ⟨⟨j + 1, by omega, by go_num, t11, m, lo, hi, _, _, l, rfl, rfl, I11.out.after (drewN_below w11 (k + k2)), ht, B11.trans ((drewN_below w11 (k + k2)).mono B11.size)⟩, by simp [intOf]; omega⟩
            · have I11 := Lib.hid (mk lo2 w7.heap.size m2 (Rn10.after b11) fn)
              have ks1 := bsame_yes T11 HG2.out.1.ok (RT.after Rn10 b11)
              clear mk T11 k11 Ro10 Rn10 b11 fo fn
              go_wp2_with (first
                | ((with_reducible refine ks1.mono ?_); rintro e w12 ⟨rfl, k, rfl⟩; have I12 := I11.out.after (drewN_below w11 k); have ks2 := bsame_yes I12.tb I12.good.ok I12.ref)
                | ((with_reducible refine ks2.mono ?_); rintro e w13 ⟨rfl, k2, rfl⟩))
              exact ⟨⟨j + 1, by omega, by go_num, t11, m2, lo2, _, _, _, _, rfl, rfl, I11.out.after (drewN_below w11 (k + k2)), ht, B11.trans ((drewN_below w11 (k + k2)).mono B11.size)⟩, by simp [intOf]; omega⟩
    · obtain rfl : j = os.length := by omega
      have ksm := bsame_yes hI.tb hI.good.ok hI.ref
      go_wp2_with fail
      ((with_reducible refine ksm.mono ?_); rintro e w6 ⟨rfl, k, rfl⟩)
      go_wp2
      go_ret
      exact ⟨rfl, HB.out.trans ((drewN_below wr k).mono HB.out.size)⟩
theorem bbtCuts_any (v v2 v3 : Value) (w : World) (ht : Tab w) (hs : ∃ os, Script5 w w.heap.size v os) (hv : ∃ zs, Nums w w.heap.size .i64 v2 zs) (hy : ∃ ys, Nums w w.heap.size .i64 v3 ys) :
    Calls Tryd.prog 4 #[v, v2, v3] w fun e w' => e = .returned (.bool true) ∧ Below w.heap.size w w' := by
  obtain ⟨ys, hy⟩ := hy
  obtain ⟨zs, hv⟩ := hv
  obtain ⟨os, hs⟩ := hs
  obtain ⟨A3, c3, rfl, _⟩ := id hy
  obtain ⟨A2, c2, rfl, _⟩ := id hv
  obtain ⟨A, cap, rfl, _⟩ := id hs
  have ks := bbtspeaks_any w ht
  by_cases h30 : os.length ≤ 30
  · have d2 : decide ((30 : Int) < (os.length : Int)) = false := by simp; omega
    by_cases h40 : zs.length ≤ 40
    · have d1 : decide ((40 : Int) < (zs.length : Int)) = false := by simp; omega
      by_cases h41 : ys.length ≤ 40
      · exact cuts_main A cap os A2 c2 zs A3 c3 ys w ht hs hv hy h30 h40 h41
      · have d0 : decide ((40 : Int) < (ys.length : Int)) = true := by simp; omega
        clear hv hy h30 h40 h41 ht hs
        go_enter Tryd.func4, Tryd.ntmps4
        go_wp2_with ((with_reducible refine ks.mono ?_); rintro e w1 ⟨rfl, b1⟩)
        go_ret
        exact ⟨rfl, b1⟩
    · have d1 : decide ((40 : Int) < (zs.length : Int)) = true := by simp; omega
      clear hv hy h30 h40 ht hs
      go_enter Tryd.func4, Tryd.ntmps4
      go_wp2_with ((with_reducible refine ks.mono ?_); rintro e w1 ⟨rfl, b1⟩)
      go_ret
      exact ⟨rfl, b1⟩
  · have d2 : decide ((30 : Int) < (os.length : Int)) = true := by simp; omega
    clear hv hy h30 ht hs
    go_enter Tryd.func4, Tryd.ntmps4
    go_wp2_with ((with_reducible refine ks.mono ?_); rintro e w1 ⟨rfl, b1⟩)
    go_ret
    exact ⟨rfl, b1⟩
end Go.Proofs.YtnemlbnmnijghaaDoor

