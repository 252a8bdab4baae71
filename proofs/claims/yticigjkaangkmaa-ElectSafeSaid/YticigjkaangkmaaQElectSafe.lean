/- The walk of ElectSafe: it answers true, and changes nothing that was there. No condition. -/
import Derived.Test.YticigjkaangkmaaQElectChooses
namespace Go.Proofs.Yticigjkaangkmaa
open Go Go.RowKit
/-- what is known of a plan -/
theorem choose_zero (t : VV) (a b : EC) (h : (choose t a b).2 ≠ 0) : (choose t a b).1 = PL.zero := by
  by_cases h1 : t.right = false ∨ (a.holds = false ∧ b.holds = false)
  · rw [choose_none t a b h1]
  · by_cases h2 : EC.may t a 0 = false ∧ EC.may t b 1 = false
    · rw [choose_stale t a b h1 h2.1 h2.2]
    · rw [choose_some t a b h1 h2 _ _ rfl rfl] at h
      exact absurd rfl h
theorem may_iff {t : VV} {c : EC} {i : Int} : EC.may t c i = true ↔ c.h = true ∧ c.s = true ∧ c.n = true ∧ t.has i = true ∧ t.b ≤ c.e := by
  unfold EC.may
  simp only [Bool.and_eq_true, decide_eq_true_eq]
  constructor
  · rintro ⟨⟨⟨⟨a, b⟩, c⟩, d⟩, e⟩; exact ⟨a, b, c, d, e⟩
  · rintro ⟨a, b, c, d, e⟩; exact ⟨⟨⟨⟨a, b⟩, c⟩, d⟩, e⟩
/-- a plan's chip may be elected, it is 0 or 1, its members belong to the view, and no other such one is newer -/
theorem choose_safe (t : VV) (a b : EC) (h : (choose t a b).2 = 0) :
    ((choose t a b).1.c = 0 ∧ EC.may t a 0 = true ∧ (EC.may t b 1 = true → b.e ≤ a.e) ∨ (choose t a b).1.c = 1 ∧ EC.may t b 1 = true ∧ (EC.may t a 0 = true → a.e ≤ b.e)) ∧ 1 ≤ t.m ∧ t.m ≤ 3 ∧ ((choose t a b).1.m = 3 → t.m = 3) ∧ ((choose t a b).1.m = (choose t a b).1.c + 1 ∨ (choose t a b).1.m = 3) := by
  by_cases h1 : t.right = false ∨ (a.holds = false ∧ b.holds = false)
  · rw [choose_none t a b h1] at h; cases h
  · have hr : t.right = true := by
      cases hq : t.right with
      | true => rfl
      | false => exact absurd (Or.inl hq) h1
    obtain ⟨_, _, m1, m3⟩ := VV.right_n hr
    by_cases h2 : EC.may t a 0 = false ∧ EC.may t b 1 = false
    · rw [choose_stale t a b h1 h2.1 h2.2] at h
      simp only at h
      split at h <;> cases h
    · rw [choose_some t a b h1 h2 _ _ rfl rfl]
      simp only
      cases hx : EC.may t a 0 <;> cases hy : EC.may t b 1
      · exact absurd ⟨hx, hy⟩ h2
      · simp [pickC, m1, m3]
      · simp [pickC, m1, m3]
      · have q0 := (may_iff.1 hx).2.2.2.1
        have q1 := (may_iff.1 hy).2.2.2.1
        have hm3 : t.m = 3 := by
          rw [has_zero] at q0
          rw [has_one] at q1
          simp only [decide_eq_true_eq] at q0 q1
          omega
        refine ⟨?_, m1, m3, fun _ => hm3, ?_⟩
        · by_cases hlt : a.e < b.e
          · refine .inr ⟨?_, rfl, fun _ => by omega⟩
            unfold pickC; rw [if_pos (Or.inr ⟨rfl, hlt⟩)]
          · refine .inl ⟨?_, rfl, fun _ => by omega⟩
            unfold pickC; rw [if_neg (by rintro (q | ⟨_, q⟩); cases q; exact hlt q)]
        · by_cases hl : EC.last a b = true
          · right; simp [hl]
          · left; simp [hl]
/-- what the law asks of the other chip -/
theorem safe_other {t : VV} {c o : EC} {i j : Int} (hc : EC.may t c i = true) (h : EC.may t o j = true → o.e ≤ c.e) (h1 : o.h = true) (h2 : o.s = true) (h3 : o.n = true) (h4 : t.has j = true) : o.e ≤ c.e := by
  have hb := (may_iff.1 hc).2.2.2.2
  by_cases hq : t.b ≤ o.e
  · exact h (may_iff.2 ⟨h1, h2, h3, h4, hq⟩)
  · omega
set_option maxRecDepth 100000 in
set_option maxHeartbeats 4000000 in
theorem electSafe_any (u v x : Value) (w : World) (hu : ∃ t, IsView u t) (hv : ∃ a, IsChip v a) (hx : ∃ b, IsChip x b) :
    Calls Try.prog 7 #[u, v, x] w fun e w' => e = .returned (.bool true) ∧ Below w.heap.size w w' := by
  obtain ⟨t, rfl, _⟩ := hu
  obtain ⟨a, rfl, ha⟩ := hv
  obtain ⟨b, rfl, hb⟩ := hx
  have HLA := Lib.hid (crow_len ha)
  have HLB := Lib.hid (crow_len hb)
  have K2 := Lib.hid (fun W n hn => choose2_at t ha hb W n hn)
  have HZ := Lib.hid (choose_zero t a b)
  have HS := Lib.hid (choose_safe t a b)
  have ya0 := Lib.hid (crow_0 a)
  have ya1 := Lib.hid (crow_1 a)
  have ya2 := Lib.hid (crow_2 a)
  have ya3 := Lib.hid (crow_3 a)
  have yb0 := Lib.hid (crow_0 b)
  have yb1 := Lib.hid (crow_1 b)
  have yb2 := Lib.hid (crow_2 b)
  have yb3 := Lib.hid (crow_3 b)
  have HOA : Hid (∀ x ∈ crow a, x.oneCell' = true) := Lib.hid (crow_one a)
  have HOB : Hid (∀ x ∈ crow b, x.oneCell' = true) := Lib.hid (crow_one b)
  obtain ⟨p, hp⟩ : ∃ p, (choose t a b).1 = p := ⟨_, rfl⟩
  obtain ⟨er, her⟩ : ∃ er, (choose t a b).2 = er := ⟨_, rfl⟩
  rw [hp, her] at K2 HZ HS
  obtain ⟨ra, hra⟩ : ∃ ra, crow a = ra := ⟨_, rfl⟩
  obtain ⟨rb, hrb⟩ : ∃ rb, crow b = rb := ⟨_, rfl⟩
  rw [hra] at K2 HLA ya0 ya1 ya2 ya3 HOA
  rw [hrb] at K2 HLB yb0 yb1 yb2 yb3 HOB
  rw [hra, hrb]
  have zc := zeroChip
  obtain ⟨zr, hzr⟩ : ∃ zr, crow EC.zero = zr := ⟨_, rfl⟩
  have hzl := Lib.hid (show zr.length = 41 by rw [← hzr]; exact crow_len zero_ok)
  rw [hzr] at zc
  clear hp her hra hrb hzr
  obtain ⟨t0, V0, A0, B0⟩ := boxes3 w t ra rb
  have t0 := Lib.hid t0
  have V0 := Lib.hid V0
  have A0 := Lib.hid A0
  have B0 := Lib.hid B0
  go_enter Try.func7, Try.ntmps7
  go_wp2_with fail
  ((with_reducible refine (espeaks_any _).mono ?_); rintro e w1 ⟨rfl, h1⟩)
  have V1 := Lib.hid (V0.out.after h1)
  have A1 := Lib.hid (A0.out.after h1)
  have B1 := Lib.hid (B0.out.after h1)
  have t1 := Lib.hid (t0.out.trans (h1.mono t0.out.size))
  clear h1 V0 A0 B0 t0
  go_wp2_with (first | (with_reducible refine wpl_vload (.tmp 3) rfl rfl V1.out rfl ?_) | (with_reducible refine wpl_cload (.tmp 4) rfl rfl A1.out 0 (all41 HLA.out) HLA.out rfl ?_) | (with_reducible refine wpl_cload (.tmp 5) rfl rfl B1.out 0 (all41 HLB.out) HLB.out rfl ?_) | (with_reducible refine wpl_slice2 (.tmp 16) (.tmp 17) rfl rfl rfl rfl HLA.out HLB.out ?_))
  ((with_reducible refine (K2.out _ _ rfl).mono ?_); rintro e w2 ⟨rfl, h2⟩)
  have N2 := Lib.hid (Blk.new w2 54 [.int .i64 p.c, .int .i64 p.m, .bool p.f])
  have V2 := Lib.hid ((V1.out.after h2).alloc (.cells #[.int .i64 p.c, .int .i64 p.m, .bool p.f] 54))
  have A2 := Lib.hid ((A1.out.after h2).alloc (.cells #[.int .i64 p.c, .int .i64 p.m, .bool p.f] 54))
  have B2 := Lib.hid ((B1.out.after h2).alloc (.cells #[.int .i64 p.c, .int .i64 p.m, .bool p.f] 54))
  have tx2 := Lib.hid (t1.out.trans (h2.mono t1.out.size))
  have t2 := Lib.hid (tx2.out.alloc tx2.out.size (.cells #[.int .i64 p.c, .int .i64 p.m, .bool p.f] 54))
  clear tx2
  clear h2 V1 A1 B1 t1
  by_cases her : er = 0
  rotate_left 1
  · have hz := HZ.out her
    subst hz
    go_wp2
    go_ret
    exact ⟨rfl, t2.out⟩
  subst her
  obtain ⟨hcc, m1, m3, hm3, hpm⟩ := HS.out rfl
  have hbit : bits .and .i64 p.m t.m = p.m := by
    have hq : (p.c = 0 ∧ t.has 0 = true) ∨ (p.c = 1 ∧ t.has 1 = true) := by
      rcases hcc with ⟨q, q2, _⟩ | ⟨q, q2, _⟩
      · exact .inl ⟨q, (may_iff.1 q2).2.2.2.1⟩
      · exact .inr ⟨q, (may_iff.1 q2).2.2.2.1⟩
    rw [has_zero, has_one] at hq
    simp only [decide_eq_true_eq] at hq
    have hv : (p.m = 1 ∧ t.m = 1) ∨ (p.m = 1 ∧ t.m = 3) ∨ (p.m = 3 ∧ t.m = 3) ∨ (p.m = 2 ∧ t.m = 2) ∨ (p.m = 2 ∧ t.m = 3) := by omega
    rcases hv with ⟨q1, q2⟩ | ⟨q1, q2⟩ | ⟨q1, q2⟩ | ⟨q1, q2⟩ | ⟨q1, q2⟩ <;> rw [q1, q2] <;> decide
  have HCC := Lib.hid hcc
  obtain ⟨pc, pm, pf⟩ := p
  have hbit : bits .and .i64 pm t.m = pm := hbit
  have hcc : pc = 0 ∧ EC.may t a 0 = true ∧ (EC.may t b 1 = true → b.e ≤ a.e) ∨ pc = 1 ∧ EC.may t b 1 = true ∧ (EC.may t a 0 = true → a.e ≤ b.e) := hcc
  clear m1 m3 hm3 hpm HZ HS HCC K2
  replace N2 : Hid (Blk (w2.alloc (.cells #[.int .i64 pc, .int .i64 pm, .bool pf] 54)) w2.heap.size 54 [.int .i64 pc, .int .i64 pm, .bool pf]) := N2
  obtain ⟨W, hW⟩ : ∃ W, W = w2.alloc (.cells #[.int .i64 pc, .int .i64 pm, .bool pf] 54) := ⟨_, rfl⟩
  have HW := Lib.hid hW
  replace V2 : Hid (Blk (w2.alloc (.cells #[.int .i64 pc, .int .i64 pm, .bool pf] 54)) w.heap.size 24 [.int .u64 (t.n : Int), .int .i64 t.m, .int .u64 (t.b : Int)]) := V2
  replace A2 : Hid (Blk (w2.alloc (.cells #[.int .i64 pc, .int .i64 pm, .bool pf] 54)) (w.heap.size + 1) 52 ra) := A2
  replace B2 : Hid (Blk (w2.alloc (.cells #[.int .i64 pc, .int .i64 pm, .bool pf] 54)) (w.heap.size + 1 + 1) 52 rb) := B2
  replace t2 : Hid (Below w.heap.size w (w2.alloc (.cells #[.int .i64 pc, .int .i64 pm, .bool pf] 54))) := t2
  rw [← hW] at N2 V2 A2 B2 t2
  obtain ⟨gn, hgn⟩ : ∃ gn, gn = w2.heap.size := ⟨_, rfl⟩
  rw [← hgn] at N2
  have HGN := Lib.hid hgn
  have KH := Lib.hid (fun i w => refhas_any t i w)
  clear hW hgn
  rcases hcc with ⟨rfl, hmay, hle⟩ | ⟨rfl, hmay, hle⟩
  · have HM := Lib.hid (may_iff.1 hmay)
    have HSO := Lib.hid (fun h1 h2 h3 h4 => safe_other (o := b) (j := 1) hmay hle h1 h2 h3 h4)
    clear hmay hle
    go_wp2_with fail
    rw [← HW.out, ← HGN.out]
    clear HW HGN
    have hla := HLA.out
    have hlb := HLB.out
    have S0 : Below W.heap.size W W.drew := (Below.refl _ _).drew
    have Z0 : W.drew.heap.size = W.heap.size := rfl
    refine wp_region_held_drew (S := (fun w' => Below W.heap.size W w')) (by kernel_rfl) S0 (fun _ => ?_)
    refine wpAnyH_take (i := 0) (v := .agg ra.toArray) rfl (by kernel_rfl) (by kernel_rfl) (by kernel_rfl) (fun _ _ _ h => h) (yields_seg (i := 0) aggC sizeC (.tmp 4) (by kernel_rfl) (by kernel_rfl) (by kernel_rfl) (g := w.heap.size + 1) (fun w h => A2.out.after h) (all41 HLA.out) HLA.out) S0 ?_
    refine wpAnyH_take (i := 1) (v := .agg rb.toArray) rfl (by kernel_rfl) (by kernel_rfl) (by kernel_rfl) (fun _ _ _ h => h) (yields_seg (i := 0) aggC sizeC (.tmp 5) (by kernel_rfl) (by kernel_rfl) (by kernel_rfl) (g := w.heap.size + 1 + 1) (fun w h => B2.out.after h) (all41 HLB.out) HLB.out) S0 ?_
    have T1 : Below W.heap.size W (((W).alloc (.cells zr.toArray 52)).drew) := (Below.alloc S0 S0.size _)
    have Z1 : (((W).alloc (.cells zr.toArray 52)).drew).heap.size = W.heap.size + 1 := by have q := Z0; simp at q ⊢; try omega
    have C1 : Blk (((W).alloc (.cells zr.toArray 52)).drew) (W.heap.size) 52 zr := by have q := Blk.new (W.drew) 52 zr; rw [Z0] at q; exact q
    have T2 : Below W.heap.size W (((W).alloc (.cells zr.toArray 52)).drew) := (Below.alloc S0 S0.size _)
    have Z2 : (((W).alloc (.cells zr.toArray 52)).drew).heap.size = W.heap.size + 1 := by have q := Z0; simp at q ⊢; try omega
    have O2 : Blk (((W).alloc (.cells zr.toArray 52)).drew) (W.heap.size) 52 zr := by have q := Blk.new (W.drew) 52 zr; rw [Z0] at q; exact q
    refine wpAnyH_ready (rs := [2, 3]) (by kernel_rfl) (by simp) (AllReadyH.cons rfl (fun K hK => ?_) (AllReadyH.cons rfl (fun K hK => ?_) AllReadyH.nil))
    · go_simp
      refine hK.out _ _ T1 (fun _ => ?_)
      clear hK K
      have T3 : Below W.heap.size W (((((W).alloc (.cells zr.toArray 52))).alloc (.cells zr.toArray 52)).drew) := (Below.alloc T1 T1.size _)
      have Z3 : (((((W).alloc (.cells zr.toArray 52))).alloc (.cells zr.toArray 52)).drew).heap.size = W.heap.size + 1 + 1 := by have q := Z1; simp at q ⊢; try omega
      have O3 : Blk (((((W).alloc (.cells zr.toArray 52))).alloc (.cells zr.toArray 52)).drew) (W.heap.size + 1) 52 zr := by have q := Blk.new (((W).alloc (.cells zr.toArray 52)).drew) 52 zr; rw [Z1] at q; exact q
      refine wpAnyH_ready (rs := [3]) (by kernel_rfl) (by simp) (AllReadyH.cons rfl (fun K hK => ?_) AllReadyH.nil)
      · go_simp
        refine hK.out _ _ T3 (fun _ => ?_)
        clear hK K
        obtain ⟨v4, hst4, R4, g4, Z4⟩ := seg_cells (P := Try.prog) (w := ((((W).alloc (.cells zr.toArray 52))).alloc (.cells zr.toArray 52)).drew) (vs := ra) (Blk.alloc C1 (.cells zr.toArray 52)) (hzl.out.trans HLA.out.symm) HOA.out
        replace hst4 : (storeCells ⟨W.heap.size, 0, none⟩ ra).run Try.prog (((((W).alloc (.cells zr.toArray 52))).alloc (.cells zr.toArray 52)).drew) = .ok () v4 := hst4
        replace Z4 : v4.heap.size = W.heap.size + 1 + 1 := Z4.trans Z3
        have T4 : Below W.heap.size W v4 := Below.grown T3 g4 T3.size (fun q e => by cases e; omega)
        have O4 := Blk.grown O3 g4 (by first | (simp; done) | (simp; omega))
        refine wpAnyH_ready (rs := [4]) (by kernel_rfl) (by simp) (AllReadyH.cons rfl (fun K hK => ?_) AllReadyH.nil)
        · go_simp
          refine hK.out _ _ T4 (fun _ => ?_)
          clear hK K
          obtain ⟨v5, hst5, R5, g5, Z5⟩ := seg_cells (P := Try.prog) (w := v4) (vs := rb) O4 (hzl.out.trans HLB.out.symm) HOB.out
          replace hst5 : (storeCells ⟨W.heap.size + 1, 0, none⟩ rb).run Try.prog (v4) = .ok () v5 := hst5
          replace Z5 : v5.heap.size = W.heap.size + 1 + 1 := Z5.trans Z4
          have T5 : Below W.heap.size W v5 := Below.grown T4 g5 T4.size (fun q e => by cases e; omega)
          have C5 := Blk.grown R4 g5 (by first | (simp; done) | (simp; omega))
          refine wpAnyH_ready (rs := [5]) (by kernel_rfl) (by simp) (AllReadyH.cons rfl (fun K hK => ?_) AllReadyH.nil)
          · go_simp
            refine hK.out _ _ T5 (fun _ => ?_)
            clear hK K
            refine wpAnyH_done (by kernel_rfl) ?_ _
            go_simp
            clear hla hlb
            have te := Lib.hid (t2.out.trans (Below.mono T5 t2.out.size))
            have Ve := Lib.hid (V2.out.after T5)
            have Ne := Lib.hid (N2.out.after T5)
            have Ce := Lib.hid C5
            have Oe := Lib.hid R5
            have n0 := Ne.out.cell 0
            simp only [List.getElem?_cons_zero] at n0
            have z0 := (Ce.out.cell 0).trans ya0.out
            have z1 := (Ce.out.cell 1).trans ya1.out
            have z2 := (Ce.out.cell 2).trans ya2.out
            have z3 := (Ce.out.cell 3).trans ya3.out
            rw [HM.out.1] at z0
            rw [HM.out.2.1] at z1
            rw [HM.out.2.2.1] at z2
            have v1 := Ve.out.cell 1
            have v2 := Ve.out.cell 2
            have n0 := Ne.out.cell 0
            have n1 := Ne.out.cell 1
            simp only [List.getElem?_cons_zero, List.getElem?_cons_succ] at v1 v2 n0 n1
            have d1 : decide ((a.e : Int) < (t.b : Int)) = false := by have := HM.out.2.2.2.2; simp; omega
            have d2 : decide (a.e < t.b) = false := by have := HM.out.2.2.2.2; simp; omega
            go_wp2_with (with_reducible refine wpl_vload (.tmp 3) rfl rfl Ve.out rfl ?_)
            have k9 := KH.out 0
            rw [HM.out.2.2.2.1] at k9
            ((with_reducible refine (k9 _).mono ?_); rintro e9 w9 ⟨rfl, h9⟩)
            have Cf := Lib.hid (Ce.out.after h9)
            have Vf := Lib.hid (Ve.out.after h9)
            have Nf := Lib.hid (Ne.out.after h9)
            have Of := Lib.hid (Oe.out.after h9)
            have tf := Lib.hid (te.out.trans (h9.mono te.out.size))
            clear h9 z0 z1 z2 z3 v1 v2 n0 n1 d1 d2 Ce Ve Ne Oe te k9
            have z3 := (Cf.out.cell 3).trans ya3.out
            have u0 := (Of.out.cell 0).trans yb0.out
            have u1 := (Of.out.cell 1).trans yb1.out
            have u2 := (Of.out.cell 2).trans yb2.out
            have u3 := (Of.out.cell 3).trans yb3.out
            have v1 := Vf.out.cell 1
            have n0 := Nf.out.cell 0
            have n1 := Nf.out.cell 1
            simp only [List.getElem?_cons_zero, List.getElem?_cons_succ] at v1 n0 n1
            obtain ⟨oh, hoh⟩ : ∃ q, b.h = q := ⟨_, rfl⟩
            obtain ⟨os, hos⟩ : ∃ q, b.s = q := ⟨_, rfl⟩
            obtain ⟨on, hon⟩ : ∃ q, b.n = q := ⟨_, rfl⟩
            obtain ⟨oi, hoi⟩ : ∃ q, t.has 1 = q := ⟨_, rfl⟩
            rw [hoh] at u0
            rw [hos] at u1
            rw [hon] at u2
            have HSO2 := HSO.out
            rw [hoh, hos, hon, hoi] at HSO2
            have KHo := KH.out 1
            rw [hoi] at KHo
            have HSO3 := Lib.hid HSO2
            have KH2 := Lib.hid KHo
            clear hoh hos hon hoi HSO2 KHo
            cases oh
            · go_wp2
              go_ret
              exact ⟨rfl, tf.out⟩
            cases os
            · go_wp2
              go_ret
              exact ⟨rfl, tf.out⟩
            cases on
            · go_wp2
              go_ret
              exact ⟨rfl, tf.out⟩
            go_wp2_with (with_reducible refine wpl_vload (.tmp 3) rfl rfl Vf.out rfl ?_)
            ((with_reducible refine (KH2.out _).mono ?_); rintro e10 w10 ⟨rfl, h10⟩)
            have z4 := ((Cf.out.after h10).cell 3).trans ya3.out
            have u4 := ((Of.out.after h10).cell 3).trans yb3.out
            have tg := Lib.hid (tf.out.trans (h10.mono tf.out.size))
            clear h10
            cases oi
            · go_wp2
              go_ret
              exact ⟨rfl, tg.out⟩
            · have hle : b.e ≤ a.e := by have q := HSO3.out; first | exact q rfl rfl rfl rfl | simpa using q
              go_wp2
              go_ret
              exact ⟨rfl, tg.out⟩
    · go_simp
      refine hK.out _ _ T2 (fun _ => ?_)
      clear hK K
      have T6 : Below W.heap.size W (((((W).alloc (.cells zr.toArray 52))).alloc (.cells zr.toArray 52)).drew) := (Below.alloc T2 T2.size _)
      have Z6 : (((((W).alloc (.cells zr.toArray 52))).alloc (.cells zr.toArray 52)).drew).heap.size = W.heap.size + 1 + 1 := by have q := Z2; simp at q ⊢; try omega
      have C6 : Blk (((((W).alloc (.cells zr.toArray 52))).alloc (.cells zr.toArray 52)).drew) (W.heap.size + 1) 52 zr := by have q := Blk.new (((W).alloc (.cells zr.toArray 52)).drew) 52 zr; rw [Z2] at q; exact q
      refine wpAnyH_ready (rs := [2]) (by kernel_rfl) (by simp) (AllReadyH.cons rfl (fun K hK => ?_) AllReadyH.nil)
      · go_simp
        refine hK.out _ _ T6 (fun _ => ?_)
        clear hK K
        obtain ⟨v7, hst7, R7, g7, Z7⟩ := seg_cells (P := Try.prog) (w := ((((W).alloc (.cells zr.toArray 52))).alloc (.cells zr.toArray 52)).drew) (vs := ra) C6 (hzl.out.trans HLA.out.symm) HOA.out
        replace hst7 : (storeCells ⟨W.heap.size + 1, 0, none⟩ ra).run Try.prog (((((W).alloc (.cells zr.toArray 52))).alloc (.cells zr.toArray 52)).drew) = .ok () v7 := hst7
        replace Z7 : v7.heap.size = W.heap.size + 1 + 1 := Z7.trans Z6
        have T7 : Below W.heap.size W v7 := Below.grown T6 g7 T6.size (fun q e => by cases e; omega)
        have O7 := Blk.grown (Blk.alloc O2 (.cells zr.toArray 52)) g7 (by first | (simp; done) | (simp; omega))
        refine wpAnyH_ready (rs := [4]) (by kernel_rfl) (by simp) (AllReadyH.cons rfl (fun K hK => ?_) AllReadyH.nil)
        · go_simp
          refine hK.out _ _ T7 (fun _ => ?_)
          clear hK K
          obtain ⟨v8, hst8, R8, g8, Z8⟩ := seg_cells (P := Try.prog) (w := v7) (vs := rb) O7 (hzl.out.trans HLB.out.symm) HOB.out
          replace hst8 : (storeCells ⟨W.heap.size, 0, none⟩ rb).run Try.prog (v7) = .ok () v8 := hst8
          replace Z8 : v8.heap.size = W.heap.size + 1 + 1 := Z8.trans Z7
          have T8 : Below W.heap.size W v8 := Below.grown T7 g8 T7.size (fun q e => by cases e; omega)
          have C8 := Blk.grown R7 g8 (by first | (simp; done) | (simp; omega))
          refine wpAnyH_ready (rs := [5]) (by kernel_rfl) (by simp) (AllReadyH.cons rfl (fun K hK => ?_) AllReadyH.nil)
          · go_simp
            refine hK.out _ _ T8 (fun _ => ?_)
            clear hK K
            refine wpAnyH_done (by kernel_rfl) ?_ _
            go_simp
            clear hla hlb
            have te := Lib.hid (t2.out.trans (Below.mono T8 t2.out.size))
            have Ve := Lib.hid (V2.out.after T8)
            have Ne := Lib.hid (N2.out.after T8)
            have Ce := Lib.hid C8
            have Oe := Lib.hid R8
            have n0 := Ne.out.cell 0
            simp only [List.getElem?_cons_zero] at n0
            have z0 := (Ce.out.cell 0).trans ya0.out
            have z1 := (Ce.out.cell 1).trans ya1.out
            have z2 := (Ce.out.cell 2).trans ya2.out
            have z3 := (Ce.out.cell 3).trans ya3.out
            rw [HM.out.1] at z0
            rw [HM.out.2.1] at z1
            rw [HM.out.2.2.1] at z2
            have v1 := Ve.out.cell 1
            have v2 := Ve.out.cell 2
            have n0 := Ne.out.cell 0
            have n1 := Ne.out.cell 1
            simp only [List.getElem?_cons_zero, List.getElem?_cons_succ] at v1 v2 n0 n1
            have d1 : decide ((a.e : Int) < (t.b : Int)) = false := by have := HM.out.2.2.2.2; simp; omega
            have d2 : decide (a.e < t.b) = false := by have := HM.out.2.2.2.2; simp; omega
            go_wp2_with (with_reducible refine wpl_vload (.tmp 3) rfl rfl Ve.out rfl ?_)
            have k9 := KH.out 0
            rw [HM.out.2.2.2.1] at k9
            ((with_reducible refine (k9 _).mono ?_); rintro e9 w9 ⟨rfl, h9⟩)
            have Cf := Lib.hid (Ce.out.after h9)
            have Vf := Lib.hid (Ve.out.after h9)
            have Nf := Lib.hid (Ne.out.after h9)
            have Of := Lib.hid (Oe.out.after h9)
            have tf := Lib.hid (te.out.trans (h9.mono te.out.size))
            clear h9 z0 z1 z2 z3 v1 v2 n0 n1 d1 d2 Ce Ve Ne Oe te k9
            have z3 := (Cf.out.cell 3).trans ya3.out
            have u0 := (Of.out.cell 0).trans yb0.out
            have u1 := (Of.out.cell 1).trans yb1.out
            have u2 := (Of.out.cell 2).trans yb2.out
            have u3 := (Of.out.cell 3).trans yb3.out
            have v1 := Vf.out.cell 1
            have n0 := Nf.out.cell 0
            have n1 := Nf.out.cell 1
            simp only [List.getElem?_cons_zero, List.getElem?_cons_succ] at v1 n0 n1
            obtain ⟨oh, hoh⟩ : ∃ q, b.h = q := ⟨_, rfl⟩
            obtain ⟨os, hos⟩ : ∃ q, b.s = q := ⟨_, rfl⟩
            obtain ⟨on, hon⟩ : ∃ q, b.n = q := ⟨_, rfl⟩
            obtain ⟨oi, hoi⟩ : ∃ q, t.has 1 = q := ⟨_, rfl⟩
            rw [hoh] at u0
            rw [hos] at u1
            rw [hon] at u2
            have HSO2 := HSO.out
            rw [hoh, hos, hon, hoi] at HSO2
            have KHo := KH.out 1
            rw [hoi] at KHo
            have HSO3 := Lib.hid HSO2
            have KH2 := Lib.hid KHo
            clear hoh hos hon hoi HSO2 KHo
            cases oh
            · go_wp2
              go_ret
              exact ⟨rfl, tf.out⟩
            cases os
            · go_wp2
              go_ret
              exact ⟨rfl, tf.out⟩
            cases on
            · go_wp2
              go_ret
              exact ⟨rfl, tf.out⟩
            go_wp2_with (with_reducible refine wpl_vload (.tmp 3) rfl rfl Vf.out rfl ?_)
            ((with_reducible refine (KH2.out _).mono ?_); rintro e10 w10 ⟨rfl, h10⟩)
            have z4 := ((Cf.out.after h10).cell 3).trans ya3.out
            have u4 := ((Of.out.after h10).cell 3).trans yb3.out
            have tg := Lib.hid (tf.out.trans (h10.mono tf.out.size))
            clear h10
            cases oi
            · go_wp2
              go_ret
              exact ⟨rfl, tg.out⟩
            · have hle : b.e ≤ a.e := by have q := HSO3.out; first | exact q rfl rfl rfl rfl | simpa using q
              go_wp2
              go_ret
              exact ⟨rfl, tg.out⟩
  · have HM := Lib.hid (may_iff.1 hmay)
    have HSO := Lib.hid (fun h1 h2 h3 h4 => safe_other (o := a) (j := 0) hmay hle h1 h2 h3 h4)
    clear hmay hle
    go_wp2_with fail
    rw [← HW.out, ← HGN.out]
    clear HW HGN
    have hla := HLA.out
    have hlb := HLB.out
    have S0 : Below W.heap.size W W.drew := (Below.refl _ _).drew
    have Z0 : W.drew.heap.size = W.heap.size := rfl
    refine wp_region_held_drew (S := (fun w' => Below W.heap.size W w')) (by kernel_rfl) S0 (fun _ => ?_)
    refine wpAnyH_take (i := 0) (v := .agg ra.toArray) rfl (by kernel_rfl) (by kernel_rfl) (by kernel_rfl) (fun _ _ _ h => h) (yields_seg (i := 0) aggC sizeC (.tmp 4) (by kernel_rfl) (by kernel_rfl) (by kernel_rfl) (g := w.heap.size + 1) (fun w h => A2.out.after h) (all41 HLA.out) HLA.out) S0 ?_
    refine wpAnyH_take (i := 1) (v := .agg rb.toArray) rfl (by kernel_rfl) (by kernel_rfl) (by kernel_rfl) (fun _ _ _ h => h) (yields_seg (i := 0) aggC sizeC (.tmp 5) (by kernel_rfl) (by kernel_rfl) (by kernel_rfl) (g := w.heap.size + 1 + 1) (fun w h => B2.out.after h) (all41 HLB.out) HLB.out) S0 ?_
    have T9 : Below W.heap.size W (((W).alloc (.cells zr.toArray 52)).drew) := (Below.alloc S0 S0.size _)
    have Z9 : (((W).alloc (.cells zr.toArray 52)).drew).heap.size = W.heap.size + 1 := by have q := Z0; simp at q ⊢; try omega
    have C9 : Blk (((W).alloc (.cells zr.toArray 52)).drew) (W.heap.size) 52 zr := by have q := Blk.new (W.drew) 52 zr; rw [Z0] at q; exact q
    have T10 : Below W.heap.size W (((W).alloc (.cells zr.toArray 52)).drew) := (Below.alloc S0 S0.size _)
    have Z10 : (((W).alloc (.cells zr.toArray 52)).drew).heap.size = W.heap.size + 1 := by have q := Z0; simp at q ⊢; try omega
    have O10 : Blk (((W).alloc (.cells zr.toArray 52)).drew) (W.heap.size) 52 zr := by have q := Blk.new (W.drew) 52 zr; rw [Z0] at q; exact q
    refine wpAnyH_ready (rs := [2, 3]) (by kernel_rfl) (by simp) (AllReadyH.cons rfl (fun K hK => ?_) (AllReadyH.cons rfl (fun K hK => ?_) AllReadyH.nil))
    · go_simp
      refine hK.out _ _ T9 (fun _ => ?_)
      clear hK K
      have T11 : Below W.heap.size W (((((W).alloc (.cells zr.toArray 52))).alloc (.cells zr.toArray 52)).drew) := (Below.alloc T9 T9.size _)
      have Z11 : (((((W).alloc (.cells zr.toArray 52))).alloc (.cells zr.toArray 52)).drew).heap.size = W.heap.size + 1 + 1 := by have q := Z9; simp at q ⊢; try omega
      have O11 : Blk (((((W).alloc (.cells zr.toArray 52))).alloc (.cells zr.toArray 52)).drew) (W.heap.size + 1) 52 zr := by have q := Blk.new (((W).alloc (.cells zr.toArray 52)).drew) 52 zr; rw [Z9] at q; exact q
      refine wpAnyH_ready (rs := [3]) (by kernel_rfl) (by simp) (AllReadyH.cons rfl (fun K hK => ?_) AllReadyH.nil)
      · go_simp
        refine hK.out _ _ T11 (fun _ => ?_)
        clear hK K
        obtain ⟨v12, hst12, R12, g12, Z12⟩ := seg_cells (P := Try.prog) (w := ((((W).alloc (.cells zr.toArray 52))).alloc (.cells zr.toArray 52)).drew) (vs := ra) (Blk.alloc C9 (.cells zr.toArray 52)) (hzl.out.trans HLA.out.symm) HOA.out
        replace hst12 : (storeCells ⟨W.heap.size, 0, none⟩ ra).run Try.prog (((((W).alloc (.cells zr.toArray 52))).alloc (.cells zr.toArray 52)).drew) = .ok () v12 := hst12
        replace Z12 : v12.heap.size = W.heap.size + 1 + 1 := Z12.trans Z11
        have T12 : Below W.heap.size W v12 := Below.grown T11 g12 T11.size (fun q e => by cases e; omega)
        have O12 := Blk.grown O11 g12 (by first | (simp; done) | (simp; omega))
        refine wpAnyH_ready (rs := [4]) (by kernel_rfl) (by simp) (AllReadyH.cons rfl (fun K hK => ?_) AllReadyH.nil)
        · go_simp
          refine hK.out _ _ T12 (fun _ => ?_)
          clear hK K
          obtain ⟨v13, hst13, R13, g13, Z13⟩ := seg_cells (P := Try.prog) (w := v12) (vs := rb) O12 (hzl.out.trans HLB.out.symm) HOB.out
          replace hst13 : (storeCells ⟨W.heap.size + 1, 0, none⟩ rb).run Try.prog (v12) = .ok () v13 := hst13
          replace Z13 : v13.heap.size = W.heap.size + 1 + 1 := Z13.trans Z12
          have T13 : Below W.heap.size W v13 := Below.grown T12 g13 T12.size (fun q e => by cases e; omega)
          have C13 := Blk.grown R12 g13 (by first | (simp; done) | (simp; omega))
          refine wpAnyH_ready (rs := [5]) (by kernel_rfl) (by simp) (AllReadyH.cons rfl (fun K hK => ?_) AllReadyH.nil)
          · go_simp
            refine hK.out _ _ T13 (fun _ => ?_)
            clear hK K
            refine wpAnyH_done (by kernel_rfl) ?_ _
            go_simp
            have Ne := Lib.hid (N2.out.after T13)
            have n0 := Ne.out.cell 0
            simp only [List.getElem?_cons_zero] at n0
            go_wp2_with fail
            clear n0 Ne
            have T14 : Below W.heap.size W v13.drew := T13.drew
            have Z14 : v13.drew.heap.size = W.heap.size + 1 + 1 := Z13
            have C14 : Blk v13.drew (W.heap.size) 52 ra := C13
            have O14 : Blk v13.drew (W.heap.size + 1) 52 rb := R13
            refine wp_region_held_drew (S := (fun w' => Below W.heap.size W w')) (by kernel_rfl) T14 (fun _ => ?_)
            refine wpAnyH_take (i := 0) (v := .agg rb.toArray) rfl (by kernel_rfl) (by kernel_rfl) (by kernel_rfl) (fun _ _ _ h => h) (yields_seg (i := 0) aggC sizeC (.tmp 5) (by kernel_rfl) (by kernel_rfl) (by kernel_rfl) (g := w.heap.size + 1 + 1) (fun w h => B2.out.after h) (all41 HLB.out) HLB.out) T14 ?_
            refine wpAnyH_take (i := 1) (v := .agg ra.toArray) rfl (by kernel_rfl) (by kernel_rfl) (by kernel_rfl) (fun _ _ _ h => h) (yields_seg (i := 0) aggC sizeC (.tmp 4) (by kernel_rfl) (by kernel_rfl) (by kernel_rfl) (g := w.heap.size + 1) (fun w h => A2.out.after h) (all41 HLA.out) HLA.out) T14 ?_
            obtain ⟨v15, hst15, R15, g15, Z15⟩ := seg_cells (P := Try.prog) (w := v13.drew) (vs := rb) C14 (HLA.out.trans HLB.out.symm) HOB.out
            replace hst15 : (storeCells ⟨W.heap.size, 0, none⟩ rb).run Try.prog (v13.drew) = .ok () v15 := hst15
            replace Z15 : v15.heap.size = W.heap.size + 1 + 1 := Z15.trans Z14
            have T15 : Below W.heap.size W v15 := Below.grown T14 g15 T14.size (fun q e => by cases e; omega)
            have O15 := Blk.grown O14 g15 (by first | (simp; done) | (simp; omega))
            refine wpAnyH_ready (rs := [2]) (by kernel_rfl) (by simp) (AllReadyH.cons rfl (fun K hK => ?_) AllReadyH.nil)
            · go_simp
              refine hK.out _ _ T15 (fun _ => ?_)
              clear hK K
              obtain ⟨v16, hst16, R16, g16, Z16⟩ := seg_cells (P := Try.prog) (w := v15) (vs := ra) O15 (HLB.out.trans HLA.out.symm) HOA.out
              replace hst16 : (storeCells ⟨W.heap.size + 1, 0, none⟩ ra).run Try.prog (v15) = .ok () v16 := hst16
              replace Z16 : v16.heap.size = W.heap.size + 1 + 1 := Z16.trans Z15
              have T16 : Below W.heap.size W v16 := Below.grown T15 g16 T15.size (fun q e => by cases e; omega)
              have C16 := Blk.grown R15 g16 (by first | (simp; done) | (simp; omega))
              refine wpAnyH_ready (rs := [3]) (by kernel_rfl) (by simp) (AllReadyH.cons rfl (fun K hK => ?_) AllReadyH.nil)
              · go_simp
                refine hK.out _ _ T16 (fun _ => ?_)
                clear hK K
                refine wpAnyH_done (by kernel_rfl) ?_ _
                go_simp
                clear hla hlb
                have te := Lib.hid (t2.out.trans (Below.mono T16 t2.out.size))
                have Ve := Lib.hid (V2.out.after T16)
                have Ne := Lib.hid (N2.out.after T16)
                have Ce := Lib.hid C16
                have Oe := Lib.hid R16
                have z0 := (Ce.out.cell 0).trans yb0.out
                have z1 := (Ce.out.cell 1).trans yb1.out
                have z2 := (Ce.out.cell 2).trans yb2.out
                have z3 := (Ce.out.cell 3).trans yb3.out
                rw [HM.out.1] at z0
                rw [HM.out.2.1] at z1
                rw [HM.out.2.2.1] at z2
                have v1 := Ve.out.cell 1
                have v2 := Ve.out.cell 2
                have n0 := Ne.out.cell 0
                have n1 := Ne.out.cell 1
                simp only [List.getElem?_cons_zero, List.getElem?_cons_succ] at v1 v2 n0 n1
                have d1 : decide ((b.e : Int) < (t.b : Int)) = false := by have := HM.out.2.2.2.2; simp; omega
                have d2 : decide (b.e < t.b) = false := by have := HM.out.2.2.2.2; simp; omega
                go_wp2_with (with_reducible refine wpl_vload (.tmp 3) rfl rfl Ve.out rfl ?_)
                have k9 := KH.out 1
                rw [HM.out.2.2.2.1] at k9
                ((with_reducible refine (k9 _).mono ?_); rintro e9 w9 ⟨rfl, h9⟩)
                have Cf := Lib.hid (Ce.out.after h9)
                have Vf := Lib.hid (Ve.out.after h9)
                have Nf := Lib.hid (Ne.out.after h9)
                have Of := Lib.hid (Oe.out.after h9)
                have tf := Lib.hid (te.out.trans (h9.mono te.out.size))
                clear h9 z0 z1 z2 z3 v1 v2 n0 n1 d1 d2 Ce Ve Ne Oe te k9
                have z3 := (Cf.out.cell 3).trans yb3.out
                have u0 := (Of.out.cell 0).trans ya0.out
                have u1 := (Of.out.cell 1).trans ya1.out
                have u2 := (Of.out.cell 2).trans ya2.out
                have u3 := (Of.out.cell 3).trans ya3.out
                have v1 := Vf.out.cell 1
                have n0 := Nf.out.cell 0
                have n1 := Nf.out.cell 1
                simp only [List.getElem?_cons_zero, List.getElem?_cons_succ] at v1 n0 n1
                obtain ⟨oh, hoh⟩ : ∃ q, a.h = q := ⟨_, rfl⟩
                obtain ⟨os, hos⟩ : ∃ q, a.s = q := ⟨_, rfl⟩
                obtain ⟨on, hon⟩ : ∃ q, a.n = q := ⟨_, rfl⟩
                obtain ⟨oi, hoi⟩ : ∃ q, t.has 0 = q := ⟨_, rfl⟩
                rw [hoh] at u0
                rw [hos] at u1
                rw [hon] at u2
                have HSO2 := HSO.out
                rw [hoh, hos, hon, hoi] at HSO2
                have KHo := KH.out 0
                rw [hoi] at KHo
                have HSO3 := Lib.hid HSO2
                have KH2 := Lib.hid KHo
                clear hoh hos hon hoi HSO2 KHo
                cases oh
                · go_wp2
                  go_ret
                  exact ⟨rfl, tf.out⟩
                cases os
                · go_wp2
                  go_ret
                  exact ⟨rfl, tf.out⟩
                cases on
                · go_wp2
                  go_ret
                  exact ⟨rfl, tf.out⟩
                go_wp2_with (with_reducible refine wpl_vload (.tmp 3) rfl rfl Vf.out rfl ?_)
                ((with_reducible refine (KH2.out _).mono ?_); rintro e10 w10 ⟨rfl, h10⟩)
                have z4 := ((Cf.out.after h10).cell 3).trans yb3.out
                have u4 := ((Of.out.after h10).cell 3).trans ya3.out
                have tg := Lib.hid (tf.out.trans (h10.mono tf.out.size))
                clear h10
                cases oi
                · go_wp2
                  go_ret
                  exact ⟨rfl, tg.out⟩
                · have hle : a.e ≤ b.e := by have q := HSO3.out; first | exact q rfl rfl rfl rfl | simpa using q
                  go_wp2
                  go_ret
                  exact ⟨rfl, tg.out⟩
    · go_simp
      refine hK.out _ _ T10 (fun _ => ?_)
      clear hK K
      have T17 : Below W.heap.size W (((((W).alloc (.cells zr.toArray 52))).alloc (.cells zr.toArray 52)).drew) := (Below.alloc T10 T10.size _)
      have Z17 : (((((W).alloc (.cells zr.toArray 52))).alloc (.cells zr.toArray 52)).drew).heap.size = W.heap.size + 1 + 1 := by have q := Z10; simp at q ⊢; try omega
      have C17 : Blk (((((W).alloc (.cells zr.toArray 52))).alloc (.cells zr.toArray 52)).drew) (W.heap.size + 1) 52 zr := by have q := Blk.new (((W).alloc (.cells zr.toArray 52)).drew) 52 zr; rw [Z10] at q; exact q
      refine wpAnyH_ready (rs := [2]) (by kernel_rfl) (by simp) (AllReadyH.cons rfl (fun K hK => ?_) AllReadyH.nil)
      · go_simp
        refine hK.out _ _ T17 (fun _ => ?_)
        clear hK K
        obtain ⟨v18, hst18, R18, g18, Z18⟩ := seg_cells (P := Try.prog) (w := ((((W).alloc (.cells zr.toArray 52))).alloc (.cells zr.toArray 52)).drew) (vs := ra) C17 (hzl.out.trans HLA.out.symm) HOA.out
        replace hst18 : (storeCells ⟨W.heap.size + 1, 0, none⟩ ra).run Try.prog (((((W).alloc (.cells zr.toArray 52))).alloc (.cells zr.toArray 52)).drew) = .ok () v18 := hst18
        replace Z18 : v18.heap.size = W.heap.size + 1 + 1 := Z18.trans Z17
        have T18 : Below W.heap.size W v18 := Below.grown T17 g18 T17.size (fun q e => by cases e; omega)
        have O18 := Blk.grown (Blk.alloc O10 (.cells zr.toArray 52)) g18 (by first | (simp; done) | (simp; omega))
        refine wpAnyH_ready (rs := [4]) (by kernel_rfl) (by simp) (AllReadyH.cons rfl (fun K hK => ?_) AllReadyH.nil)
        · go_simp
          refine hK.out _ _ T18 (fun _ => ?_)
          clear hK K
          obtain ⟨v19, hst19, R19, g19, Z19⟩ := seg_cells (P := Try.prog) (w := v18) (vs := rb) O18 (hzl.out.trans HLB.out.symm) HOB.out
          replace hst19 : (storeCells ⟨W.heap.size, 0, none⟩ rb).run Try.prog (v18) = .ok () v19 := hst19
          replace Z19 : v19.heap.size = W.heap.size + 1 + 1 := Z19.trans Z18
          have T19 : Below W.heap.size W v19 := Below.grown T18 g19 T18.size (fun q e => by cases e; omega)
          have C19 := Blk.grown R18 g19 (by first | (simp; done) | (simp; omega))
          refine wpAnyH_ready (rs := [5]) (by kernel_rfl) (by simp) (AllReadyH.cons rfl (fun K hK => ?_) AllReadyH.nil)
          · go_simp
            refine hK.out _ _ T19 (fun _ => ?_)
            clear hK K
            refine wpAnyH_done (by kernel_rfl) ?_ _
            go_simp
            have Ne := Lib.hid (N2.out.after T19)
            have n0 := Ne.out.cell 0
            simp only [List.getElem?_cons_zero] at n0
            go_wp2_with fail
            clear n0 Ne
            have T20 : Below W.heap.size W v19.drew := T19.drew
            have Z20 : v19.drew.heap.size = W.heap.size + 1 + 1 := Z19
            have C20 : Blk v19.drew (W.heap.size + 1) 52 ra := C19
            have O20 : Blk v19.drew (W.heap.size) 52 rb := R19
            refine wp_region_held_drew (S := (fun w' => Below W.heap.size W w')) (by kernel_rfl) T20 (fun _ => ?_)
            refine wpAnyH_take (i := 0) (v := .agg rb.toArray) rfl (by kernel_rfl) (by kernel_rfl) (by kernel_rfl) (fun _ _ _ h => h) (yields_seg (i := 0) aggC sizeC (.tmp 5) (by kernel_rfl) (by kernel_rfl) (by kernel_rfl) (g := w.heap.size + 1 + 1) (fun w h => B2.out.after h) (all41 HLB.out) HLB.out) T20 ?_
            refine wpAnyH_take (i := 1) (v := .agg ra.toArray) rfl (by kernel_rfl) (by kernel_rfl) (by kernel_rfl) (fun _ _ _ h => h) (yields_seg (i := 0) aggC sizeC (.tmp 4) (by kernel_rfl) (by kernel_rfl) (by kernel_rfl) (g := w.heap.size + 1) (fun w h => A2.out.after h) (all41 HLA.out) HLA.out) T20 ?_
            obtain ⟨v21, hst21, R21, g21, Z21⟩ := seg_cells (P := Try.prog) (w := v19.drew) (vs := rb) C20 (HLA.out.trans HLB.out.symm) HOB.out
            replace hst21 : (storeCells ⟨W.heap.size + 1, 0, none⟩ rb).run Try.prog (v19.drew) = .ok () v21 := hst21
            replace Z21 : v21.heap.size = W.heap.size + 1 + 1 := Z21.trans Z20
            have T21 : Below W.heap.size W v21 := Below.grown T20 g21 T20.size (fun q e => by cases e; omega)
            have O21 := Blk.grown O20 g21 (by first | (simp; done) | (simp; omega))
            refine wpAnyH_ready (rs := [2]) (by kernel_rfl) (by simp) (AllReadyH.cons rfl (fun K hK => ?_) AllReadyH.nil)
            · go_simp
              refine hK.out _ _ T21 (fun _ => ?_)
              clear hK K
              obtain ⟨v22, hst22, R22, g22, Z22⟩ := seg_cells (P := Try.prog) (w := v21) (vs := ra) O21 (HLB.out.trans HLA.out.symm) HOA.out
              replace hst22 : (storeCells ⟨W.heap.size, 0, none⟩ ra).run Try.prog (v21) = .ok () v22 := hst22
              replace Z22 : v22.heap.size = W.heap.size + 1 + 1 := Z22.trans Z21
              have T22 : Below W.heap.size W v22 := Below.grown T21 g22 T21.size (fun q e => by cases e; omega)
              have C22 := Blk.grown R21 g22 (by first | (simp; done) | (simp; omega))
              refine wpAnyH_ready (rs := [3]) (by kernel_rfl) (by simp) (AllReadyH.cons rfl (fun K hK => ?_) AllReadyH.nil)
              · go_simp
                refine hK.out _ _ T22 (fun _ => ?_)
                clear hK K
                refine wpAnyH_done (by kernel_rfl) ?_ _
                go_simp
                clear hla hlb
                have te := Lib.hid (t2.out.trans (Below.mono T22 t2.out.size))
                have Ve := Lib.hid (V2.out.after T22)
                have Ne := Lib.hid (N2.out.after T22)
                have Ce := Lib.hid C22
                have Oe := Lib.hid R22
                have z0 := (Ce.out.cell 0).trans yb0.out
                have z1 := (Ce.out.cell 1).trans yb1.out
                have z2 := (Ce.out.cell 2).trans yb2.out
                have z3 := (Ce.out.cell 3).trans yb3.out
                rw [HM.out.1] at z0
                rw [HM.out.2.1] at z1
                rw [HM.out.2.2.1] at z2
                have v1 := Ve.out.cell 1
                have v2 := Ve.out.cell 2
                have n0 := Ne.out.cell 0
                have n1 := Ne.out.cell 1
                simp only [List.getElem?_cons_zero, List.getElem?_cons_succ] at v1 v2 n0 n1
                have d1 : decide ((b.e : Int) < (t.b : Int)) = false := by have := HM.out.2.2.2.2; simp; omega
                have d2 : decide (b.e < t.b) = false := by have := HM.out.2.2.2.2; simp; omega
                go_wp2_with (with_reducible refine wpl_vload (.tmp 3) rfl rfl Ve.out rfl ?_)
                have k9 := KH.out 1
                rw [HM.out.2.2.2.1] at k9
                ((with_reducible refine (k9 _).mono ?_); rintro e9 w9 ⟨rfl, h9⟩)
                have Cf := Lib.hid (Ce.out.after h9)
                have Vf := Lib.hid (Ve.out.after h9)
                have Nf := Lib.hid (Ne.out.after h9)
                have Of := Lib.hid (Oe.out.after h9)
                have tf := Lib.hid (te.out.trans (h9.mono te.out.size))
                clear h9 z0 z1 z2 z3 v1 v2 n0 n1 d1 d2 Ce Ve Ne Oe te k9
                have z3 := (Cf.out.cell 3).trans yb3.out
                have u0 := (Of.out.cell 0).trans ya0.out
                have u1 := (Of.out.cell 1).trans ya1.out
                have u2 := (Of.out.cell 2).trans ya2.out
                have u3 := (Of.out.cell 3).trans ya3.out
                have v1 := Vf.out.cell 1
                have n0 := Nf.out.cell 0
                have n1 := Nf.out.cell 1
                simp only [List.getElem?_cons_zero, List.getElem?_cons_succ] at v1 n0 n1
                obtain ⟨oh, hoh⟩ : ∃ q, a.h = q := ⟨_, rfl⟩
                obtain ⟨os, hos⟩ : ∃ q, a.s = q := ⟨_, rfl⟩
                obtain ⟨on, hon⟩ : ∃ q, a.n = q := ⟨_, rfl⟩
                obtain ⟨oi, hoi⟩ : ∃ q, t.has 0 = q := ⟨_, rfl⟩
                rw [hoh] at u0
                rw [hos] at u1
                rw [hon] at u2
                have HSO2 := HSO.out
                rw [hoh, hos, hon, hoi] at HSO2
                have KHo := KH.out 0
                rw [hoi] at KHo
                have HSO3 := Lib.hid HSO2
                have KH2 := Lib.hid KHo
                clear hoh hos hon hoi HSO2 KHo
                cases oh
                · go_wp2
                  go_ret
                  exact ⟨rfl, tf.out⟩
                cases os
                · go_wp2
                  go_ret
                  exact ⟨rfl, tf.out⟩
                cases on
                · go_wp2
                  go_ret
                  exact ⟨rfl, tf.out⟩
                go_wp2_with (with_reducible refine wpl_vload (.tmp 3) rfl rfl Vf.out rfl ?_)
                ((with_reducible refine (KH2.out _).mono ?_); rintro e10 w10 ⟨rfl, h10⟩)
                have z4 := ((Cf.out.after h10).cell 3).trans yb3.out
                have u4 := ((Of.out.after h10).cell 3).trans ya3.out
                have tg := Lib.hid (tf.out.trans (h10.mono tf.out.size))
                clear h10
                cases oi
                · go_wp2
                  go_ret
                  exact ⟨rfl, tg.out⟩
                · have hle : a.e ≤ b.e := by have q := HSO3.out; first | exact q rfl rfl rfl rfl | simpa using q
                  go_wp2
                  go_ret
                  exact ⟨rfl, tg.out⟩
end Go.Proofs.Yticigjkaangkmaa

