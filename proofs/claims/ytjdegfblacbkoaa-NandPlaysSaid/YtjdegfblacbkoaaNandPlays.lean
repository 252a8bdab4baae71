/- The walk of NandPlays: it answers true, and changes nothing that was there. No condition. -/
import Derived.Test.YtjdegfblacbkoaaNandQuad
namespace Go.Proofs.Ytjdegfblacbkoaa
open Go.RowKit
theorem beq_fresh : NM.Pwr.fresh = ⟨false, -1, 0⟩ := rfl
theorem marked_few (N : Nat) (zs : List Int) : (Ch.marked N zs).few 0 := ⟨Nat.le_refl _, Nat.le_refl _, Nat.le_refl _⟩
theorem at_own0 {g p j : Nat} (h : At.own ⟨g + 1, g, p, none, none⟩ j) : j = g + 1 ∨ j = g := by
  rcases h with h | h | h | h
  · exact .inl h
  · exact .inr h
  · cases h
  · cases h
set_option maxRecDepth 100000 in
set_option maxHeartbeats 16000000 in
theorem plays_main (n : Int) (zs : List Int) (Az : Option Addr) (cz : Nat) (os : List OpV) (Ao : Option Addr) (co : Nat) (w : World) (hz : Nums w w.heap.size .i64 (.slice Az zs.length cz) zs) (ho : Script w w.heap.size (.slice Ao os.length co) os) :
    Calls Try.prog 3 #[.int .i64 n, .slice Az zs.length cz, .slice Ao os.length co] w fun e w' => e = .returned (.bool true) ∧ Below w.heap.size w w' := by
  have ks := nandspeaks_any w
  have HZ := Lib.hid hz
  have HO := Lib.hid ho
  clear hz ho
  go_enter Try.func3, Try.ntmps3
  go_wp2_with ((with_reducible refine ks.mono ?_); rintro e w1 ⟨rfl, b1⟩)
  have B1 := Lib.hid b1
  have kg := great_any Ao co os w1 (by
    obtain ⟨A, c, e, l1, l2, h1, h2⟩ := HO.out
    exact ⟨A, c, e, l1, l2, fun i o hi => by obtain ⟨a, e1, e2, e3⟩ := h1 i o hi; exact ⟨a, e1, Nat.lt_of_lt_of_le e2 b1.size, fun j u hu => by rw [b1.cell (by rw [add_block]; exact e2)]; exact e3 j u hu⟩, fun o ho => by
      obtain ⟨p1, p2, p3, p4, p5, p6, p7, p8⟩ := h2 o ho
      refine ⟨p1, p2, p3, p4, p5, p6, p7, ?_⟩
      obtain ⟨A', c', e', m1, m2, hrow, hwf⟩ := p8
      exact ⟨A', c', e', m1, m2, (hrow.below b1).more b1.size, hwf⟩⟩)
  clear b1 ks
  go_wp2_with fail
  ((with_reducible refine kg.mono ?_); rintro e w2 ⟨g, rfl, hg, b2⟩)
  have B2 : Hid (Below w.heap.size w w2) := Lib.hid (B1.out.trans (b2.mono B1.out.size))
  have HG := Lib.hid hg
  clear b2 kg hg B1
  cases g
  · by_cases h50 : 50 < zs.length
    · have d1 : decide ((50 : Int) < (zs.length : Int)) = true := by simp; omega
      go_wp2_with fail
      go_ret
      exact ⟨rfl, B2.out⟩
    · have d1 : decide ((50 : Int) < (zs.length : Int)) = false := by simp; omega
      obtain ⟨hlen, hwl⟩ := HG.out (by first | rfl | trivial)
      have HWL := Lib.hid hwl
      have k3 := newpower_any w2
      clear hwl HG
      go_wp2_with fail
      ((with_reducible refine k3.mono ?_); rintro e w3 ⟨rfl, P3, b3⟩)
      have B3 : Hid (Below w.heap.size w w3) := Lib.hid (B2.out.trans (b3.mono B2.out.size))
      have HP3 := Lib.hid P3
      have hpl : Hid (w.heap.size ≤ w2.heap.size ∧ w2.heap.size < w3.heap.size) := Lib.hid ⟨B2.out.size, P3.lt⟩
      obtain ⟨p, hp⟩ : ∃ p, p = w2.heap.size := ⟨_, rfl⟩
      rw [← hp] at HP3 hpl ⊢
      have k4 := refNewPower_any w3
      clear P3 b3 k3 B2 hp
      go_wp2_with fail
      ((with_reducible refine k4.mono ?_); rintro e w4 ⟨rfl, R4, b4⟩)
      have B4 : Hid (Below w.heap.size w w4) := Lib.hid (B3.out.trans (b4.mono B3.out.size))
      have HP4 := Lib.hid (HP3.out.after b4)
      have HR4 := Lib.hid R4
      have hql : Hid (p < w3.heap.size ∧ w3.heap.size < w4.heap.size) := Lib.hid ⟨hpl.out.2, Blk.lt R4⟩
      obtain ⟨q, hq⟩ : ∃ q, q = w3.heap.size := ⟨_, rfl⟩
      rw [← hq] at HR4 hql ⊢
      have hpl' : Hid (w.heap.size ≤ p) := Lib.hid hpl.out.1
      clear R4 b4 k4 B3 hq HP3 hpl
      have O5 : (w4.alloc (.cells #[] 3)).ownsRow w4.heap.size 3 1 (.slice (some ⟨w4.heap.size, 0, none⟩) 0 0) 0 [] := World.ownsRow_made (size := 1) w4 #[] 0 (Nat.le_refl _) (by simp [maxLen]) (by simp)
      have b5 : Below w4.heap.size w4 (w4.alloc (.cells #[] 3)) := (Below.refl _ _).alloc (Nat.le_refl _) _
      have Z5 : Row (w4.alloc (.cells #[] 3)) w.heap.size Az (zs.map (Value.int .i64)) := by
        obtain ⟨A', c', e', m1, m2, hrow, hwf⟩ := HZ.out
        obtain ⟨e1, _, _⟩ := Value.slice.inj e'
        rw [e1]
        exact hrow.below (B4.out.trans (b5.mono B4.out.size))
      have hwf : ∀ z ∈ zs, (Lit.int .i64 z).wf = true := by
        obtain ⟨A', c', e', m1, m2, hrow, hwf⟩ := HZ.out
        exact hwf
      have h1c : ∀ u ∈ zs.map (Value.int .i64), u.oneCell' = true := fun u hu => by obtain ⟨z, _, rfl⟩ := List.mem_map.1 hu; rfl
      have HWF := Lib.hid hwf
      have H5 := Lib.hid b5
      clear hwf b5
      go_wp2_with (at_builtin; refine wpl_append_vals (xs := []) intTys rfl (.tmp 39) (.tmp 40) rfl 0 rfl O5 _ _ _ (zs.map (Value.int .i64)) zs.length (by simp) rfl Z5 h1c (by omega) (by simp only [maxLen]; omega) (by rw [World.size_alloc]; omega) zs.length (by omega) ?_; intro A8 c8 w8 O8 g8 h8)
      rw [List.nil_append] at O8
      have b8 : Below w4.heap.size w4 w8 := H5.out.grown g8 (by rw [World.size_alloc]; omega) (fun k e => by cases e; exact Nat.le_refl _)
      obtain ⟨x8, N8, _⟩ := own_rnums rfl O8 HWF.out
      have HN8 := Lib.hid N8.nums
      have B8 : Hid (Below w.heap.size w w8) := Lib.hid (B4.out.trans (b8.mono B4.out.size))
      have HP8 := Lib.hid (HP4.out.after b8)
      have HR8 := Lib.hid (HR4.out.after b8)
      have s8 : Hid (q < w8.heap.size) := Lib.hid (Nat.lt_of_lt_of_le hql.out.2 b8.size)
      have pq : Hid (p < q) := Lib.hid hql.out.1
      clear O8 g8 h8 b8 N8 O5 Z5 h1c H5 HP4 HR4 B4 hql
      by_cases hE : newE n zs = 1
      · have kN := newR_any n zs _ p w8 HN8.out hE
        have NZ : ∀ w', Below w8.heap.size w8 w' → Nums w' w'.heap.size .i64 (.slice Az zs.length cz) zs := fun w' hb => by
          obtain ⟨A', c', e', m1, m2, hrow, hwf⟩ := HZ.out
          exact ⟨A', c', e', m1, m2, (hrow.below (B8.out.trans (hb.mono B8.out.size))).more (Nat.le_trans B8.out.size hb.size), hwf⟩
        have hno : n < 16 ∨ 40 < n ∨ badOut n zs = true := by
          unfold newE at hE
          by_cases h : n < 16 ∨ 40 < n ∨ badOut n zs = true
          · exact h
          · rw [if_neg h] at hE; cases hE
        have HNO := Lib.hid hno
        have HNZ := Lib.hid NZ
        clear hE hno NZ
        ((with_reducible refine kN.mono ?_); rintro e w9 ⟨rfl, b9⟩)
        have B9 : Hid (Below w.heap.size w w9) := Lib.hid (B8.out.trans (b9.mono B8.out.size))
        have kR : Calls Try.prog 10 #[.pointer (some ⟨q, 0, none⟩), .int .i64 n, .slice Az zs.length cz] w9 fun e w' => e = .returned (.pointer none) ∧ Below w9.heap.size w9 w' := by
          by_cases hr : n < 16 ∨ 40 < n
          · exact refNewR_any n _ q w9 hr
          · obtain ⟨N, rfl⟩ : ∃ N : Nat, n = (N : Int) := ⟨n.toNat, by omega⟩
            have hb : badOut (N : Int) zs = true := by
              rcases HNO.out with h | h | h
              · exact absurd (.inl h) hr
              · exact absurd (.inr h) hr
              · exact h
            refine (refNew_any N (by omega) zs _ q NM.Pwr.fresh w9 (RPow.after HR8.out b9) (HNZ.out w9 b9)).mono (fun e w' hh => ?_)
            rcases hh with h | h
            · exact ⟨h.2.1, h.2.2⟩
            · rw [hb] at h; cases h.1
        clear kN b9 B8 HN8 HP8 HR8
        go_wp2_with fail
        ((with_reducible refine kR.mono ?_); rintro e wa ⟨rfl, ba⟩)
        have Ba : Hid (Below w.heap.size w wa) := Lib.hid (B9.out.trans (ba.mono B9.out.size))
        clear kR ba B9
        go_wp2_with fail
        go_ret
        exact ⟨rfl, Ba.out⟩
      · have hno : ¬ (n < 16 ∨ 40 < n ∨ badOut n zs = true) := fun h => hE (by unfold newE; rw [if_pos h])
        obtain ⟨N, rfl⟩ : ∃ N : Nat, n = (N : Int) := ⟨n.toNat, by omega⟩
        have hN : 16 ≤ N ∧ N ≤ 40 := by omega
        have hb : badOut (N : Int) zs = false := by
          cases h : badOut (N : Int) zs
          · rfl
          · exact absurd (.inr (.inr h)) hno
        clear hE hno
        have kN := newB_any N hN zs _ p NM.Pwr.fresh w8 HP8.out HN8.out hb
        have nil_nums : ∀ w : World, Nums w w.heap.size .i64 (.slice none 0 0) [] := fun w => ⟨none, 0, rfl, Nat.le_refl _, by simp [maxLen], Row.nil, by simp⟩
        have HNIL := Lib.hid nil_nums
        clear nil_nums
        ((with_reducible refine kN.mono ?_); rintro e w9 ⟨rfl, A9, b9⟩)
        have B9 : Hid (Below w.heap.size w w9) := Lib.hid (B8.out.trans (b9.mono B8.out.size))
        have HA9 := Lib.hid A9
        have HP9 := Lib.hid (HP8.out.after b9)
        have HR9 := Lib.hid (RPow.after HR8.out b9)
        have s9 : Hid (w8.heap.size + 1 < w9.heap.size) := Lib.hid (A9.own_lt _ (.inl rfl))
        have NZ9 : Nums w9 w9.heap.size .i64 (.slice Az zs.length cz) zs := by
          obtain ⟨A', c', e', m1, m2, hrow, hwf⟩ := HZ.out
          exact ⟨A', c', e', m1, m2, (hrow.below B9.out).more B9.out.size, hwf⟩
        have kR := refNew_any N hN zs _ q NM.Pwr.fresh w9 HR9.out NZ9
        obtain ⟨g1, hg1⟩ : ∃ g1, g1 = w8.heap.size := ⟨_, rfl⟩
        rw [← hg1] at HA9 s8 s9 ⊢
        clear kN A9 b9 NZ9 B8 HN8 HP8 HR8 hg1
        go_wp2_with fail
        ((with_reducible refine kR.mono ?_); rintro e wa hh; (rcases hh with ⟨hbt, _, _⟩ | ⟨_, r, rfl, rp_, rx_, re_, rge, Ra, ba⟩; · (exact absurd (hbt.symm.trans hb) (by simp))))
        have Ba : Hid (Below w.heap.size w wa) := Lib.hid (B9.out.trans (ba.mono B9.out.size))
        have HAa := Lib.hid (HA9.out.after ba)
        have HPa := Lib.hid (HP9.out.after ba)
        have HQa := Lib.hid (RPow.after HR9.out ba)
        have HRa := Lib.hid Ra
        have RGE : Hid (∀ k, r.own k → w9.heap.size ≤ k ∧ k < wa.heap.size) := Lib.hid (fun k hk => ⟨rge k hk, Ra.own_lt (fun k e => by rcases e with e | e; rw [rx_] at e; cases e; rw [re_] at e; cases e) k hk⟩)
        have RP := Lib.hid rp_
        have sa : Hid (w9.heap.size ≤ wa.heap.size) := Lib.hid ba.size
        have kM := newB_any 16 (by omega) [] _ p NM.Pwr.fresh wa HPa.out (HNIL.out wa) rfl
        rw [show ((16 : Nat) : Int) = 16 from rfl] at kM
        clear kR ba Ra rge rp_ rx_ re_ B9 HA9 HP9 HR9
        go_wp2_with fail
        ((with_reducible refine kM.mono ?_); rintro e wb ⟨rfl, Ab, bb⟩)
        have Bb : Hid (Below w.heap.size w wb) := Lib.hid (Ba.out.trans (bb.mono Ba.out.size))
        have HAb := Lib.hid (HAa.out.after bb)
        have HPb := Lib.hid (HPa.out.after bb)
        have HQb := Lib.hid (RPow.after HQa.out bb)
        have HRb := Lib.hid (HRa.out.after bb)
        have HBb := Lib.hid Ab
        have sb : Hid (wa.heap.size + 1 < wb.heap.size) := Lib.hid (Ab.own_lt _ (.inl rfl))
        have kT := refNew_any 16 (by omega) [] _ q NM.Pwr.fresh wb HQb.out (HNIL.out wb)
        rw [show ((16 : Nat) : Int) = 16 from rfl] at kT
        clear kM bb Ab HAa HPa HQa HRa Ba
        obtain ⟨g2, hg2⟩ : ∃ g2, g2 = wa.heap.size := ⟨_, rfl⟩
        rw [← hg2] at RGE sa sb HBb ⊢
        clear hg2
        go_wp2_with fail
        ((with_reducible refine kT.mono ?_); rintro e wc hh; (rcases hh with ⟨hbt, _, _⟩ | ⟨_, t, rfl, tp_, tx_, te_, tge, Tc, bc⟩; · (exact absurd hbt (by simp [badOut]))))
        have Bc : Hid (Below w.heap.size w wc) := Lib.hid (Bb.out.trans (bc.mono Bb.out.size))
        have HAc := Lib.hid (HAb.out.after bc)
        have HPc := Lib.hid (HPb.out.after bc)
        have HQc := Lib.hid (RPow.after HQb.out bc)
        have HRc := Lib.hid (HRb.out.after bc)
        have HBc := Lib.hid (HBb.out.after bc)
        have HTc := Lib.hid Tc
        have TGE : Hid (∀ k, t.own k → wb.heap.size ≤ k ∧ k < wc.heap.size) := Lib.hid (fun k hk => ⟨tge k hk, Tc.own_lt (fun k e => by rcases e with e | e; rw [tx_] at e; cases e; rw [te_] at e; cases e) k hk⟩)
        have TP := Lib.hid tp_
        have sc : Hid (wb.heap.size ≤ wc.heap.size) := Lib.hid bc.size
        clear kT bc Tc tge tp_ tx_ te_ HAb HPb HQb HRb HBb Bb
        have QD : Hid (Quad wc ⟨g1 + 1, g1, p, none, none⟩ r (Ch.marked N zs) ⟨g2 + 1, g2, p, none, none⟩ t (Ch.marked 16 []) p q NM.Pwr.fresh (fun _ => False) w.heap.size) := Lib.hid (by
          have x1 := hpl'.out
          have x2 := pq.out
          have x3 := s8.out
          have x4 := s9.out
          have x5 := sa.out
          have x6 := sb.out
          have x7 := sc.out
          have o1 : ∀ j, At.own ⟨g1 + 1, g1, p, none, none⟩ j → j = g1 + 1 ∨ j = g1 := fun j hj => at_own0 hj
          have o2 : ∀ j, At.own ⟨g2 + 1, g2, p, none, none⟩ j → j = g2 + 1 ∨ j = g2 := fun j hj => at_own0 hj
          have o3 := RGE.out
          have o4 := TGE.out
          refine ⟨⟨HAc.out, HRc.out, ?_, ?_, ?_, rfl, RP.out⟩, ⟨HBc.out, HTc.out, ?_, ?_, ?_, rfl, TP.out⟩, ⟨HPc.out, HQc.out, by omega, fresh_fits⟩, ?_, fun j h => h.elim, ?_⟩
          · intro j hj hk; have h1 := o1 j hj; have h2 := o3 j hk; omega
          · rintro j (hj | hj)
            · have h1 := o1 j hj; omega
            · have h2 := o3 j hj; omega
          · rintro j (hj | hj)
            · have h1 := o1 j hj; have := HBc.out.own_lt (g2 + 1) (.inl rfl); omega
            · have h2 := o3 j hj; have := HBc.out.own_lt (g2 + 1) (.inl rfl); omega
          · intro j hj hk; have h1 := o2 j hj; have h2 := o4 j hk; omega
          · rintro j (hj | hj)
            · have h1 := o2 j hj; omega
            · have h2 := o4 j hj; omega
          · rintro j (hj | hj)
            · have h1 := o2 j hj; have := HBc.out.own_lt (g2 + 1) (.inl rfl); omega
            · have h2 := o4 j hj; omega
          · rintro j (hj | hj) (hk | hk)
            · have h1 := o1 j hj; have h2 := o2 j hk; omega
            · have h1 := o1 j hj; have h2 := o4 j hk; omega
            · have h1 := o3 j hj; have h2 := o2 j hk; omega
            · have h1 := o3 j hj; have h2 := o4 j hk; omega
          · rintro j ((hj | hj) | (hj | hj) | hj | hj)
            · have h1 := o1 j hj; omega
            · have h1 := o3 j hj; omega
            · have h1 := o2 j hj; omega
            · have h1 := o4 j hj; omega
            · omega
            · omega)
        clear HAc HRc HBc HTc HPc HQc RGE TGE RP TP s8 s9 sa sb sc hpl' pq
        go_wp2_with fail
        have b2w : Below wc.heap.size wc ((wc.alloc (.cells #[.pointer (some ⟨g1 + 1, 0, none⟩), .pointer (some ⟨g2 + 1, 0, none⟩)] 36)).alloc (.cells #[.pointer (some ⟨r.c, 0, none⟩), .pointer (some ⟨t.c, 0, none⟩)] 37)) := ((Below.refl _ _).alloc (Nat.le_refl _) _).alloc (by simp) _
        have GA0 : Blk ((wc.alloc (.cells #[.pointer (some ⟨g1 + 1, 0, none⟩), .pointer (some ⟨g2 + 1, 0, none⟩)] 36)).alloc (.cells #[.pointer (some ⟨r.c, 0, none⟩), .pointer (some ⟨t.c, 0, none⟩)] 37)) wc.heap.size 36 [.pointer (some ⟨g1 + 1, 0, none⟩), .pointer (some ⟨g2 + 1, 0, none⟩)] := (Blk.new wc _ _).alloc _
        have GB0 : Blk ((wc.alloc (.cells #[.pointer (some ⟨g1 + 1, 0, none⟩), .pointer (some ⟨g2 + 1, 0, none⟩)] 36)).alloc (.cells #[.pointer (some ⟨r.c, 0, none⟩), .pointer (some ⟨t.c, 0, none⟩)] 37)) (wc.heap.size + 1) 37 [.pointer (some ⟨r.c, 0, none⟩), .pointer (some ⟨t.c, 0, none⟩)] := by
          have h := Blk.new (wc.alloc (.cells #[.pointer (some ⟨g1 + 1, 0, none⟩), .pointer (some ⟨g2 + 1, 0, none⟩)] 36)) 37 [.pointer (some ⟨r.c, 0, none⟩), .pointer (some ⟨t.c, 0, none⟩)]
          rw [World.size_alloc] at h
          exact h
        have QW0 := QD.out.more b2w
        have HBW := Bc.out.trans (b2w.mono Bc.out.size)
        have KS : Hid (∀ j, j = wc.heap.size ∨ j = wc.heap.size + 1 → wc.heap.size ≤ j ∧ j < ((wc.alloc (.cells #[.pointer (some ⟨g1 + 1, 0, none⟩), .pointer (some ⟨g2 + 1, 0, none⟩)] 36)).alloc (.cells #[.pointer (some ⟨r.c, 0, none⟩), .pointer (some ⟨t.c, 0, none⟩)] 37)).heap.size) := Lib.hid (fun j hj => by simp; omega)
        obtain ⟨W, hW⟩ : ∃ W, W = ((wc.alloc (.cells #[.pointer (some ⟨g1 + 1, 0, none⟩), .pointer (some ⟨g2 + 1, 0, none⟩)] 36)).alloc (.cells #[.pointer (some ⟨r.c, 0, none⟩), .pointer (some ⟨t.c, 0, none⟩)] 37)) := ⟨_, rfl⟩
        rw [← hW] at GA0 GB0 QW0 HBW KS ⊢
        obtain ⟨gB, hgB⟩ : ∃ gB, gB = wc.heap.size + 1 := ⟨_, rfl⟩
        rw [← hgB] at GB0 KS ⊢
        obtain ⟨gA, hgA⟩ : ∃ gA, gA = wc.heap.size := ⟨_, rfl⟩
        rw [← hgA] at GA0 KS QW0 ⊢
        obtain ⟨ca, hca⟩ : ∃ ca, ca = g1 + 1 := ⟨_, rfl⟩
        obtain ⟨cb, hcb⟩ : ∃ cb, cb = g2 + 1 := ⟨_, rfl⟩
        obtain ⟨cr, hcr⟩ : ∃ cr, cr = r.c := ⟨_, rfl⟩
        obtain ⟨ct, hct⟩ : ∃ ct, ct = t.c := ⟨_, rfl⟩
        rw [← hca, ← hcb] at GA0
        rw [← hcr, ← hct] at GB0
        rw [← hca, ← hcb, ← hcr, ← hct]
        have QW := Lib.hid (QW0.kept KS.out)
        have HGA := Lib.hid GA0
        have HGB := Lib.hid GB0
        have HBW' := Lib.hid HBW
        have I0 : Hid (∃ a r S b t T s, a.c = ca ∧ r.c = cr ∧ b.c = cb ∧ t.c = ct ∧ Quad W a r S b t T p q s (fun j => j = gA ∨ j = gB) w.heap.size ∧ S.few 0 ∧ T.few 0 ∧ Blk W gA 36 [.pointer (some ⟨ca, 0, none⟩), .pointer (some ⟨cb, 0, none⟩)] ∧ Blk W gB 37 [.pointer (some ⟨cr, 0, none⟩), .pointer (some ⟨ct, 0, none⟩)] ∧ Below w.heap.size w W) := Lib.hid ⟨_, _, _, _, _, _, _, hca.symm, hcr.symm, hcb.symm, hct.symm, QW.out, marked_few _ _, marked_few _ _, GA0, GB0, HBW⟩
        clear GA0 GB0 QW0 HBW KS hW hgA hgB hca hcb hcr hct QD Bc b2w QW HGA HGB HBW'
        go_loopw [91] (fun i wr => ∃ k : Nat, k ≤ os.length ∧ i = .int .i64 k ∧ ∃ a r S b t T s, a.c = ca ∧ r.c = cr ∧ b.c = cb ∧ t.c = ct ∧ Quad wr a r S b t T p q s (fun j => j = gA ∨ j = gB) w.heap.size ∧ S.few k ∧ T.few k ∧ Blk wr gA 36 [.pointer (some ⟨ca, 0, none⟩), .pointer (some ⟨cb, 0, none⟩)] ∧ Blk wr gB 37 [.pointer (some ⟨cr, 0, none⟩), .pointer (some ⟨ct, 0, none⟩)] ∧ Below w.heap.size w wr) (fun i _ => os.length - (intOf i).toNat)
        case atStart => exact ⟨0, Nat.zero_le _, rfl, I0.out⟩
        case round =>
          clear I0
          obtain ⟨i, hi, rfl, a, r, S, b, t, T, s, hC1, hR1, hC2, hR2, hQ, hF1, hF2, hGA, hGB, hB⟩ := hrel
          have HC1 := Lib.hid hC1
          have HR1 := Lib.hid hR1
          have HC2 := Lib.hid hC2
          have HR2 := Lib.hid hR2
          have QR := Lib.hid hQ
          have HF1 := Lib.hid hF1
          have HF2 := Lib.hid hF2
          have GA := Lib.hid hGA
          have GB := Lib.hid hGB
          have HB := Lib.hid hB
          clear hC1 hR1 hC2 hR2 hQ hF1 hF2 hGA hGB hB
          by_cases hlt : i < os.length
          · obtain ⟨pp, rfl, hok, hld⟩ := HO.out.at_ hlt HB.out
            have HMEM : Hid (os[i] ∈ os) := Lib.hid (List.getElem_mem hlt)
            obtain ⟨o, ho⟩ : ∃ o, o = os[i] := ⟨_, rfl⟩
            rw [← ho] at hok hld HMEM
            have hone := OpV.one hok
            have HOK := Lib.hid hok
            have HL := Lib.hid hld
            have z0 := zeroOp
            have hand := and_1 o.c
            clear hok ho hld
            rcases (by omega : o.c % 2 = 0 ∨ o.c % 2 = 1) with hpar | hpar
            · skip
              rw [hpar] at hand
              clear hpar
              have QC := Lib.hid QR.out
              go_wp2_with (first | (with_reducible refine wpl_oload (.tmp 93) rfl rfl rfl HL.out ?_) | ((with_reducible refine wpl_ostore (.tmp 17) (.tmp 94) rfl rfl (Blk.new _ _ zOp) rfl rfl hone rfl ?_); intro w5 R5 g5 e5; have c15 : w5.cell? ⟨wr.heap.size, 1, none⟩ = some (.int .i64 o.c) := R5.cell 1))
              have b5 : Below wr.heap.size wr w5 := ((Below.refl _ _).alloc (Nat.le_refl _) _).grown g5 (by simp) (fun k e => by cases e; exact Nat.le_refl _)
              have Q5 := Lib.hid (QC.out.after b5)
              have GA5 := Lib.hid (GA.out.after b5)
              have GB5 := Lib.hid (GB.out.after b5)
              have HB5 := Lib.hid (HB.out.trans (b5.mono HB.out.size))
              have gvn : Hid (¬ Both a r p q wr.heap.size) := Lib.hid (QC.out.newn)
              obtain ⟨gv, hgv⟩ : ∃ gv, gv = wr.heap.size := ⟨_, rfl⟩
              rw [← hgv] at R5 gvn ⊢
              have xA : w5.cell? ⟨gA, 0, none⟩ = some (.pointer (some ⟨ca, 0, none⟩)) := GA5.out.cell 0
              have xB : w5.cell? ⟨gB, 0, none⟩ = some (.pointer (some ⟨cr, 0, none⟩)) := GB5.out.cell 0
              have HR5 := Lib.hid R5
              clear g5 e5 b5 hgv R5 c15 QC GA GB HB QR HL hone
              go_quiet (fail)
              have b9 : Below w5.heap.size w5 (w5.drewN nq) := ⟨rfl, rfl, rfl, Nat.le_refl _, fun _ _ => rfl⟩
              have Q6 := Lib.hid (Q5.out.after b9)
              have GA6 := Lib.hid (GA5.out.after b9)
              have GB6 := Lib.hid (GB5.out.after b9)
              have HB6 := Lib.hid (HB5.out.trans (b9.mono HB5.out.size))
              have R6 := HR5.out.after b9
              obtain ⟨w6, hw6⟩ : ∃ w6, w6 = w5.drewN nq := ⟨_, rfl⟩
              rw [← hw6] at Q6 GA6 GB6 HB6 R6 ⊢
              clear hw6 b9 Q5 GA5 GB5 HB5 HR5 xA xB
              go_wp2_with fail
              have bd := (Below.refl w6.heap.size w6).drew
              have Q7 := Lib.hid (Q6.out.after bd)
              have GA7 := Lib.hid (GA6.out.after bd)
              have GB7 := Lib.hid (GB6.out.after bd)
              have HB7 := Lib.hid (HB6.out.trans (bd.mono HB6.out.size))
              have R7 := R6.after bd
              clear bd Q6 GA6 GB6 HB6 R6
              have kc := call_any a r S s p q o w.heap.size w6.drew Q7.out.d1 Q7.out.pw (few_le (by omega) HF1.out) (HOK.out.keep HB7.out) HB7.out.size Q7.out.from_ (HWL.out o HMEM.out)
              rw [HC1.out, HR1.out] at kc
              refine wp_region_held_drew (S := fun w' => Blk w' gv 39 o.row) (by kernel_rfl) R7 (fun _ => ?_)
              refine wpAnyH_take (i := 0) (v := .pointer (some ⟨ca, 0, none⟩)) rfl (by kernel_rfl) (by kernel_rfl) (by kernel_rfl) (fun _ _ _ h => h) (Or.inl ⟨by kernel_rfl, fun w _ => by go_simp⟩) R7 ?_
              refine wpAnyH_take (i := 1) (v := .pointer (some ⟨cr, 0, none⟩)) rfl (by kernel_rfl) (by kernel_rfl) (by kernel_rfl) (fun _ _ _ h => h) (Or.inl ⟨by kernel_rfl, fun w _ => by go_simp⟩) R7 ?_
              refine wpAnyH_take (i := 2) (v := .agg o.row.toArray) rfl (by kernel_rfl) (by kernel_rfl) (by kernel_rfl) (fun _ _ _ h => h) (yields_seg op_agg op_eight (.tmp 17) (by kernel_rfl) (by kernel_rfl) (by kernel_rfl) (g := gv) (i := 0) (fun _ h => h) rfl rfl) R7 ?_
              refine wpAnyH_ready (rs := [3]) (by kernel_rfl) (by simp) (AllReadyH.cons rfl (fun K hK => ?_) AllReadyH.nil)
              go_simp
              ((with_reducible refine kc.mono ?_); rintro e w8 ⟨rfl, a', r', S', s', g8⟩)
              have R8 := R7.chg g8.chg gvn.out
              have Q8 := Lib.hid (Q7.out.went HB7.out.size g8)
              have GA8 := Lib.hid (GA7.out.chg g8.chg (Q7.out.keeps (by omega)))
              have GB8 := Lib.hid (GB7.out.chg g8.chg (Q7.out.keeps (by omega)))
              have HB8 := Lib.hid (HB7.out.trans (g8.chg.below Q7.out.from_ HB7.out.size))
              have F8 : Hid (S'.few (i + 1)) := Lib.hid (g8.few i HF1.out)
              have ac8 : a'.c = ca := g8.ac.trans HC1.out
              have rc8 : r'.c = cr := g8.rcc.trans HR1.out
              refine hK.out _ _ R8 (fun _ => ?_)
              clear hK K kc g8 Q7 GA7 GB7 HB7 R7
              have pa8 := Q8.out.d1.p_
              have qa8 := Q8.out.d1.q_
              have y0 := Q8.out.d1.pc.cell.1
              rw [ac8, pa8] at y0
              have yoff : w8.cell? ⟨q, 0, none⟩ = some (.bool s'.off) := Blk.cell Q8.out.pw.rp 0
              have ycnt := Q8.out.d1.rc.rcell.2.2.2.2.2
              have ynx := Q8.out.d1.rc.rcell.2.1
              rw [rc8] at ycnt ynx
              have koff := off_any p s' w8 Q8.out.pw.pp
              have klive := live_any a' S' w8 Q8.out.d1.pc
              have krlive := refLiveS_any r' S' w8 Q8.out.d1.rc
              have kcnt := chipcount_any a' S' w8 Q8.out.d1.pc
              have kblk := blocks_any a' S' w8 Q8.out.d1.pc
              rw [ac8] at klive kcnt kblk
              rw [rc8] at krlive
              have sf1 : (s'.off != s'.off) = false := by cases s'.off <;> rfl
              have sf2 : (S'.live != S'.live) = false := by cases S'.live <;> rfl
              refine wpAnyH_weaken (S' := fun w' => w' = w8) (fun w' e => by rw [e]; exact R8) _ _ _ _ ?_
              refine wpAnyH_take (i := 4) (v := .bool false) rfl (by kernel_rfl) (by kernel_rfl) (by kernel_rfl) (fun _ _ _ h => h) (Or.inl ⟨by kernel_rfl, fun w _ => by go_simp⟩) rfl ?_
              refine wpAnyH_take (i := 5) (v := .bool false) rfl (by kernel_rfl) (by kernel_rfl) (by kernel_rfl) (fun _ _ _ h => h) (Or.inl ⟨by kernel_rfl, fun w _ => by go_simp⟩) rfl ?_
              refine wpAnyH_take (i := 6) (v := .pointer (some ⟨ca, 0, none⟩)) rfl (by kernel_rfl) (by kernel_rfl) (by kernel_rfl) (fun _ _ _ h => h) (Or.inl ⟨by kernel_rfl, fun w _ => by go_simp⟩) rfl ?_
              refine wpAnyH_take (i := 7) (v := .pointer (some ⟨ca, 0, none⟩)) rfl (by kernel_rfl) (by kernel_rfl) (by kernel_rfl) (fun _ _ _ h => h) (Or.inl ⟨by kernel_rfl, fun w _ => by go_simp⟩) rfl ?_
              refine wpAnyH_take (i := 8) (v := .pointer (some ⟨ca, 0, none⟩)) rfl (by kernel_rfl) (by kernel_rfl) (by kernel_rfl) (fun _ _ _ h => h) (Or.inl ⟨by kernel_rfl, fun w _ => by go_simp⟩) rfl ?_
              refine wpAnyH_take (i := 9) (v := .pointer (some ⟨p, 0, none⟩)) rfl (by kernel_rfl) (by kernel_rfl) (by kernel_rfl) (fun _ _ _ h => h) (yields_one (p := ⟨ca, 0, none⟩) ppow_flat (.tmp 112) (by kernel_rfl) (by kernel_rfl) (by kernel_rfl) (fun _ h => by rw [h]; exact y0)) rfl ?_
              refine wpAnyH_take (i := 11) (v := .pointer (some ⟨q, 0, none⟩)) rfl (by kernel_rfl) (by kernel_rfl) (by kernel_rfl) (fun _ _ _ h => h) (Or.inl ⟨by kernel_rfl, fun w _ => by go_simp⟩) rfl ?_
              refine wpAnyH_take (i := 12) (v := .pointer (some ⟨q, 0, none⟩)) rfl (by kernel_rfl) (by kernel_rfl) (by kernel_rfl) (fun _ _ _ h => h) (Or.inl ⟨by kernel_rfl, fun w _ => by go_simp⟩) rfl ?_
              refine wpAnyH_take (i := 13) (v := .pointer (some ⟨q, 0, none⟩)) rfl (by kernel_rfl) (by kernel_rfl) (by kernel_rfl) (fun _ _ _ h => h) (Or.inl ⟨by kernel_rfl, fun w _ => by go_simp⟩) rfl ?_
              refine wpAnyH_take (i := 14) (v := .bool s'.off) rfl (by kernel_rfl) (by kernel_rfl) (by kernel_rfl) (fun _ _ _ h => h) (yields_one (p := ⟨q, 0, none⟩) bool_flat (.tmp 117) (by kernel_rfl) (by kernel_rfl) (by kernel_rfl) (fun _ h => by rw [h]; exact yoff)) rfl ?_
              refine wpAnyH_ready (rs := [10]) (by kernel_rfl) (by simp) (AllReadyH.cons rfl (fun K hK => ?_) AllReadyH.nil)
              go_simp
              ((with_reducible refine koff.mono ?_); rintro e w' ⟨rfl, rfl⟩)
              refine hK.out _ _ rfl (fun _ => ?_)
              clear hK K
              refine wpAnyH_take (i := 15) (v := .bool false) rfl (by kernel_rfl) (by kernel_rfl) (by kernel_rfl) (fun _ _ _ h => h) (Or.inl ⟨by kernel_rfl, fun w _ => by go_simp⟩) rfl ?_
              refine wpAnyH_take (i := 16) (v := .bool false) rfl (by kernel_rfl) (by kernel_rfl) (by kernel_rfl) (fun _ _ _ h => h) (Or.inl ⟨by kernel_rfl, fun w _ => by go_simp⟩) rfl ?_
              refine wpAnyH_take (i := 17) (v := .bool false) rfl (by kernel_rfl) (by kernel_rfl) (by kernel_rfl) (fun _ _ _ h => h) (Or.inl ⟨by kernel_rfl, fun w _ => by go_simp⟩) rfl ?_
              refine wpAnyH_take (i := 18) (v := .pointer (some ⟨p, 0, none⟩)) rfl (by kernel_rfl) (by kernel_rfl) (by kernel_rfl) (fun _ _ _ h => h) (Or.inl ⟨by kernel_rfl, fun w _ => by go_simp⟩) rfl ?_
              refine wpAnyH_take (i := 20) (v := .pointer (some ⟨q, 0, none⟩)) rfl (by kernel_rfl) (by kernel_rfl) (by kernel_rfl) (fun _ _ _ h => h) (Or.inl ⟨by kernel_rfl, fun w _ => by go_simp⟩) rfl ?_
              refine wpAnyH_take (i := 21) (v := .pointer (some ⟨q, 0, none⟩)) rfl (by kernel_rfl) (by kernel_rfl) (by kernel_rfl) (fun _ _ _ h => h) (Or.inl ⟨by kernel_rfl, fun w _ => by go_simp⟩) rfl ?_
              refine wpAnyH_take (i := 22) (v := .pointer (some ⟨q, 0, none⟩)) rfl (by kernel_rfl) (by kernel_rfl) (by kernel_rfl) (fun _ _ _ h => h) (Or.inl ⟨by kernel_rfl, fun w _ => by go_simp⟩) rfl ?_
              refine wpAnyH_take (i := 23) (v := .bool s'.off) rfl (by kernel_rfl) (by kernel_rfl) (by kernel_rfl) (fun _ _ _ h => h) (yields_one (p := ⟨q, 0, none⟩) bool_flat (.tmp 126) (by kernel_rfl) (by kernel_rfl) (by kernel_rfl) (fun _ h => by rw [h]; exact yoff)) rfl ?_
              refine wpAnyH_ready (rs := [19]) (by kernel_rfl) (by simp) (AllReadyH.cons rfl (fun K hK => ?_) AllReadyH.nil)
              go_simp
              ((with_reducible refine koff.mono ?_); rintro e w' ⟨rfl, rfl⟩)
              refine hK.out _ _ rfl (fun _ => ?_)
              clear hK K
              refine wpAnyH_take (i := 24) (v := .bool false) rfl (by kernel_rfl) (by kernel_rfl) (by kernel_rfl) (fun _ _ _ h => h) (Or.inl ⟨by kernel_rfl, fun w _ => by go_simp⟩) rfl ?_
              refine wpAnyH_take (i := 25) (v := .bool false) rfl (by kernel_rfl) (by kernel_rfl) (by kernel_rfl) (fun _ _ _ h => h) (Or.inl ⟨by kernel_rfl, fun w _ => by go_simp⟩) rfl ?_
              refine wpAnyH_take (i := 26) (v := .bool false) rfl (by kernel_rfl) (by kernel_rfl) (by kernel_rfl) (fun _ _ _ h => h) (Or.inl ⟨by kernel_rfl, fun w _ => by go_simp⟩) rfl ?_
              refine wpAnyH_take (i := 27) (v := .pointer (some ⟨ca, 0, none⟩)) rfl (by kernel_rfl) (by kernel_rfl) (by kernel_rfl) (fun _ _ _ h => h) (Or.inl ⟨by kernel_rfl, fun w _ => by go_simp⟩) rfl ?_
              refine wpAnyH_take (i := 29) (v := .pointer (some ⟨cr, 0, none⟩)) rfl (by kernel_rfl) (by kernel_rfl) (by kernel_rfl) (fun _ _ _ h => h) (Or.inl ⟨by kernel_rfl, fun w _ => by go_simp⟩) rfl ?_
              refine wpAnyH_ready (rs := [28]) (by kernel_rfl) (by simp) (AllReadyH.cons rfl (fun K hK => ?_) AllReadyH.nil)
              go_simp
              ((with_reducible refine klive.mono ?_); rintro e w' ⟨rfl, rfl⟩)
              refine hK.out _ _ rfl (fun _ => ?_)
              clear hK K
              refine wpAnyH_ready (rs := [30]) (by kernel_rfl) (by simp) (AllReadyH.cons rfl (fun K hK => ?_) AllReadyH.nil)
              go_simp
              ((with_reducible refine krlive.mono ?_); rintro e w' ⟨rfl, rfl⟩)
              refine hK.out _ _ rfl (fun _ => ?_)
              clear hK K
              refine wpAnyH_take (i := 31) (v := .bool false) rfl (by kernel_rfl) (by kernel_rfl) (by kernel_rfl) (fun _ _ _ h => h) (Or.inl ⟨by kernel_rfl, fun w _ => by go_simp⟩) rfl ?_
              refine wpAnyH_take (i := 32) (v := .bool false) rfl (by kernel_rfl) (by kernel_rfl) (by kernel_rfl) (fun _ _ _ h => h) (Or.inl ⟨by kernel_rfl, fun w _ => by go_simp⟩) rfl ?_
              refine wpAnyH_take (i := 33) (v := .bool false) rfl (by kernel_rfl) (by kernel_rfl) (by kernel_rfl) (fun _ _ _ h => h) (Or.inl ⟨by kernel_rfl, fun w _ => by go_simp⟩) rfl ?_
              refine wpAnyH_take (i := 34) (v := .pointer (some ⟨ca, 0, none⟩)) rfl (by kernel_rfl) (by kernel_rfl) (by kernel_rfl) (fun _ _ _ h => h) (Or.inl ⟨by kernel_rfl, fun w _ => by go_simp⟩) rfl ?_
              refine wpAnyH_take (i := 36) (v := .pointer (some ⟨cr, 0, none⟩)) rfl (by kernel_rfl) (by kernel_rfl) (by kernel_rfl) (fun _ _ _ h => h) (Or.inl ⟨by kernel_rfl, fun w _ => by go_simp⟩) rfl ?_
              refine wpAnyH_take (i := 37) (v := .pointer (some ⟨cr, 0, none⟩)) rfl (by kernel_rfl) (by kernel_rfl) (by kernel_rfl) (fun _ _ _ h => h) (Or.inl ⟨by kernel_rfl, fun w _ => by go_simp⟩) rfl ?_
              refine wpAnyH_take (i := 38) (v := .pointer (some ⟨cr, 10, none⟩)) rfl (by kernel_rfl) (by kernel_rfl) (by kernel_rfl) (fun _ _ _ h => h) (Or.inl ⟨by kernel_rfl, fun w _ => by go_simp⟩) rfl ?_
              refine wpAnyH_take (i := 39) (v := .int .i64 (S'.cnt : Int)) rfl (by kernel_rfl) (by kernel_rfl) (by kernel_rfl) (fun _ _ _ h => h) (yields_one (p := ⟨cr, 10, none⟩) int_flat (.tmp 142) (by kernel_rfl) (by kernel_rfl) (by kernel_rfl) (fun _ h => by rw [h]; exact ycnt)) rfl ?_
              refine wpAnyH_ready (rs := [35]) (by kernel_rfl) (by simp) (AllReadyH.cons rfl (fun K hK => ?_) AllReadyH.nil)
              go_simp
              ((with_reducible refine kcnt.mono ?_); rintro e w' ⟨rfl, rfl⟩)
              refine hK.out _ _ rfl (fun _ => ?_)
              clear hK K
              refine wpAnyH_take (i := 40) (v := .bool false) rfl (by kernel_rfl) (by kernel_rfl) (by kernel_rfl) (fun _ _ _ h => h) (Or.inl ⟨by kernel_rfl, fun w _ => by go_simp⟩) rfl ?_
              refine wpAnyH_take (i := 41) (v := .bool false) rfl (by kernel_rfl) (by kernel_rfl) (by kernel_rfl) (fun _ _ _ h => h) (Or.inl ⟨by kernel_rfl, fun w _ => by go_simp⟩) rfl ?_
              refine wpAnyH_take (i := 42) (v := .bool false) rfl (by kernel_rfl) (by kernel_rfl) (by kernel_rfl) (fun _ _ _ h => h) (Or.inl ⟨by kernel_rfl, fun w _ => by go_simp⟩) rfl ?_
              refine wpAnyH_take (i := 43) (v := .pointer (some ⟨ca, 0, none⟩)) rfl (by kernel_rfl) (by kernel_rfl) (by kernel_rfl) (fun _ _ _ h => h) (Or.inl ⟨by kernel_rfl, fun w _ => by go_simp⟩) rfl ?_
              refine wpAnyH_take (i := 45) (v := .pointer (some ⟨cr, 0, none⟩)) rfl (by kernel_rfl) (by kernel_rfl) (by kernel_rfl) (fun _ _ _ h => h) (Or.inl ⟨by kernel_rfl, fun w _ => by go_simp⟩) rfl ?_
              refine wpAnyH_take (i := 46) (v := .pointer (some ⟨cr, 0, none⟩)) rfl (by kernel_rfl) (by kernel_rfl) (by kernel_rfl) (fun _ _ _ h => h) (Or.inl ⟨by kernel_rfl, fun w _ => by go_simp⟩) rfl ?_
              refine wpAnyH_take (i := 47) (v := .pointer (some ⟨cr, 2, none⟩)) rfl (by kernel_rfl) (by kernel_rfl) (by kernel_rfl) (fun _ _ _ h => h) (Or.inl ⟨by kernel_rfl, fun w _ => by go_simp⟩) rfl ?_
              refine wpAnyH_take (i := 48) (v := .slice (some ⟨r'.n, 0, none⟩) S'.bs.length S'.bs.length) rfl (by kernel_rfl) (by kernel_rfl) (by kernel_rfl) (fun _ _ _ h => h) (yields_one (p := ⟨cr, 2, none⟩) slice_flat (.tmp 151) (by kernel_rfl) (by kernel_rfl) (by kernel_rfl) (fun _ h => by rw [h]; exact ynx)) rfl ?_
              refine wpAnyH_take (i := 49) (v := .int .i64 (S'.bs.length : Int)) rfl (by kernel_rfl) (by kernel_rfl) (by kernel_rfl) (fun _ _ _ h => h) (Or.inl ⟨by kernel_rfl, fun w _ => by go_simp⟩) rfl ?_
              refine wpAnyH_ready (rs := [44]) (by kernel_rfl) (by simp) (AllReadyH.cons rfl (fun K hK => ?_) AllReadyH.nil)
              go_simp
              ((with_reducible refine kblk.mono ?_); rintro e w' ⟨rfl, rfl⟩)
              refine hK.out _ _ rfl (fun _ => ?_)
              clear hK K
              refine wpAnyH_take (i := 50) (v := .bool false) rfl (by kernel_rfl) (by kernel_rfl) (by kernel_rfl) (fun _ _ _ h => h) (Or.inl ⟨by kernel_rfl, fun w _ => by go_simp⟩) rfl ?_
              refine wpAnyH_ready (rs := [51]) (by kernel_rfl) (by simp) (AllReadyH.cons rfl (fun K hK => ?_) AllReadyH.nil)
              go_simp
              refine hK.out _ _ rfl (fun _ => ?_)
              clear hK K
              refine wpAnyH_done (by kernel_rfl) ?_ _
              clear y0 yoff ycnt ynx koff klive krlive kcnt kblk sf1 sf2
              have cb8 : w8.cell? ⟨gv, 2, none⟩ = some (.int .i64 o.b) := R8.cell 2
              have cp8 : w8.cell? ⟨gv, 3, none⟩ = some (.int .i64 o.p) := R8.cell 3
              have kr := read_any a' S' s' o.b o.p w8 Q8.out.d1.pc (Q8.out.d1.ppc Q8.out.pw.pp)
              rw [ac8] at kr
              have hLen := readPage_length Q8.out.d1.rc.ok s'.off S'.live o.b o.p
              obtain ⟨m, hm⟩ : ∃ m, m = NM.may s'.off S'.live S'.bs.length o.b o.p := ⟨_, rfl⟩
              rw [← hm] at kr hLen
              obtain ⟨L, hL⟩ : ∃ L, L = S'.readPage m o.b o.p := ⟨_, rfl⟩
              rw [← hL] at kr hLen
              have HRD : Hid (∀ w9, Below w8.heap.size w8 w9 → Calls Try.prog 18 #[.pointer (some ⟨cr, 0, none⟩), .int .i64 o.b, .int .i64 o.p] w9 fun e w' => e = .returned (.tuple #[.agg (cl L), .int .i64 m]) ∧ Below w9.heap.size w9 w') := Lib.hid (fun w9 hb => by
                have k := refRead_any r' S' s' o.b o.p w9 (Q8.out.d1.rc.after hb) (RPow.after (Q8.out.d1.rpc Q8.out.pw.rp) hb)
                rw [rc8, ← hm, ← hL] at k
                exact k)
              have hEq : ∀ w, (Op.equalIn 10000 55 (.agg (cl L)) (.agg (cl L))).run Try.prog w = .ok true w := fun w => by
                have := equalIn_pcl hLen hLen w
                rwa [decide_eq_true rfl] at this
              have z := zeroPage
              have hmm : (m != m) = false := by simp
              clear hm hL pa8 qa8
              go_wp2_with fail
              ((with_reducible refine kr.mono ?_); rintro e w9 ⟨rfl, b9⟩)
              have cb9 := (R8.after b9).cell 2
              have HB9 := Lib.hid b9
              have HR9 := Lib.hid (R8.after b9)
              clear kr b9 cb8 cp8 cb9 R8
              go_wp2_with ((with_reducible refine wpl_pstore (.tmp 21) (.tmp 163) rfl rfl (PArr.new w9 pzeros_length) rfl hLen rfl ?_); intro wa Xa ga ea; have ba : Below w9.heap.size w9 wa := ((Below.refl _ _).alloc (Nat.le_refl _) _).grown ga (by simp) (fun k e => by cases e; exact Nat.le_refl _); have cba : wa.cell? ⟨gv, 2, none⟩ = some (.int .i64 o.b) := (HR9.out.after ba).cell 2; have cpa : wa.cell? ⟨gv, 3, none⟩ = some (.int .i64 o.p) := (HR9.out.after ba).cell 3)
              have HBa := Lib.hid (HB9.out.trans (ba.mono HB9.out.size))
              have krr := HRD.out wa HBa.out
              ((with_reducible refine krr.mono ?_); rintro e wb ⟨rfl, bb⟩)
              have HBb := Lib.hid (HBa.out.trans (bb.mono HBa.out.size))
              have Xb := Xa.after bb
              have xlt := Xb.lt
              clear krr bb Xa ga ea ba cba cpa HB9 HR9 HBa HRD
              go_wp2_with (first | ((with_reducible refine wpl_pstore (.tmp 23) (.tmp 172) rfl rfl (PArr.new wb pzeros_length) rfl hLen rfl ?_); intro wc2 Xc gc ec; have Xd := (Xb.alloc (.cells (cl pzeros) 55)).grown gc (Nat.ne_of_lt xlt)) | (with_reducible refine wpl_pload (.tmp 21) rfl rfl Xd rfl ?_) | (with_reducible refine wpl_pload (.tmp 23) rfl rfl Xc rfl ?_))
              have bc : Below wb.heap.size wb wc2 := ((Below.refl _ _).alloc (Nat.le_refl _) _).grown gc (by simp) (fun k e => by cases e; exact Nat.le_refl _)
              have bw := HBb.out.trans (bc.mono HBb.out.size)
              have QF := Q8.out.after bw
              exact ⟨⟨i + 1, by omega, by go_num, a', r', S', b, t, T, s', ac8, rc8, HC2.out, HR2.out, QF, F8.out, few_more i HF2.out, GA8.out.after bw, GB8.out.after bw, HB8.out.trans (bw.mono HB8.out.size)⟩, by simp [intOf]; omega⟩
            · skip
              rw [hpar] at hand
              clear hpar
              have QR := Lib.hid QR.out.swap
              have QC := Lib.hid QR.out
              go_wp2_with (first | (with_reducible refine wpl_oload (.tmp 93) rfl rfl rfl HL.out ?_) | ((with_reducible refine wpl_ostore (.tmp 17) (.tmp 94) rfl rfl (Blk.new _ _ zOp) rfl rfl hone rfl ?_); intro w5 R5 g5 e5; have c15 : w5.cell? ⟨wr.heap.size, 1, none⟩ = some (.int .i64 o.c) := R5.cell 1))
              have b5 : Below wr.heap.size wr w5 := ((Below.refl _ _).alloc (Nat.le_refl _) _).grown g5 (by simp) (fun k e => by cases e; exact Nat.le_refl _)
              have Q5 := Lib.hid (QC.out.after b5)
              have GA5 := Lib.hid (GA.out.after b5)
              have GB5 := Lib.hid (GB.out.after b5)
              have HB5 := Lib.hid (HB.out.trans (b5.mono HB.out.size))
              have gvn : Hid (¬ Both b t p q wr.heap.size) := Lib.hid (QC.out.newn)
              obtain ⟨gv, hgv⟩ : ∃ gv, gv = wr.heap.size := ⟨_, rfl⟩
              rw [← hgv] at R5 gvn ⊢
              have xA : w5.cell? ⟨gA, 1, none⟩ = some (.pointer (some ⟨cb, 0, none⟩)) := GA5.out.cell 1
              have xB : w5.cell? ⟨gB, 1, none⟩ = some (.pointer (some ⟨ct, 0, none⟩)) := GB5.out.cell 1
              have HR5 := Lib.hid R5
              clear g5 e5 b5 hgv R5 c15 QC GA GB HB QR HL hone
              go_quiet (fail)
              have b9 : Below w5.heap.size w5 (w5.drewN nq) := ⟨rfl, rfl, rfl, Nat.le_refl _, fun _ _ => rfl⟩
              have Q6 := Lib.hid (Q5.out.after b9)
              have GA6 := Lib.hid (GA5.out.after b9)
              have GB6 := Lib.hid (GB5.out.after b9)
              have HB6 := Lib.hid (HB5.out.trans (b9.mono HB5.out.size))
              have R6 := HR5.out.after b9
              obtain ⟨w6, hw6⟩ : ∃ w6, w6 = w5.drewN nq := ⟨_, rfl⟩
              rw [← hw6] at Q6 GA6 GB6 HB6 R6 ⊢
              clear hw6 b9 Q5 GA5 GB5 HB5 HR5 xA xB
              go_wp2_with fail
              have bd := (Below.refl w6.heap.size w6).drew
              have Q7 := Lib.hid (Q6.out.after bd)
              have GA7 := Lib.hid (GA6.out.after bd)
              have GB7 := Lib.hid (GB6.out.after bd)
              have HB7 := Lib.hid (HB6.out.trans (bd.mono HB6.out.size))
              have R7 := R6.after bd
              clear bd Q6 GA6 GB6 HB6 R6
              have kc := call_any b t T s p q o w.heap.size w6.drew Q7.out.d1 Q7.out.pw (few_le (by omega) HF2.out) (HOK.out.keep HB7.out) HB7.out.size Q7.out.from_ (HWL.out o HMEM.out)
              rw [HC2.out, HR2.out] at kc
              refine wp_region_held_drew (S := fun w' => Blk w' gv 39 o.row) (by kernel_rfl) R7 (fun _ => ?_)
              refine wpAnyH_take (i := 0) (v := .pointer (some ⟨cb, 0, none⟩)) rfl (by kernel_rfl) (by kernel_rfl) (by kernel_rfl) (fun _ _ _ h => h) (Or.inl ⟨by kernel_rfl, fun w _ => by go_simp⟩) R7 ?_
              refine wpAnyH_take (i := 1) (v := .pointer (some ⟨ct, 0, none⟩)) rfl (by kernel_rfl) (by kernel_rfl) (by kernel_rfl) (fun _ _ _ h => h) (Or.inl ⟨by kernel_rfl, fun w _ => by go_simp⟩) R7 ?_
              refine wpAnyH_take (i := 2) (v := .agg o.row.toArray) rfl (by kernel_rfl) (by kernel_rfl) (by kernel_rfl) (fun _ _ _ h => h) (yields_seg op_agg op_eight (.tmp 17) (by kernel_rfl) (by kernel_rfl) (by kernel_rfl) (g := gv) (i := 0) (fun _ h => h) rfl rfl) R7 ?_
              refine wpAnyH_ready (rs := [3]) (by kernel_rfl) (by simp) (AllReadyH.cons rfl (fun K hK => ?_) AllReadyH.nil)
              go_simp
              ((with_reducible refine kc.mono ?_); rintro e w8 ⟨rfl, a', r', S', s', g8⟩)
              have R8 := R7.chg g8.chg gvn.out
              have Q8 := Lib.hid (Q7.out.went HB7.out.size g8)
              have GA8 := Lib.hid (GA7.out.chg g8.chg (Q7.out.keeps (by omega)))
              have GB8 := Lib.hid (GB7.out.chg g8.chg (Q7.out.keeps (by omega)))
              have HB8 := Lib.hid (HB7.out.trans (g8.chg.below Q7.out.from_ HB7.out.size))
              have F8 : Hid (S'.few (i + 1)) := Lib.hid (g8.few i HF2.out)
              have ac8 : a'.c = cb := g8.ac.trans HC2.out
              have rc8 : r'.c = ct := g8.rcc.trans HR2.out
              refine hK.out _ _ R8 (fun _ => ?_)
              clear hK K kc g8 Q7 GA7 GB7 HB7 R7
              have pa8 := Q8.out.d1.p_
              have qa8 := Q8.out.d1.q_
              have y0 := Q8.out.d1.pc.cell.1
              rw [ac8, pa8] at y0
              have yoff : w8.cell? ⟨q, 0, none⟩ = some (.bool s'.off) := Blk.cell Q8.out.pw.rp 0
              have ycnt := Q8.out.d1.rc.rcell.2.2.2.2.2
              have ynx := Q8.out.d1.rc.rcell.2.1
              rw [rc8] at ycnt ynx
              have koff := off_any p s' w8 Q8.out.pw.pp
              have klive := live_any a' S' w8 Q8.out.d1.pc
              have krlive := refLiveS_any r' S' w8 Q8.out.d1.rc
              have kcnt := chipcount_any a' S' w8 Q8.out.d1.pc
              have kblk := blocks_any a' S' w8 Q8.out.d1.pc
              rw [ac8] at klive kcnt kblk
              rw [rc8] at krlive
              have sf1 : (s'.off != s'.off) = false := by cases s'.off <;> rfl
              have sf2 : (S'.live != S'.live) = false := by cases S'.live <;> rfl
              refine wpAnyH_weaken (S' := fun w' => w' = w8) (fun w' e => by rw [e]; exact R8) _ _ _ _ ?_
              refine wpAnyH_take (i := 4) (v := .bool false) rfl (by kernel_rfl) (by kernel_rfl) (by kernel_rfl) (fun _ _ _ h => h) (Or.inl ⟨by kernel_rfl, fun w _ => by go_simp⟩) rfl ?_
              refine wpAnyH_take (i := 5) (v := .bool false) rfl (by kernel_rfl) (by kernel_rfl) (by kernel_rfl) (fun _ _ _ h => h) (Or.inl ⟨by kernel_rfl, fun w _ => by go_simp⟩) rfl ?_
              refine wpAnyH_take (i := 6) (v := .pointer (some ⟨cb, 0, none⟩)) rfl (by kernel_rfl) (by kernel_rfl) (by kernel_rfl) (fun _ _ _ h => h) (Or.inl ⟨by kernel_rfl, fun w _ => by go_simp⟩) rfl ?_
              refine wpAnyH_take (i := 7) (v := .pointer (some ⟨cb, 0, none⟩)) rfl (by kernel_rfl) (by kernel_rfl) (by kernel_rfl) (fun _ _ _ h => h) (Or.inl ⟨by kernel_rfl, fun w _ => by go_simp⟩) rfl ?_
              refine wpAnyH_take (i := 8) (v := .pointer (some ⟨cb, 0, none⟩)) rfl (by kernel_rfl) (by kernel_rfl) (by kernel_rfl) (fun _ _ _ h => h) (Or.inl ⟨by kernel_rfl, fun w _ => by go_simp⟩) rfl ?_
              refine wpAnyH_take (i := 9) (v := .pointer (some ⟨p, 0, none⟩)) rfl (by kernel_rfl) (by kernel_rfl) (by kernel_rfl) (fun _ _ _ h => h) (yields_one (p := ⟨cb, 0, none⟩) ppow_flat (.tmp 112) (by kernel_rfl) (by kernel_rfl) (by kernel_rfl) (fun _ h => by rw [h]; exact y0)) rfl ?_
              refine wpAnyH_take (i := 11) (v := .pointer (some ⟨q, 0, none⟩)) rfl (by kernel_rfl) (by kernel_rfl) (by kernel_rfl) (fun _ _ _ h => h) (Or.inl ⟨by kernel_rfl, fun w _ => by go_simp⟩) rfl ?_
              refine wpAnyH_take (i := 12) (v := .pointer (some ⟨q, 0, none⟩)) rfl (by kernel_rfl) (by kernel_rfl) (by kernel_rfl) (fun _ _ _ h => h) (Or.inl ⟨by kernel_rfl, fun w _ => by go_simp⟩) rfl ?_
              refine wpAnyH_take (i := 13) (v := .pointer (some ⟨q, 0, none⟩)) rfl (by kernel_rfl) (by kernel_rfl) (by kernel_rfl) (fun _ _ _ h => h) (Or.inl ⟨by kernel_rfl, fun w _ => by go_simp⟩) rfl ?_
              refine wpAnyH_take (i := 14) (v := .bool s'.off) rfl (by kernel_rfl) (by kernel_rfl) (by kernel_rfl) (fun _ _ _ h => h) (yields_one (p := ⟨q, 0, none⟩) bool_flat (.tmp 117) (by kernel_rfl) (by kernel_rfl) (by kernel_rfl) (fun _ h => by rw [h]; exact yoff)) rfl ?_
              refine wpAnyH_ready (rs := [10]) (by kernel_rfl) (by simp) (AllReadyH.cons rfl (fun K hK => ?_) AllReadyH.nil)
              go_simp
              ((with_reducible refine koff.mono ?_); rintro e w' ⟨rfl, rfl⟩)
              refine hK.out _ _ rfl (fun _ => ?_)
              clear hK K
              refine wpAnyH_take (i := 15) (v := .bool false) rfl (by kernel_rfl) (by kernel_rfl) (by kernel_rfl) (fun _ _ _ h => h) (Or.inl ⟨by kernel_rfl, fun w _ => by go_simp⟩) rfl ?_
              refine wpAnyH_take (i := 16) (v := .bool false) rfl (by kernel_rfl) (by kernel_rfl) (by kernel_rfl) (fun _ _ _ h => h) (Or.inl ⟨by kernel_rfl, fun w _ => by go_simp⟩) rfl ?_
              refine wpAnyH_take (i := 17) (v := .bool false) rfl (by kernel_rfl) (by kernel_rfl) (by kernel_rfl) (fun _ _ _ h => h) (Or.inl ⟨by kernel_rfl, fun w _ => by go_simp⟩) rfl ?_
              refine wpAnyH_take (i := 18) (v := .pointer (some ⟨p, 0, none⟩)) rfl (by kernel_rfl) (by kernel_rfl) (by kernel_rfl) (fun _ _ _ h => h) (Or.inl ⟨by kernel_rfl, fun w _ => by go_simp⟩) rfl ?_
              refine wpAnyH_take (i := 20) (v := .pointer (some ⟨q, 0, none⟩)) rfl (by kernel_rfl) (by kernel_rfl) (by kernel_rfl) (fun _ _ _ h => h) (Or.inl ⟨by kernel_rfl, fun w _ => by go_simp⟩) rfl ?_
              refine wpAnyH_take (i := 21) (v := .pointer (some ⟨q, 0, none⟩)) rfl (by kernel_rfl) (by kernel_rfl) (by kernel_rfl) (fun _ _ _ h => h) (Or.inl ⟨by kernel_rfl, fun w _ => by go_simp⟩) rfl ?_
              refine wpAnyH_take (i := 22) (v := .pointer (some ⟨q, 0, none⟩)) rfl (by kernel_rfl) (by kernel_rfl) (by kernel_rfl) (fun _ _ _ h => h) (Or.inl ⟨by kernel_rfl, fun w _ => by go_simp⟩) rfl ?_
              refine wpAnyH_take (i := 23) (v := .bool s'.off) rfl (by kernel_rfl) (by kernel_rfl) (by kernel_rfl) (fun _ _ _ h => h) (yields_one (p := ⟨q, 0, none⟩) bool_flat (.tmp 126) (by kernel_rfl) (by kernel_rfl) (by kernel_rfl) (fun _ h => by rw [h]; exact yoff)) rfl ?_
              refine wpAnyH_ready (rs := [19]) (by kernel_rfl) (by simp) (AllReadyH.cons rfl (fun K hK => ?_) AllReadyH.nil)
              go_simp
              ((with_reducible refine koff.mono ?_); rintro e w' ⟨rfl, rfl⟩)
              refine hK.out _ _ rfl (fun _ => ?_)
              clear hK K
              refine wpAnyH_take (i := 24) (v := .bool false) rfl (by kernel_rfl) (by kernel_rfl) (by kernel_rfl) (fun _ _ _ h => h) (Or.inl ⟨by kernel_rfl, fun w _ => by go_simp⟩) rfl ?_
              refine wpAnyH_take (i := 25) (v := .bool false) rfl (by kernel_rfl) (by kernel_rfl) (by kernel_rfl) (fun _ _ _ h => h) (Or.inl ⟨by kernel_rfl, fun w _ => by go_simp⟩) rfl ?_
              refine wpAnyH_take (i := 26) (v := .bool false) rfl (by kernel_rfl) (by kernel_rfl) (by kernel_rfl) (fun _ _ _ h => h) (Or.inl ⟨by kernel_rfl, fun w _ => by go_simp⟩) rfl ?_
              refine wpAnyH_take (i := 27) (v := .pointer (some ⟨cb, 0, none⟩)) rfl (by kernel_rfl) (by kernel_rfl) (by kernel_rfl) (fun _ _ _ h => h) (Or.inl ⟨by kernel_rfl, fun w _ => by go_simp⟩) rfl ?_
              refine wpAnyH_take (i := 29) (v := .pointer (some ⟨ct, 0, none⟩)) rfl (by kernel_rfl) (by kernel_rfl) (by kernel_rfl) (fun _ _ _ h => h) (Or.inl ⟨by kernel_rfl, fun w _ => by go_simp⟩) rfl ?_
              refine wpAnyH_ready (rs := [28]) (by kernel_rfl) (by simp) (AllReadyH.cons rfl (fun K hK => ?_) AllReadyH.nil)
              go_simp
              ((with_reducible refine klive.mono ?_); rintro e w' ⟨rfl, rfl⟩)
              refine hK.out _ _ rfl (fun _ => ?_)
              clear hK K
              refine wpAnyH_ready (rs := [30]) (by kernel_rfl) (by simp) (AllReadyH.cons rfl (fun K hK => ?_) AllReadyH.nil)
              go_simp
              ((with_reducible refine krlive.mono ?_); rintro e w' ⟨rfl, rfl⟩)
              refine hK.out _ _ rfl (fun _ => ?_)
              clear hK K
              refine wpAnyH_take (i := 31) (v := .bool false) rfl (by kernel_rfl) (by kernel_rfl) (by kernel_rfl) (fun _ _ _ h => h) (Or.inl ⟨by kernel_rfl, fun w _ => by go_simp⟩) rfl ?_
              refine wpAnyH_take (i := 32) (v := .bool false) rfl (by kernel_rfl) (by kernel_rfl) (by kernel_rfl) (fun _ _ _ h => h) (Or.inl ⟨by kernel_rfl, fun w _ => by go_simp⟩) rfl ?_
              refine wpAnyH_take (i := 33) (v := .bool false) rfl (by kernel_rfl) (by kernel_rfl) (by kernel_rfl) (fun _ _ _ h => h) (Or.inl ⟨by kernel_rfl, fun w _ => by go_simp⟩) rfl ?_
              refine wpAnyH_take (i := 34) (v := .pointer (some ⟨cb, 0, none⟩)) rfl (by kernel_rfl) (by kernel_rfl) (by kernel_rfl) (fun _ _ _ h => h) (Or.inl ⟨by kernel_rfl, fun w _ => by go_simp⟩) rfl ?_
              refine wpAnyH_take (i := 36) (v := .pointer (some ⟨ct, 0, none⟩)) rfl (by kernel_rfl) (by kernel_rfl) (by kernel_rfl) (fun _ _ _ h => h) (Or.inl ⟨by kernel_rfl, fun w _ => by go_simp⟩) rfl ?_
              refine wpAnyH_take (i := 37) (v := .pointer (some ⟨ct, 0, none⟩)) rfl (by kernel_rfl) (by kernel_rfl) (by kernel_rfl) (fun _ _ _ h => h) (Or.inl ⟨by kernel_rfl, fun w _ => by go_simp⟩) rfl ?_
              refine wpAnyH_take (i := 38) (v := .pointer (some ⟨ct, 10, none⟩)) rfl (by kernel_rfl) (by kernel_rfl) (by kernel_rfl) (fun _ _ _ h => h) (Or.inl ⟨by kernel_rfl, fun w _ => by go_simp⟩) rfl ?_
              refine wpAnyH_take (i := 39) (v := .int .i64 (S'.cnt : Int)) rfl (by kernel_rfl) (by kernel_rfl) (by kernel_rfl) (fun _ _ _ h => h) (yields_one (p := ⟨ct, 10, none⟩) int_flat (.tmp 142) (by kernel_rfl) (by kernel_rfl) (by kernel_rfl) (fun _ h => by rw [h]; exact ycnt)) rfl ?_
              refine wpAnyH_ready (rs := [35]) (by kernel_rfl) (by simp) (AllReadyH.cons rfl (fun K hK => ?_) AllReadyH.nil)
              go_simp
              ((with_reducible refine kcnt.mono ?_); rintro e w' ⟨rfl, rfl⟩)
              refine hK.out _ _ rfl (fun _ => ?_)
              clear hK K
              refine wpAnyH_take (i := 40) (v := .bool false) rfl (by kernel_rfl) (by kernel_rfl) (by kernel_rfl) (fun _ _ _ h => h) (Or.inl ⟨by kernel_rfl, fun w _ => by go_simp⟩) rfl ?_
              refine wpAnyH_take (i := 41) (v := .bool false) rfl (by kernel_rfl) (by kernel_rfl) (by kernel_rfl) (fun _ _ _ h => h) (Or.inl ⟨by kernel_rfl, fun w _ => by go_simp⟩) rfl ?_
              refine wpAnyH_take (i := 42) (v := .bool false) rfl (by kernel_rfl) (by kernel_rfl) (by kernel_rfl) (fun _ _ _ h => h) (Or.inl ⟨by kernel_rfl, fun w _ => by go_simp⟩) rfl ?_
              refine wpAnyH_take (i := 43) (v := .pointer (some ⟨cb, 0, none⟩)) rfl (by kernel_rfl) (by kernel_rfl) (by kernel_rfl) (fun _ _ _ h => h) (Or.inl ⟨by kernel_rfl, fun w _ => by go_simp⟩) rfl ?_
              refine wpAnyH_take (i := 45) (v := .pointer (some ⟨ct, 0, none⟩)) rfl (by kernel_rfl) (by kernel_rfl) (by kernel_rfl) (fun _ _ _ h => h) (Or.inl ⟨by kernel_rfl, fun w _ => by go_simp⟩) rfl ?_
              refine wpAnyH_take (i := 46) (v := .pointer (some ⟨ct, 0, none⟩)) rfl (by kernel_rfl) (by kernel_rfl) (by kernel_rfl) (fun _ _ _ h => h) (Or.inl ⟨by kernel_rfl, fun w _ => by go_simp⟩) rfl ?_
              refine wpAnyH_take (i := 47) (v := .pointer (some ⟨ct, 2, none⟩)) rfl (by kernel_rfl) (by kernel_rfl) (by kernel_rfl) (fun _ _ _ h => h) (Or.inl ⟨by kernel_rfl, fun w _ => by go_simp⟩) rfl ?_
              refine wpAnyH_take (i := 48) (v := .slice (some ⟨r'.n, 0, none⟩) S'.bs.length S'.bs.length) rfl (by kernel_rfl) (by kernel_rfl) (by kernel_rfl) (fun _ _ _ h => h) (yields_one (p := ⟨ct, 2, none⟩) slice_flat (.tmp 151) (by kernel_rfl) (by kernel_rfl) (by kernel_rfl) (fun _ h => by rw [h]; exact ynx)) rfl ?_
              refine wpAnyH_take (i := 49) (v := .int .i64 (S'.bs.length : Int)) rfl (by kernel_rfl) (by kernel_rfl) (by kernel_rfl) (fun _ _ _ h => h) (Or.inl ⟨by kernel_rfl, fun w _ => by go_simp⟩) rfl ?_
              refine wpAnyH_ready (rs := [44]) (by kernel_rfl) (by simp) (AllReadyH.cons rfl (fun K hK => ?_) AllReadyH.nil)
              go_simp
              ((with_reducible refine kblk.mono ?_); rintro e w' ⟨rfl, rfl⟩)
              refine hK.out _ _ rfl (fun _ => ?_)
              clear hK K
              refine wpAnyH_take (i := 50) (v := .bool false) rfl (by kernel_rfl) (by kernel_rfl) (by kernel_rfl) (fun _ _ _ h => h) (Or.inl ⟨by kernel_rfl, fun w _ => by go_simp⟩) rfl ?_
              refine wpAnyH_ready (rs := [51]) (by kernel_rfl) (by simp) (AllReadyH.cons rfl (fun K hK => ?_) AllReadyH.nil)
              go_simp
              refine hK.out _ _ rfl (fun _ => ?_)
              clear hK K
              refine wpAnyH_done (by kernel_rfl) ?_ _
              clear y0 yoff ycnt ynx koff klive krlive kcnt kblk sf1 sf2
              have cb8 : w8.cell? ⟨gv, 2, none⟩ = some (.int .i64 o.b) := R8.cell 2
              have cp8 : w8.cell? ⟨gv, 3, none⟩ = some (.int .i64 o.p) := R8.cell 3
              have kr := read_any a' S' s' o.b o.p w8 Q8.out.d1.pc (Q8.out.d1.ppc Q8.out.pw.pp)
              rw [ac8] at kr
              have hLen := readPage_length Q8.out.d1.rc.ok s'.off S'.live o.b o.p
              obtain ⟨m, hm⟩ : ∃ m, m = NM.may s'.off S'.live S'.bs.length o.b o.p := ⟨_, rfl⟩
              rw [← hm] at kr hLen
              obtain ⟨L, hL⟩ : ∃ L, L = S'.readPage m o.b o.p := ⟨_, rfl⟩
              rw [← hL] at kr hLen
              have HRD : Hid (∀ w9, Below w8.heap.size w8 w9 → Calls Try.prog 18 #[.pointer (some ⟨ct, 0, none⟩), .int .i64 o.b, .int .i64 o.p] w9 fun e w' => e = .returned (.tuple #[.agg (cl L), .int .i64 m]) ∧ Below w9.heap.size w9 w') := Lib.hid (fun w9 hb => by
                have k := refRead_any r' S' s' o.b o.p w9 (Q8.out.d1.rc.after hb) (RPow.after (Q8.out.d1.rpc Q8.out.pw.rp) hb)
                rw [rc8, ← hm, ← hL] at k
                exact k)
              have hEq : ∀ w, (Op.equalIn 10000 55 (.agg (cl L)) (.agg (cl L))).run Try.prog w = .ok true w := fun w => by
                have := equalIn_pcl hLen hLen w
                rwa [decide_eq_true rfl] at this
              have z := zeroPage
              have hmm : (m != m) = false := by simp
              clear hm hL pa8 qa8
              go_wp2_with fail
              ((with_reducible refine kr.mono ?_); rintro e w9 ⟨rfl, b9⟩)
              have cb9 := (R8.after b9).cell 2
              have HB9 := Lib.hid b9
              have HR9 := Lib.hid (R8.after b9)
              clear kr b9 cb8 cp8 cb9 R8
              go_wp2_with ((with_reducible refine wpl_pstore (.tmp 21) (.tmp 163) rfl rfl (PArr.new w9 pzeros_length) rfl hLen rfl ?_); intro wa Xa ga ea; have ba : Below w9.heap.size w9 wa := ((Below.refl _ _).alloc (Nat.le_refl _) _).grown ga (by simp) (fun k e => by cases e; exact Nat.le_refl _); have cba : wa.cell? ⟨gv, 2, none⟩ = some (.int .i64 o.b) := (HR9.out.after ba).cell 2; have cpa : wa.cell? ⟨gv, 3, none⟩ = some (.int .i64 o.p) := (HR9.out.after ba).cell 3)
              have HBa := Lib.hid (HB9.out.trans (ba.mono HB9.out.size))
              have krr := HRD.out wa HBa.out
              ((with_reducible refine krr.mono ?_); rintro e wb ⟨rfl, bb⟩)
              have HBb := Lib.hid (HBa.out.trans (bb.mono HBa.out.size))
              have Xb := Xa.after bb
              have xlt := Xb.lt
              clear krr bb Xa ga ea ba cba cpa HB9 HR9 HBa HRD
              go_wp2_with (first | ((with_reducible refine wpl_pstore (.tmp 23) (.tmp 172) rfl rfl (PArr.new wb pzeros_length) rfl hLen rfl ?_); intro wc2 Xc gc ec; have Xd := (Xb.alloc (.cells (cl pzeros) 55)).grown gc (Nat.ne_of_lt xlt)) | (with_reducible refine wpl_pload (.tmp 21) rfl rfl Xd rfl ?_) | (with_reducible refine wpl_pload (.tmp 23) rfl rfl Xc rfl ?_))
              have bc : Below wb.heap.size wb wc2 := ((Below.refl _ _).alloc (Nat.le_refl _) _).grown gc (by simp) (fun k e => by cases e; exact Nat.le_refl _)
              have bw := HBb.out.trans (bc.mono HBb.out.size)
              have QF := Q8.out.after bw
              exact ⟨⟨i + 1, by omega, by go_num, a, r, S, a', r', S', s', HC1.out, HR1.out, ac8, rc8, QF.swap, few_more i HF1.out, F8.out, GA8.out.after bw, GB8.out.after bw, HB8.out.trans (bw.mono HB8.out.size)⟩, by simp [intOf]; omega⟩
          · obtain rfl : i = os.length := by omega
            have k1 := all_any a r S s p q wr QR.out.d1 QR.out.pw.pp
            rw [HC1.out, HR1.out] at k1
            have gaA : Hid (¬ (a.own gA ∨ gA = p) ∧ ¬ (a.own gB ∨ gB = p)) := Lib.hid ⟨fun e => e.elim (fun e => (QR.out.kp gA (.inl rfl)).1.1 (.inl e)) (fun e => (QR.out.kp gA (.inl rfl)).1.2.2.1 e), fun e => e.elim (fun e => (QR.out.kp gB (.inr rfl)).1.1 (.inl e)) (fun e => (QR.out.kp gB (.inr rfl)).1.2.2.1 e)⟩
            go_wp2_with fail
            ((with_reducible refine k1.mono ?_); rintro e wx ⟨rfl, qx, sx, Px⟩)
            have D2x : Duo wx b t T p q := QR.out.d2.chg qx (fun j hj e => e.elim (fun e => QR.out.dj j (.inl e) hj) (fun e => (QR.out.d2.np j hj).1 e))
            have k2 := all_any b t T sx p q wx D2x Px
            rw [HC2.out, HR2.out] at k2
            have xA : wx.cell? ⟨gA, 1, none⟩ = some (.pointer (some ⟨cb, 0, none⟩)) := (GA.out.chg qx gaA.out.1).cell 1
            have xB : wx.cell? ⟨gB, 1, none⟩ = some (.pointer (some ⟨ct, 0, none⟩)) := (GB.out.chg qx gaA.out.2).cell 1
            have HBx : Hid (Below w.heap.size w wx) := Lib.hid (HB.out.trans (qx.below (fun j e => QR.out.fr j (e.elim (fun e => .inl (.inl e)) (fun e => .inr (.inr (.inl e))))) HB.out.size))
            clear k1 qx Px D2x
            go_wp2_with fail
            ((with_reducible refine k2.mono ?_); rintro e wy ⟨rfl, qy, sy, Py⟩)
            have HBy : Hid (Below w.heap.size w wy) := Lib.hid (HBx.out.trans (qy.below (fun j e => QR.out.fr j (e.elim (fun e => .inr (.inl (.inl e))) (fun e => .inr (.inr (.inl e))))) HBx.out.size))
            clear k2 qy Py xA xB
            go_wp2_with fail
            go_ret
            exact ⟨rfl, HBy.out⟩
  · go_wp2_with fail
    go_ret
    exact ⟨rfl, B2.out⟩
theorem nandPlays_any (n : Int) (v u : Value) (w : World) (_ : (Lit.int .i64 n).wf = true) (h1 : ∃ zs, Nums w w.heap.size .i64 v zs) (h2 : ∃ os, Script w w.heap.size u os) :
    Calls Try.prog 3 #[.int .i64 n, v, u] w fun e w' => e = .returned (.bool true) ∧ Below w.heap.size w w' := by
  obtain ⟨zs, hz⟩ := h1
  obtain ⟨os, ho⟩ := h2
  have hz' := hz
  have ho' := ho
  obtain ⟨A, c, rfl, _⟩ := hz
  obtain ⟨A', c', rfl, _⟩ := ho
  exact plays_main n zs A c os A' c' w hz' ho'
end Go.Proofs.Ytjdegfblacbkoaa
