/- The walk of ViewBack: it answers true, and changes nothing that was there. No condition. -/
import Derived.Test.YticigjkaangkmaaQViewTies
namespace Go.Proofs.Yticigjkaangkmaa
open Go Go.RowKit
/-- the boxes of the law's three views, and of its bases -/
def KV (gp gq ga gb : Nat) (v a b : VV) (b0 b1 : Nat) (w : World) : Prop := Blk w gp 24 [.int .u64 (v.n : Int), .int .i64 v.m, .int .u64 (v.b : Int)] ∧ Blk w gq 44 [.int .u64 (b0 : Int), .int .u64 (b1 : Int)] ∧ Blk w ga 24 [.int .u64 (a.n : Int), .int .i64 a.m, .int .u64 (a.b : Int)] ∧ Blk w gb 24 [.int .u64 (b.n : Int), .int .i64 b.m, .int .u64 (b.b : Int)]
theorem KV.after {gp gq ga gb : Nat} {v a b : VV} {b0 b1 : Nat} {w w' : World} (h : KV gp gq ga gb v a b b0 b1 w) (hb : Below w.heap.size w w') : KV gp gq ga gb v a b b0 b1 w' := ⟨h.1.after hb, h.2.1.after hb, h.2.2.1.after hb, h.2.2.2.after hb⟩
theorem KV.set {gp gq ga gb g : Nat} {v a b : VV} {b0 b1 : Nat} {w w' : World} (h : KV gp gq ga gb v a b b0 b1 w) (hO : ∀ (g' : Nat) (t : TypeId) (cs : List Value), g' ≠ g → Blk w g' t cs → Blk w' g' t cs) (h1 : gp ≠ g) (h2 : gq ≠ g) (h3 : ga ≠ g) (h4 : gb ≠ g) : KV gp gq ga gb v a b b0 b1 w' := ⟨hO _ _ _ h1 h.1, hO _ _ _ h2 h.2.1, hO _ _ _ h3 h.2.2.1, hO _ _ _ h4 h.2.2.2⟩
theorem typesTwoU : Try.prog.cellTypes Try.prog.depth 44 = some [22, 22] := by kernel_rfl
theorem cellsTwoU : Try.prog.cellsOf 44 = 2 := by kernel_rfl
theorem open_twou64 {w : World} {r : Reach} {b0 : Nat} {v : Value} (h : Value.okWide Try.prog w r b0 44 v) : ∃ a b : Nat, v = .agg #[.int .u64 (a : Int), .int .u64 (b : Int)] := by
  simp only [Value.okWide, Try.underlying44] at h
  obtain ⟨cs, rfl, hs, ts, ht, _, hc⟩ := h
  rw [cellsTwoU] at hs
  rw [typesTwoU] at ht
  obtain rfl := Option.some.inj ht
  have at_ : ∀ i (hi : i < 2), ∃ u, [22, 22][i]? = some u ∧ Cell.okWide Try.prog w r b0 u (cs[i]'(by omega)) := by
    intro i hi
    obtain ⟨u, hu, hk⟩ := hc i _ (Array.getElem?_eq_getElem (by omega))
    rw [show [22, 22].length = 2 from rfl, Nat.mod_eq_of_lt hi] at hu
    exact ⟨u, hu, hk⟩
  obtain ⟨u0, h0, k0⟩ := at_ 0 (by omega)
  obtain ⟨u1, h1, k1⟩ := at_ 1 (by omega)
  obtain rfl : 22 = u0 := by simpa using h0
  obtain rfl : 22 = u1 := by simpa using h1
  obtain ⟨z0, e0, w0⟩ := vcell_int Try.underlying22 k0
  obtain ⟨z1, e1, w1⟩ := vcell_int Try.underlying22 k1
  obtain ⟨n0, rfl, _⟩ := vu64_wf w0
  obtain ⟨n1, rfl, _⟩ := vu64_wf w1
  refine ⟨n0, n1, ?_⟩
  congr 1
  apply Array.ext (by rw [hs]; rfl)
  intro i h1 h2
  have hi : i < 2 := by omega
  match i, hi with
  | 0, _ => exact e0
  | 1, _ => exact e1
/-- what Shrink gives, and Grow of that -/
theorem back_facts {v : VV} {c : Int} {b0 : Nat} (h : (v.shrink c b0).2 = 0) : v.right = true ∧ v.n < 9223372036854775808 ∧ 1 ≤ v.n ∧ v.has c = true ∧ (v.shrink c b0).1 = ⟨v.n + 1, c + 1, b0⟩ := by
  cases hh : v.has c
  · rw [VV.shrink_no hh] at h; cases h
  · rw [VV.shrink_yes hh] at h ⊢
    by_cases hr : v.right = true ∧ v.n ≠ 9223372036854775808
    · have := VV.right_n hr.1
      rw [VV.next_yes hr.1 hr.2]
      exact ⟨hr.1, by have := hr.2; omega, by omega, rfl, rfl⟩
    · rw [VV.next_no hr] at h; cases h
theorem shrink_zero {v : VV} {c : Int} {b0 : Nat} (h : (v.shrink c b0).2 ≠ 0) : v.shrink c b0 = (VV.zero, 1) := by
  cases hh : v.has c
  · exact VV.shrink_no hh
  · rw [VV.shrink_yes hh] at h ⊢
    by_cases hr : v.right = true ∧ v.n ≠ 9223372036854775808
    · rw [VV.next_yes hr.1 hr.2] at h; exact absurd rfl h
    · exact VV.next_no hr
theorem alone_right {n : Nat} {c : Int} {b0 : Nat} (hc : c = 0 ∨ c = 1) (h1 : 1 ≤ n) (h2 : n ≤ 9223372036854775808) : (VV.mk n (c + 1) b0).right = true := by unfold VV.right; simp; omega
theorem alone_has {n : Nat} {c : Int} {b0 : Nat} (hc : c = 0 ∨ c = 1) : (VV.mk n (c + 1) b0).has c = true ∧ (VV.mk n (c + 1) b0).has (1 - c) = false := by
  rcases hc with rfl | rfl <;> exact ⟨rfl, rfl⟩
theorem alone_grow {n : Nat} {c : Int} {b0 b1 : Nat} (hc : c = 0 ∨ c = 1) (h1 : 1 ≤ n) (h2 : n < 9223372036854775808) : (VV.mk n (c + 1) b0).grow b1 = (⟨n + 1, 3, b1⟩, 0) := by
  rw [VV.grow_yes (by rcases hc with rfl | rfl <;> rfl)]
  exact VV.next_yes (alone_right hc h1 (by omega)) (by show n ≠ _; omega)
theorem alone_grow_no {c : Int} {b0 b1 : Nat} (hc : c = 0 ∨ c = 1) : (VV.mk 9223372036854775808 (c + 1) b0).grow b1 = (VV.zero, 1) := by
  rw [VV.grow_yes (by rcases hc with rfl | rfl <;> rfl)]
  exact VV.next_no (fun q => q.2 rfl)
set_option maxRecDepth 100000 in
set_option maxHeartbeats 4000000 in
theorem viewBack_any (u : Value) (c : Int) (vb : Value) (w : World) (hv : ∃ v, IsView u v) (hc0 : (Lit.int .i64 c).wf = true) (hbs : ∃ a b : Nat, vb = .agg #[.int .u64 (a : Int), .int .u64 (b : Int)]) :
    Calls Try.prog 5 #[u, .int .i64 c, vb] w fun e w' => e = .returned (.bool true) ∧ Below w.heap.size w w' := by
  obtain ⟨v, rfl, _⟩ := hv
  obtain ⟨b0, b1, rfl⟩ := hbs
  have a1 := Lib.hid (((Below.refl w.heap.size w).alloc (Nat.le_refl _) (.cells #[.int .u64 (v.n : Int), .int .i64 v.m, .int .u64 (v.b : Int)] 24)).alloc (by simp) (.cells #[.int .u64 (b0 : Int), .int .u64 (b1 : Int)] 44))
  have P1 := Lib.hid ((Blk.new w 24 [.int .u64 (v.n : Int), .int .i64 v.m, .int .u64 (v.b : Int)]).alloc (.cells #[.int .u64 (b0 : Int), .int .u64 (b1 : Int)] 44))
  have Q1 : Hid (Blk ((w.alloc (.cells #[.int .u64 (v.n : Int), .int .i64 v.m, .int .u64 (v.b : Int)] 24)).alloc (.cells #[.int .u64 (b0 : Int), .int .u64 (b1 : Int)] 44)) (w.heap.size + 1) 44 [.int .u64 (b0 : Int), .int .u64 (b1 : Int)]) := Lib.hid (by
    have h := Blk.new (w.alloc (.cells #[.int .u64 (v.n : Int), .int .i64 v.m, .int .u64 (v.b : Int)] 24)) 44 [.int .u64 (b0 : Int), .int .u64 (b1 : Int)]
    rw [World.size_alloc] at h
    exact h)
  go_enter Try.func5, Try.ntmps5
  go_wp2_with fail
  refine (vspeaks_any _).mono ?_
  rintro e' w1 ⟨rfl, h1⟩
  obtain ⟨gp, hgp⟩ : ∃ gp, gp = w.heap.size := ⟨_, rfl⟩
  obtain ⟨gq, hgq⟩ : ∃ gq, gq = w.heap.size + 1 := ⟨_, rfl⟩
  have T1 := Lib.hid (a1.out.trans (h1.mono a1.out.size))
  have P1' := Lib.hid (P1.out.after h1)
  have Q1' := Lib.hid (Q1.out.after h1)
  rw [← hgp] at P1'
  rw [← hgq] at Q1'
  rw [← hgq, ← hgp]
  clear h1 P1 Q1 a1
  have HGP := Lib.hid (And.intro hgp hgq)
  clear hgp hgq
  have q0 := Q1'.out.cell 0
  simp only [List.getElem?_cons_zero] at q0
  have KS := Lib.hid (fun w => shrink_any v c b0 w)
  by_cases hok : (v.shrink c b0).2 = 0
  · obtain ⟨hr, hn, hn1, hh, ha⟩ := back_facts hok
    have hc := has_chip hh
    obtain ⟨a, hA⟩ : ∃ a, a = VV.mk (v.n + 1) (c + 1) b0 := ⟨_, rfl⟩
    rw [hok, ha, ← hA] at KS
    have HF := Lib.hid (show v.right = true ∧ v.n < 9223372036854775808 ∧ 1 ≤ v.n ∧ (c = 0 ∨ c = 1) ∧ a = VV.mk (v.n + 1) (c + 1) b0 from ⟨hr, hn, hn1, hc, hA⟩)
    clear hok hr hn hn1 hh ha hc hA
    go_wp2_with (with_reducible refine wpl_vload (.tmp 3) rfl rfl P1'.out rfl ?_)
    ((with_reducible refine (KS.out _).mono ?_); rintro e2 w2 ⟨rfl, h2⟩)
    have T2a := Lib.hid (T1.out.trans (h2.mono T1.out.size))
    have T2 := Lib.hid (T2a.out.alloc T2a.out.size (.cells #[.int .u64 (a.n : Int), .int .i64 a.m, .int .u64 (a.b : Int)] 24))
    have P2 := Lib.hid ((P1'.out.after h2).alloc (.cells #[.int .u64 (a.n : Int), .int .i64 a.m, .int .u64 (a.b : Int)] 24))
    have Q2 := Lib.hid ((Q1'.out.after h2).alloc (.cells #[.int .u64 (a.n : Int), .int .i64 a.m, .int .u64 (a.b : Int)] 24))
    have A2 := Lib.hid (Blk.new w2 24 [.int .u64 (a.n : Int), .int .i64 a.m, .int .u64 (a.b : Int)])
    have q1 := Q2.out.cell 1
    simp only [List.getElem?_cons_zero, List.getElem?_cons_succ] at q1
    clear h2 T2a P1' Q1' T1 q0 KS
    by_cases hn2 : v.n + 1 = 9223372036854775808
    · have KG : Hid (∀ w, Calls Try.prog 15 #[va a, .int .u64 (b1 : Int)] w fun e w' => e = .returned (.tuple #[.agg #[.int .u64 0, .int .i64 0, .int .u64 0], .int .i64 1]) ∧ Below w.heap.size w w') := Lib.hid (fun w => by
        have h := grow_any a b1 w
        rw [HF.out.2.2.2.2, hn2, alone_grow_no HF.out.2.2.2.1] at h
        rw [HF.out.2.2.2.2, hn2]
        exact h)
      have hw1 : IntKind.u64.wrap ((v.n : Int) + 1) = 9223372036854775808 := by rw [IntKind.wrap_u64]; omega
      clear hn2
      go_wp2_with (with_reducible refine wpl_vload (.tmp 7) rfl rfl A2.out rfl ?_)
      ((with_reducible refine (KG.out _).mono ?_); rintro e3 w3 ⟨rfl, h3⟩)
      have T3 := Lib.hid (T2.out.trans (h3.mono T2.out.size))
      have P3 := Lib.hid ((P2.out.after h3).alloc (.cells #[.int .u64 0, .int .i64 0, .int .u64 0] 24))
      have p0 := P3.out.cell 0
      simp only [List.getElem?_cons_zero] at p0
      clear h3
      go_wp2
      go_ret
      exact ⟨rfl, T3.out.alloc T3.out.size _⟩
    · obtain ⟨b, hB⟩ : ∃ b, b = VV.mk (v.n + 1 + 1) 3 b1 := ⟨_, rfl⟩
      have KG : Hid (∀ w, Calls Try.prog 15 #[va a, .int .u64 (b1 : Int)] w fun e w' => e = .returned (.tuple #[va b, .int .i64 0]) ∧ Below w.heap.size w w') := Lib.hid (fun w => by
        have h := grow_any a b1 w
        rw [HF.out.2.2.2.2, alone_grow HF.out.2.2.2.1 (by omega) (by have := HF.out.2.1; omega), ← hB] at h
        rw [HF.out.2.2.2.2]
        exact h)
      obtain ⟨n1, hN1⟩ : ∃ n1 : Int, n1 = (v.n : Int) + 1 := ⟨_, rfl⟩
      obtain ⟨n2, hN2⟩ : ∃ n2, n2 = v.n + 2 := ⟨_, rfl⟩
      have hw1 : IntKind.u64.wrap ((v.n : Int) + 1) = n1 := by rw [IntKind.wrap_u64]; have := HF.out.2.1; omega
      have hw2 : IntKind.u64.wrap ((v.n : Int) + 2) = (n2 : Int) := by rw [IntKind.wrap_u64]; have := HF.out.2.1; omega
      have hlt : decide (9223372036854775808 ≤ n1) = false := by have := HF.out.2.1; simp; omega
      have hbn : Hid (b.n = n2 ∧ b.m = 3 ∧ b.b = b1) := Lib.hid (by rw [hB, hN2]; exact ⟨rfl, rfl, rfl⟩)
      -- the tie
      have E1 : VV.zero.setE v = 0 ∧ VV.zero.set v = v := by
        have : v.right = true ∧ VV.zero.n < v.n := ⟨HF.out.1, HF.out.2.2.1⟩
        unfold VV.setE VV.set
        rw [if_pos this, if_pos this]; exact ⟨rfl, rfl⟩
      have E2 : v.setE a = 0 ∧ v.set a = a := by
        have : a.right = true ∧ v.n < a.n := by
          rw [HF.out.2.2.2.2]
          exact ⟨alone_right HF.out.2.2.2.1 (by omega) (by have := HF.out.2.1; omega), Nat.lt_succ_self _⟩
        unfold VV.setE VV.set
        rw [if_pos this, if_pos this]; exact ⟨rfl, rfl⟩
      have E3 : a.setE b = 0 ∧ a.set b = b := by
        have : b.right = true ∧ a.n < b.n := by
          rw [hB, HF.out.2.2.2.2]
          refine ⟨?_, Nat.lt_succ_self _⟩
          have := HF.out.2.1
          unfold VV.right; simp; omega
        unfold VV.setE VV.set
        rw [if_pos this, if_pos this]; exact ⟨rfl, rfl⟩
      have E4 : b.setE a = 1 ∧ b.set a = b := by
        have : ¬ (a.right = true ∧ b.n < a.n) := by
          rw [hB, HF.out.2.2.2.2]
          rintro ⟨_, q⟩
          have : v.n + 1 + 1 < v.n + 1 := q
          omega
        unfold VV.setE VV.set
        rw [if_neg this, if_neg this]; exact ⟨rfl, rfl⟩
      have HE := Lib.hid (And.intro E1 (And.intro E2 (And.intro E3 E4)))
      have H2 := Lib.hid (show b.has 0 = true ∧ b.has 1 = true by rw [hB]; exact ⟨rfl, rfl⟩)
      have H1 := Lib.hid (show a.has c = true ∧ a.has (1 - c) = false by rw [HF.out.2.2.2.2]; exact alone_has HF.out.2.2.2.1)
      have hwc0 : IntKind.i64.wrap (1 - c) = 1 - c := by rw [IntKind.wrap_i64]; rcases HF.out.2.2.2.1 with rfl | rfl <;> decide
      obtain ⟨c', hc'⟩ : ∃ c', 1 - c = c' := ⟨_, rfl⟩
      rw [hc'] at H1
      have hwc : IntKind.i64.wrap (1 - c) = c' := hwc0.trans hc'
      clear hwc0
      have HCC := Lib.hid hc'
      clear hn2 hB hN1 hN2 E1 E2 E3 E4 hc'
      go_wp2_with (with_reducible refine wpl_vload (.tmp 7) rfl rfl A2.out rfl ?_)
      ((with_reducible refine (KG.out _).mono ?_); rintro e3 w3 ⟨rfl, h3⟩)
      have T3a := Lib.hid (T2.out.trans (h3.mono T2.out.size))
      have T3 := Lib.hid (T3a.out.alloc T3a.out.size (.cells #[.int .u64 (b.n : Int), .int .i64 b.m, .int .u64 (b.b : Int)] 24))
      have P3 := Lib.hid ((P2.out.after h3).alloc (.cells #[.int .u64 (b.n : Int), .int .i64 b.m, .int .u64 (b.b : Int)] 24))
      have Q3 := Lib.hid ((Q2.out.after h3).alloc (.cells #[.int .u64 (b.n : Int), .int .i64 b.m, .int .u64 (b.b : Int)] 24))
      have A3 := Lib.hid ((A2.out.after h3).alloc (.cells #[.int .u64 (b.n : Int), .int .i64 b.m, .int .u64 (b.b : Int)] 24))
      have B3 := Lib.hid (Blk.new w3 24 [.int .u64 (b.n : Int), .int .i64 b.m, .int .u64 (b.b : Int)])
      have p0 := P3.out.cell 0
      simp only [List.getElem?_cons_zero] at p0
      clear h3 T3a P2 Q2 A2 T2 q1 KG
      go_wp2_with fail
      obtain ⟨ga, hga⟩ : ∃ ga, ga = w2.heap.size := ⟨_, rfl⟩
      obtain ⟨gb, hgb⟩ : ∃ gb, gb = w3.heap.size := ⟨_, rfl⟩
      rw [← hga] at A3 ⊢
      rw [← hgb] at B3 ⊢
      have hltp := Lib.hid P3.out.lt
      have hltq := Lib.hid Q3.out.lt
      have hlta := Lib.hid A3.out.lt
      have hltb := Lib.hid B3.out.lt
      have V3 : Hid (KV gp gq ga gb v a b b0 b1 (w3.alloc (.cells #[.int .u64 (b.n : Int), .int .i64 b.m, .int .u64 (b.b : Int)] 24))) := Lib.hid ⟨P3.out, Q3.out, A3.out, B3.out⟩
      clear hga hgb P3 Q3 A3 B3 p0
      ((with_reducible refine (newTie_any _).mono ?_); rintro e4 w4 ⟨rfl, hT4, h4⟩)
      obtain ⟨g, hg⟩ : ∃ g, g = (w3.alloc (.cells #[.int .u64 (b.n : Int), .int .i64 b.m, .int .u64 (b.b : Int)] 24)).heap.size := ⟨_, rfl⟩
      rw [World.size_alloc] at hT4 hg ⊢
      rw [World.size_alloc] at hltp hltq hlta hltb
      rw [← hg] at hT4 ⊢
      rw [← hg] at hltp hltq hlta hltb
      have HNE := Lib.hid (show gp ≠ g ∧ gq ≠ g ∧ ga ≠ g ∧ gb ≠ g ∧ w.heap.size ≤ g from ⟨Nat.ne_of_lt hltp.out, Nat.ne_of_lt hltq.out, Nat.ne_of_lt hlta.out, Nat.ne_of_lt hltb.out, by have := HGP.out.1; have := hltp.out; omega⟩)
      have T4 := Lib.hid (T3.out.trans (h4.mono T3.out.size))
      have V4 := Lib.hid (V3.out.after h4)
      have Z4 := Lib.hid hT4
      clear h4 hT4 hg T3 V3 hltp hltq hlta hltb
      go_wp2_with fail
      have S0 : KV gp gq ga gb v a b b0 b1 w4.drew := V4.out
      refine wp_region_held_drew (S := (fun w' => KV gp gq ga gb v a b b0 b1 w')) (by kernel_rfl) S0 (fun _ => ?_)
      refine wpAnyH_take (i := 0) (v := .pointer (some ⟨g, 0, none⟩)) rfl (by kernel_rfl) (by kernel_rfl) (by kernel_rfl) (fun _ _ _ h => h) (Or.inl ⟨by kernel_rfl, fun w _ => by go_simp⟩) S0 ?_
      refine wpAnyH_take (i := 3) (v := .pointer (some ⟨g, 0, none⟩)) rfl (by kernel_rfl) (by kernel_rfl) (by kernel_rfl) (fun _ _ _ h => h) (Or.inl ⟨by kernel_rfl, fun w _ => by go_simp⟩) S0 ?_
      refine wpAnyH_take (i := 6) (v := .pointer (some ⟨g, 0, none⟩)) rfl (by kernel_rfl) (by kernel_rfl) (by kernel_rfl) (fun _ _ _ h => h) (Or.inl ⟨by kernel_rfl, fun w _ => by go_simp⟩) S0 ?_
      refine wpAnyH_take (i := 1) (v := .agg #[.int .u64 (v.n : Int), .int .i64 v.m, .int .u64 (v.b : Int)]) rfl (by kernel_rfl) (by kernel_rfl) (by kernel_rfl) (fun _ _ _ h => h) (yields_vload (g := gp) (.tmp 3) (by kernel_rfl) (by kernel_rfl) (by kernel_rfl) (fun w h => h.1)) S0 ?_
      refine wpAnyH_take (i := 4) (v := .agg #[.int .u64 (a.n : Int), .int .i64 a.m, .int .u64 (a.b : Int)]) rfl (by kernel_rfl) (by kernel_rfl) (by kernel_rfl) (fun _ _ _ h => h) (yields_vload (g := ga) (.tmp 7) (by kernel_rfl) (by kernel_rfl) (by kernel_rfl) (fun w h => h.2.2.1)) S0 ?_
      refine wpAnyH_take (i := 7) (v := .agg #[.int .u64 (b.n : Int), .int .i64 b.m, .int .u64 (b.b : Int)]) rfl (by kernel_rfl) (by kernel_rfl) (by kernel_rfl) (fun _ _ _ h => h) (yields_vload (g := gb) (.tmp 9) (by kernel_rfl) (by kernel_rfl) (by kernel_rfl) (fun w h => h.2.2.2)) S0 ?_
      have Z0 : VTie w4.drew g VV.zero := Z4.out
      refine wpAnyH_ready (rs := [2]) (by kernel_rfl) (by simp) (AllReadyH.cons rfl (fun K hK => ?_) AllReadyH.nil)
      go_simp
      ((with_reducible refine (tset_any (k := VV.zero) Z0 v).mono ?_); rw [HE.out.1.1, HE.out.1.2]; rintro x5 w5 ⟨rfl, y5, z5, o5⟩)
      have S5 := KV.set S0 o5 HNE.out.1 HNE.out.2.1 HNE.out.2.2.1 HNE.out.2.2.2.1
      refine hK.out _ _ S5 (fun _ => ?_)
      clear hK K
      have t5 := Lib.hid (T4.out.drew.trans (z5.mono HNE.out.2.2.2.2))
      clear z5 o5
      refine wpAnyH_ready (rs := [5]) (by kernel_rfl) (by simp) (AllReadyH.cons rfl (fun K hK => ?_) AllReadyH.nil)
      go_simp
      ((with_reducible refine (tset_any (k := v) y5 a).mono ?_); rw [HE.out.2.1.1, HE.out.2.1.2]; rintro x6 w6 ⟨rfl, y6, z6, o6⟩)
      have S6 := KV.set S5 o6 HNE.out.1 HNE.out.2.1 HNE.out.2.2.1 HNE.out.2.2.2.1
      refine hK.out _ _ S6 (fun _ => ?_)
      clear hK K
      have t6 := Lib.hid (t5.out.trans (z6.mono HNE.out.2.2.2.2))
      clear z6 o6 t5
      refine wpAnyH_ready (rs := [8]) (by kernel_rfl) (by simp) (AllReadyH.cons rfl (fun K hK => ?_) AllReadyH.nil)
      go_simp
      ((with_reducible refine (tset_any (k := a) y6 b).mono ?_); rw [HE.out.2.2.1.1, HE.out.2.2.1.2]; rintro x7 w7 ⟨rfl, y7, z7, o7⟩)
      have S7 := KV.set S6 o7 HNE.out.1 HNE.out.2.1 HNE.out.2.2.1 HNE.out.2.2.2.1
      refine hK.out _ _ S7 (fun _ => ?_)
      clear hK K
      have t7 := Lib.hid (t6.out.trans (z7.mono HNE.out.2.2.2.2))
      clear z7 o7 t6
      refine wpAnyH_take (i := 9) (v := .int .i64 0) rfl (by kernel_rfl) (by kernel_rfl) (by kernel_rfl) (fun _ _ _ h => h) (Or.inl ⟨by kernel_rfl, fun w _ => by go_simp⟩) S7 ?_
      refine wpAnyH_take (i := 10) (v := .int .i64 0) rfl (by kernel_rfl) (by kernel_rfl) (by kernel_rfl) (fun _ _ _ h => h) (Or.inl ⟨by kernel_rfl, fun w _ => by go_simp⟩) S7 ?_
      refine wpAnyH_take (i := 11) (v := .int .i64 0) rfl (by kernel_rfl) (by kernel_rfl) (by kernel_rfl) (fun _ _ _ h => h) (Or.inl ⟨by kernel_rfl, fun w _ => by go_simp⟩) S7 ?_
      refine wpAnyH_done (by kernel_rfl) ?_ _
      go_simp
      have V7 := Lib.hid S7
      have Z7 := Lib.hid y7
      clear S0 S5 S6 S7 y5 y6 y7 Z0
      go_wp2_with fail
      have S0 : KV gp gq ga gb v a b b0 b1 w7.drew := V7.out
      have hbV : Hid ((va b : Value) = .agg #[.int .u64 (n2 : Int), .int .i64 3, .int .u64 (b1 : Int)]) := Lib.hid (by unfold va; rw [hbn.out.1, hbn.out.2.1, hbn.out.2.2])
      have kB := Lib.hid (fun (w : World) => show Calls Try.prog 14 #[.agg #[.int .u64 (n2 : Int), .int .i64 3, .int .u64 (b1 : Int)], .slice (some ⟨w.heap.size, 0, none⟩) 2 2] (w.alloc (.cells #[.int .i64 0, .int .i64 1] 3)).drew fun e w' => e = .returned (.bool true) ∧ Below w.drew.heap.size w.drew w' by
        have h := has2_any b w.drew
        rw [H2.out.1, H2.out.2, hbV.out] at h
        exact h)
      have kA := Lib.hid (fun (w : World) => show Calls Try.prog 14 #[.agg #[.int .u64 (a.n : Int), .int .i64 a.m, .int .u64 (a.b : Int)], .slice (some ⟨w.heap.size, 0, none⟩) 1 1] (w.alloc (.cells #[.int .i64 c] 3)) fun e w' => e = .returned (.bool true) ∧ Below w.heap.size w w' by
        have h := has1_any a c w
        rw [H1.out.1] at h
        exact h)
      have kC := Lib.hid (fun (w : World) => show Calls Try.prog 14 #[.agg #[.int .u64 (a.n : Int), .int .i64 a.m, .int .u64 (a.b : Int)], .slice (some ⟨w.heap.size, 0, none⟩) 1 1] (w.alloc (.cells #[.int .i64 c'] 3)) fun e w' => e = .returned (.bool false) ∧ Below w.heap.size w w' by
        have h := has1_any a c' w
        rw [H1.out.2] at h
        exact h)
      refine wp_region_held_drew (S := (fun w' => KV gp gq ga gb v a b b0 b1 w')) (by kernel_rfl) S0 (fun _ => ?_)
      refine wpAnyH_take (i := 0) (v := .agg #[.int .u64 (n2 : Int), .int .i64 3, .int .u64 (b1 : Int)]) rfl (by kernel_rfl) (by kernel_rfl) (by kernel_rfl) (fun _ _ _ h => h) (by rw [← hbV.out]; exact yields_vload (g := gb) (.tmp 9) (by kernel_rfl) (by kernel_rfl) (by kernel_rfl) (fun w h => h.2.2.2)) S0 ?_
      refine wpAnyH_take (i := 1) (v := .pointer (some ⟨gp, 0, none⟩)) rfl (by kernel_rfl) (by kernel_rfl) (by kernel_rfl) (fun _ _ _ h => h) (Or.inl ⟨by kernel_rfl, fun w _ => by go_simp⟩) S0 ?_
      refine wpAnyH_take (i := 2) (v := .int .u64 (v.n : Int)) rfl (by kernel_rfl) (by kernel_rfl) (by kernel_rfl) (fun _ _ _ h => h) (yields_c (ty := 22) (fun w => by kernel_rfl) (p := ⟨gp, 0, none⟩) (.tmp 60) (by kernel_rfl) (by kernel_rfl) (by kernel_rfl) (fun w h => h.1.cell 0)) S0 ?_
      refine wpAnyH_take (i := 3) (v := .int .u64 (n2 : Int)) rfl (by kernel_rfl) (by kernel_rfl) (by kernel_rfl) (fun _ _ _ h => h) (Or.inl ⟨by kernel_rfl, fun w _ => by go_simp⟩) S0 ?_
      refine wpAnyH_take (i := 4) (v := .pointer (some ⟨gq, 1, none⟩)) rfl (by kernel_rfl) (by kernel_rfl) (by kernel_rfl) (fun _ _ _ h => h) (Or.inl ⟨by kernel_rfl, fun w _ => by go_simp⟩) S0 ?_
      refine wpAnyH_take (i := 5) (v := .int .u64 (b1 : Int)) rfl (by kernel_rfl) (by kernel_rfl) (by kernel_rfl) (fun _ _ _ h => h) (yields_c (ty := 22) (fun w => by kernel_rfl) (p := ⟨gq, 1, none⟩) (.tmp 63) (by kernel_rfl) (by kernel_rfl) (by kernel_rfl) (fun w h => h.2.1.cell 1)) S0 ?_
      refine wpAnyH_take (i := 6) (v := .agg #[.int .u64 (n2 : Int), .int .i64 3, .int .u64 (b1 : Int)]) rfl (by kernel_rfl) (by kernel_rfl) (by kernel_rfl) (fun _ _ _ h => h) (Or.inl ⟨by kernel_rfl, fun w _ => by go_simp⟩) S0 ?_
      refine wpAnyH_take (i := 7) (v := .bool true) rfl (by kernel_rfl) (by kernel_rfl) (by kernel_rfl) (fun _ _ _ h => h) (Or.inl ⟨by kernel_rfl, fun w _ => by go_simp⟩) S0 ?_
      refine wpAnyH_take (i := 8) (v := .bool true) rfl (by kernel_rfl) (by kernel_rfl) (by kernel_rfl) (fun _ _ _ h => h) (Or.inl ⟨by kernel_rfl, fun w _ => by go_simp⟩) S0 ?_
      refine wpAnyH_take (i := 9) (v := .agg #[.int .u64 (n2 : Int), .int .i64 3, .int .u64 (b1 : Int)]) rfl (by kernel_rfl) (by kernel_rfl) (by kernel_rfl) (fun _ _ _ h => h) (by rw [← hbV.out]; exact yields_vload (g := gb) (.tmp 9) (by kernel_rfl) (by kernel_rfl) (by kernel_rfl) (fun w h => h.2.2.2)) S0 ?_
      have A1 : KV gp gq ga gb v a b b0 b1 (w7.drew.alloc (.cells #[.int .i64 0, .int .i64 1] 3)) := S0.after ((Below.refl _ _).alloc (Nat.le_refl _) _)
      refine wpAnyH_ready (rs := [10]) (by kernel_rfl) (by simp) (AllReadyH.cons rfl (fun K hK => ?_) AllReadyH.nil)
      go_simp
      refine hK.out _ _ A1 (fun _ => ?_)
      clear hK K
      refine wpAnyH_ready (rs := [11]) (by kernel_rfl) (by simp) (AllReadyH.cons rfl (fun K hK => ?_) AllReadyH.nil)
      go_simp
      ((with_reducible refine (kB.out w7).mono ?_); rintro x8 w8 ⟨rfl, z8⟩)
      have S1 := KV.after (w := w7.drew) S0 z8
      refine hK.out _ _ S1 (fun _ => ?_)
      clear hK K
      refine wpAnyH_take (i := 12) (v := .bool true) rfl (by kernel_rfl) (by kernel_rfl) (by kernel_rfl) (fun _ _ _ h => h) (Or.inl ⟨by kernel_rfl, fun w _ => by go_simp⟩) S1 ?_
      refine wpAnyH_take (i := 13) (v := .bool true) rfl (by kernel_rfl) (by kernel_rfl) (by kernel_rfl) (fun _ _ _ h => h) (Or.inl ⟨by kernel_rfl, fun w _ => by go_simp⟩) S1 ?_
      refine wpAnyH_take (i := 14) (v := .agg #[.int .u64 (a.n : Int), .int .i64 a.m, .int .u64 (a.b : Int)]) rfl (by kernel_rfl) (by kernel_rfl) (by kernel_rfl) (fun _ _ _ h => h) (yields_vload (g := ga) (.tmp 7) (by kernel_rfl) (by kernel_rfl) (by kernel_rfl) (fun w h => h.2.2.1)) S1 ?_
      refine wpAnyH_take (i := 15) (v := .int .i64 c) rfl (by kernel_rfl) (by kernel_rfl) (by kernel_rfl) (fun _ _ _ h => h) (Or.inl ⟨by kernel_rfl, fun w _ => by go_simp⟩) S1 ?_
      have A2 : KV gp gq ga gb v a b b0 b1 (w8.alloc (.cells #[.int .i64 c] 3)) := S1.after ((Below.refl _ _).alloc (Nat.le_refl _) _)
      refine wpAnyH_ready (rs := [16]) (by kernel_rfl) (by simp) (AllReadyH.cons rfl (fun K hK => ?_) AllReadyH.nil)
      go_simp
      refine hK.out _ _ A2 (fun _ => ?_)
      clear hK K
      refine wpAnyH_ready (rs := [17]) (by kernel_rfl) (by simp) (AllReadyH.cons rfl (fun K hK => ?_) AllReadyH.nil)
      go_simp
      ((with_reducible refine (kA.out w8).mono ?_); rintro x9 w9 ⟨rfl, z9⟩)
      have S2 := KV.after (w := w8) S1 z9
      refine hK.out _ _ S2 (fun _ => ?_)
      clear hK K
      refine wpAnyH_take (i := 18) (v := .bool true) rfl (by kernel_rfl) (by kernel_rfl) (by kernel_rfl) (fun _ _ _ h => h) (Or.inl ⟨by kernel_rfl, fun w _ => by go_simp⟩) S2 ?_
      refine wpAnyH_take (i := 19) (v := .bool true) rfl (by kernel_rfl) (by kernel_rfl) (by kernel_rfl) (fun _ _ _ h => h) (Or.inl ⟨by kernel_rfl, fun w _ => by go_simp⟩) S2 ?_
      refine wpAnyH_take (i := 20) (v := .agg #[.int .u64 (a.n : Int), .int .i64 a.m, .int .u64 (a.b : Int)]) rfl (by kernel_rfl) (by kernel_rfl) (by kernel_rfl) (fun _ _ _ h => h) (yields_vload (g := ga) (.tmp 7) (by kernel_rfl) (by kernel_rfl) (by kernel_rfl) (fun w h => h.2.2.1)) S2 ?_
      refine wpAnyH_take (i := 21) (v := .int .i64 c) rfl (by kernel_rfl) (by kernel_rfl) (by kernel_rfl) (fun _ _ _ h => h) (Or.inl ⟨by kernel_rfl, fun w _ => by go_simp⟩) S2 ?_
      refine wpAnyH_take (i := 22) (v := (.int .i64 c')) rfl (by kernel_rfl) (by kernel_rfl) (by kernel_rfl) (fun _ _ _ h => h) (Or.inl ⟨by kernel_rfl, fun w _ => by go_simp⟩) S2 ?_
      have A3 : KV gp gq ga gb v a b b0 b1 (w9.alloc (.cells #[.int .i64 c'] 3)) := S2.after ((Below.refl _ _).alloc (Nat.le_refl _) _)
      refine wpAnyH_ready (rs := [23]) (by kernel_rfl) (by simp) (AllReadyH.cons rfl (fun K hK => ?_) AllReadyH.nil)
      go_simp
      refine hK.out _ _ A3 (fun _ => ?_)
      clear hK K
      refine wpAnyH_ready (rs := [24]) (by kernel_rfl) (by simp) (AllReadyH.cons rfl (fun K hK => ?_) AllReadyH.nil)
      go_simp
      ((with_reducible refine (kC.out w9).mono ?_); rintro x10 w10 ⟨rfl, z10⟩)
      have S3 := KV.after (w := w9) S2 z10
      refine hK.out _ _ S3 (fun _ => ?_)
      clear hK K
      refine wpAnyH_take (i := 25) (v := .bool true) rfl (by kernel_rfl) (by kernel_rfl) (by kernel_rfl) (fun _ _ _ h => h) (Or.inl ⟨by kernel_rfl, fun w _ => by go_simp⟩) S3 ?_
      refine wpAnyH_take (i := 26) (v := .bool true) rfl (by kernel_rfl) (by kernel_rfl) (by kernel_rfl) (fun _ _ _ h => h) (Or.inl ⟨by kernel_rfl, fun w _ => by go_simp⟩) S3 ?_
      refine wpAnyH_take (i := 27) (v := .bool true) rfl (by kernel_rfl) (by kernel_rfl) (by kernel_rfl) (fun _ _ _ h => h) (Or.inl ⟨by kernel_rfl, fun w _ => by go_simp⟩) S3 ?_
      refine wpAnyH_take (i := 28) (v := .int .i64 0) rfl (by kernel_rfl) (by kernel_rfl) (by kernel_rfl) (fun _ _ _ h => h) (Or.inl ⟨by kernel_rfl, fun w _ => by go_simp⟩) S3 ?_
      refine wpAnyH_take (i := 29) (v := .bool true) rfl (by kernel_rfl) (by kernel_rfl) (by kernel_rfl) (fun _ _ _ h => h) (Or.inl ⟨by kernel_rfl, fun w _ => by go_simp⟩) S3 ?_
      refine wpAnyH_take (i := 30) (v := .bool true) rfl (by kernel_rfl) (by kernel_rfl) (by kernel_rfl) (fun _ _ _ h => h) (Or.inl ⟨by kernel_rfl, fun w _ => by go_simp⟩) S3 ?_
      refine wpAnyH_take (i := 31) (v := .bool true) rfl (by kernel_rfl) (by kernel_rfl) (by kernel_rfl) (fun _ _ _ h => h) (Or.inl ⟨by kernel_rfl, fun w _ => by go_simp⟩) S3 ?_
      refine wpAnyH_take (i := 32) (v := .int .i64 0) rfl (by kernel_rfl) (by kernel_rfl) (by kernel_rfl) (fun _ _ _ h => h) (Or.inl ⟨by kernel_rfl, fun w _ => by go_simp⟩) S3 ?_
      refine wpAnyH_take (i := 33) (v := .bool true) rfl (by kernel_rfl) (by kernel_rfl) (by kernel_rfl) (fun _ _ _ h => h) (Or.inl ⟨by kernel_rfl, fun w _ => by go_simp⟩) S3 ?_
      refine wpAnyH_take (i := 34) (v := .bool true) rfl (by kernel_rfl) (by kernel_rfl) (by kernel_rfl) (fun _ _ _ h => h) (Or.inl ⟨by kernel_rfl, fun w _ => by go_simp⟩) S3 ?_
      refine wpAnyH_take (i := 35) (v := .bool true) rfl (by kernel_rfl) (by kernel_rfl) (by kernel_rfl) (fun _ _ _ h => h) (Or.inl ⟨by kernel_rfl, fun w _ => by go_simp⟩) S3 ?_
      refine wpAnyH_take (i := 36) (v := .int .i64 0) rfl (by kernel_rfl) (by kernel_rfl) (by kernel_rfl) (fun _ _ _ h => h) (Or.inl ⟨by kernel_rfl, fun w _ => by go_simp⟩) S3 ?_
      refine wpAnyH_take (i := 37) (v := .bool true) rfl (by kernel_rfl) (by kernel_rfl) (by kernel_rfl) (fun _ _ _ h => h) (Or.inl ⟨by kernel_rfl, fun w _ => by go_simp⟩) S3 ?_
      refine wpAnyH_take (i := 38) (v := .bool true) rfl (by kernel_rfl) (by kernel_rfl) (by kernel_rfl) (fun _ _ _ h => h) (Or.inl ⟨by kernel_rfl, fun w _ => by go_simp⟩) S3 ?_
      refine wpAnyH_take (i := 39) (v := .bool true) rfl (by kernel_rfl) (by kernel_rfl) (by kernel_rfl) (fun _ _ _ h => h) (Or.inl ⟨by kernel_rfl, fun w _ => by go_simp⟩) S3 ?_
      refine wpAnyH_take (i := 40) (v := .pointer (some ⟨g, 0, none⟩)) rfl (by kernel_rfl) (by kernel_rfl) (by kernel_rfl) (fun _ _ _ h => h) (Or.inl ⟨by kernel_rfl, fun w _ => by go_simp⟩) S3 ?_
      refine wpAnyH_take (i := 41) (v := .agg #[.int .u64 (a.n : Int), .int .i64 a.m, .int .u64 (a.b : Int)]) rfl (by kernel_rfl) (by kernel_rfl) (by kernel_rfl) (fun _ _ _ h => h) (yields_vload (g := ga) (.tmp 7) (by kernel_rfl) (by kernel_rfl) (by kernel_rfl) (fun w h => h.2.2.1)) S3 ?_
      have Z10 : VTie w10 g b := ((Blk.after (w := w7.drew) Z7.out z8).after z9).after z10
      have t10 := Lib.hid (((t7.out.drew.trans (z8.mono t7.out.size)).trans (z9.mono (Nat.le_trans t7.out.size z8.size))).trans (z10.mono (Nat.le_trans (Nat.le_trans t7.out.size z8.size) z9.size)))
      refine wpAnyH_ready (rs := [42]) (by kernel_rfl) (by simp) (AllReadyH.cons rfl (fun K hK => ?_) AllReadyH.nil)
      go_simp
      ((with_reducible refine (tset_any (k := b) Z10 a).mono ?_); rw [HE.out.2.2.2.1, HE.out.2.2.2.2]; rintro x11 w11 ⟨rfl, y11, z11, o11⟩)
      have S11 := KV.set S3 o11 HNE.out.1 HNE.out.2.1 HNE.out.2.2.1 HNE.out.2.2.2.1
      refine hK.out _ _ S11 (fun _ => ?_)
      clear hK K
      have t11 := Lib.hid (t10.out.trans (z11.mono HNE.out.2.2.2.2))
      clear z11 o11
      refine wpAnyH_take (i := 43) (v := .bool true) rfl (by kernel_rfl) (by kernel_rfl) (by kernel_rfl) (fun _ _ _ h => h) (Or.inl ⟨by kernel_rfl, fun w _ => by go_simp⟩) S11 ?_
      refine wpAnyH_take (i := 44) (v := .bool true) rfl (by kernel_rfl) (by kernel_rfl) (by kernel_rfl) (fun _ _ _ h => h) (Or.inl ⟨by kernel_rfl, fun w _ => by go_simp⟩) S11 ?_
      refine wpAnyH_take (i := 45) (v := .bool true) rfl (by kernel_rfl) (by kernel_rfl) (by kernel_rfl) (fun _ _ _ h => h) (Or.inl ⟨by kernel_rfl, fun w _ => by go_simp⟩) S11 ?_
      refine wpAnyH_take (i := 46) (v := .pointer (some ⟨g, 0, none⟩)) rfl (by kernel_rfl) (by kernel_rfl) (by kernel_rfl) (fun _ _ _ h => h) (Or.inl ⟨by kernel_rfl, fun w _ => by go_simp⟩) S11 ?_
      refine wpAnyH_take (i := 48) (v := .agg #[.int .u64 (n2 : Int), .int .i64 3, .int .u64 (b1 : Int)]) rfl (by kernel_rfl) (by kernel_rfl) (by kernel_rfl) (fun _ _ _ h => h) (by rw [← hbV.out]; exact yields_vload (g := gb) (.tmp 9) (by kernel_rfl) (by kernel_rfl) (by kernel_rfl) (fun w h => h.2.2.2)) S11 ?_
      refine wpAnyH_ready (rs := [47]) (by kernel_rfl) (by simp) (AllReadyH.cons rfl (fun K hK => ?_) AllReadyH.nil)
      go_simp
      ((with_reducible refine (tget_any y11).mono ?_); rw [hbV.out]; rintro x12 w12 ⟨rfl, z12⟩)
      have S12 := S11.after z12
      refine hK.out _ _ S12 (fun _ => ?_)
      clear hK K
      refine wpAnyH_take (i := 49) (v := .bool true) rfl (by kernel_rfl) (by kernel_rfl) (by kernel_rfl) (fun _ _ _ h => h) (Or.inl ⟨by kernel_rfl, fun w _ => by go_simp⟩) S12 ?_
      refine wpAnyH_take (i := 50) (v := .bool true) rfl (by kernel_rfl) (by kernel_rfl) (by kernel_rfl) (fun _ _ _ h => h) (Or.inl ⟨by kernel_rfl, fun w _ => by go_simp⟩) S12 ?_
      have t12 := Lib.hid (t11.out.trans (z12.mono t11.out.size))
      refine wpAnyH_take (i := 51) (v := .bool true) rfl (by kernel_rfl) (by kernel_rfl) (by kernel_rfl) (fun _ _ _ h => h) (Or.inl ⟨by kernel_rfl, fun w _ => by go_simp⟩) S12 ?_
      refine wpAnyH_done (by kernel_rfl) ?_ _
      go_simp
      go_wp2_with fail
      go_ret
      exact ⟨rfl, t12.out⟩
  · have HZ := shrink_zero hok
    rw [HZ] at KS
    have KS : Hid (∀ w, Calls Try.prog 12 #[va v, .int .i64 c, .int .u64 (b0 : Int)] w fun e w' => e = .returned (.tuple #[.agg #[.int .u64 0, .int .i64 0, .int .u64 0], .int .i64 1]) ∧ Below w.heap.size w w') := KS
    clear hok HZ
    go_wp2_with (with_reducible refine wpl_vload (.tmp 3) rfl rfl P1'.out rfl ?_)
    ((with_reducible refine (KS.out _).mono ?_); rintro e2 w2 ⟨rfl, h2⟩)
    have T2 := Lib.hid (T1.out.trans (h2.mono T1.out.size))
    clear h2
    go_wp2
    go_ret
    exact ⟨rfl, T2.out.alloc T2.out.size _⟩
end Go.Proofs.Yticigjkaangkmaa

