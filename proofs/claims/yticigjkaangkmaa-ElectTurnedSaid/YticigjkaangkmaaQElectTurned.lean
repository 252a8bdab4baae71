/- The walk of ElectTurned: it answers true, and changes nothing that was there. No condition. -/
import Derived.Test.YticigjkaangkmaaQElectChooses
namespace Go.Proofs.Yticigjkaangkmaa
open Go Go.RowKit
/-- the members, turned round -/
def turnM (m : Int) : Int := m / 2 + 2 * (m % 2)
def turnV (t : VV) : VV := ⟨t.n, turnM t.m, t.b⟩
theorem turn_has {t : VV} (h : 0 ≤ t.m ∧ t.m ≤ 3) : (turnV t).has 0 = t.has 1 ∧ (turnV t).has 1 = t.has 0 := by
  rw [has_zero, has_one, has_zero, has_one]
  unfold turnV turnM
  constructor
  · congr 1; simp only [eq_iff_iff]; omega
  · congr 1; simp only [eq_iff_iff]; omega
theorem turn_right {t : VV} (h : 0 ≤ t.m ∧ t.m ≤ 3) : (turnV t).right = t.right := by
  unfold turnV turnM VV.right
  congr 1; simp only [eq_iff_iff]; omega
/-- with the chips, and the members, turned round, the other place is chosen -/
theorem choose_turned (t : VV) (a b : EC) (h : 0 ≤ t.m ∧ t.m ≤ 3) : (choose (turnV t) b a).2 = (choose t a b).2 ∧ ((choose t a b).2 = 0 → a.e ≠ b.e → (choose t a b).1.c = 1 - (choose (turnV t) b a).1.c ∧ (choose t a b).1.f = (choose (turnV t) b a).1.f ∧ (choose t a b).1.m = turnM (choose (turnV t) b a).1.m ∧ ((choose (turnV t) b a).1.c = 0 ∨ (choose (turnV t) b a).1.c = 1) ∧ ((choose (turnV t) b a).1.m = 1 ∨ (choose (turnV t) b a).1.m = 2)) := by
  obtain ⟨h0, h1⟩ := turn_has h
  have hr := turn_right h
  have e1 : EC.may (turnV t) b 0 = EC.may t b 1 := by unfold EC.may; rw [h0]; rfl
  have e2 : EC.may (turnV t) a 1 = EC.may t a 0 := by unfold EC.may; rw [h1]; rfl
  have e3 : EC.hurt (turnV t) b 0 = EC.hurt t b 1 := by unfold EC.hurt; rw [h0]
  have e4 : EC.hurt (turnV t) a 1 = EC.hurt t a 0 := by unfold EC.hurt; rw [h1]
  have hm : (turnV t).m = turnM t.m := rfl
  have hlast : a.e ≠ b.e → EC.last a b = false ∧ EC.last b a = false := fun hne => by
    unfold EC.last eqC
    exact ⟨decide_eq_false (fun q => hne q.1), decide_eq_false (fun q => hne q.1.symm)⟩
  unfold choose
  simp only [e1, e2, e3, e4, hr, hm]
  by_cases hn : t.right = false ∨ (a.holds = false ∧ b.holds = false)
  · have hn2 : t.right = false ∨ (b.holds = false ∧ a.holds = false) := by rcases hn with q | ⟨q1, q2⟩; exact .inl q; exact .inr ⟨q2, q1⟩
    rw [if_pos hn, if_pos hn2]
    exact ⟨rfl, fun q => by cases q⟩
  · have hn2 : ¬ (t.right = false ∨ (b.holds = false ∧ a.holds = false)) := by rintro (q | ⟨q1, q2⟩); exact hn (.inl q); exact hn (.inr ⟨q2, q1⟩)
    rw [if_neg hn, if_neg hn2]
    cases hx : EC.may t a 0 <;> cases hy : EC.may t b 1
    · simp only [and_self, if_true]
      refine ⟨?_, fun q => ?_⟩
      · congr 1; simp only [eq_iff_iff]; exact Or.comm
      · split at q <;> cases q
    · refine ⟨by simp, fun _ hne => ?_⟩
      simp [pickC, turnM]
      omega
    · refine ⟨by simp, fun _ hne => ?_⟩
      simp [pickC, turnM]
      omega
    · refine ⟨by simp, fun _ hne => ?_⟩
      obtain ⟨l1, l2⟩ := hlast hne
      simp only [l1, l2, pickC]
      by_cases hlt : a.e < b.e
      · have : ¬ b.e < a.e := by omega
        simp [hlt, this, turnM]
        omega
      · have : b.e < a.e := by omega
        simp [hlt, this, turnM]
        omega
set_option maxRecDepth 100000 in
set_option maxHeartbeats 4000000 in
theorem electTurned_any (u v x : Value) (w : World) (hu : ∃ t, IsView u t) (hv : ∃ a, IsChip v a) (hx : ∃ b, IsChip x b) :
    Calls Try.prog 8 #[u, v, x] w fun e w' => e = .returned (.bool true) ∧ Below w.heap.size w w' := by
  obtain ⟨t, rfl, _⟩ := hu
  obtain ⟨a, rfl, ha⟩ := hv
  obtain ⟨b, rfl, hb⟩ := hx
  have HLA := Lib.hid (crow_len ha)
  have HLB := Lib.hid (crow_len hb)
  have xa3 := Lib.hid (crow_3 a)
  have xb3 := Lib.hid (crow_3 b)
  have K1 : Hid (∀ W n, W.heap.size = n → Calls Try.prog 22 #[va t, .slice (some ⟨n, 0, none⟩) 2 2] (W.alloc (.cells (crow a ++ crow b).toArray 52)) fun e w' => e = .returned (.tuple #[.agg #[.int .i64 (choose t a b).1.c, .int .i64 (choose t a b).1.m, .bool (choose t a b).1.f], .int .i64 (choose t a b).2]) ∧ Below W.heap.size W w') := Lib.hid (fun W n hn => choose2_at t ha hb W n hn)
  have K2 : Hid (∀ W n, W.heap.size = n → Calls Try.prog 22 #[va (turnV t), .slice (some ⟨n, 0, none⟩) 2 2] (W.alloc (.cells (crow b ++ crow a).toArray 52)) fun e w' => e = .returned (.tuple #[.agg #[.int .i64 (choose (turnV t) b a).1.c, .int .i64 (choose (turnV t) b a).1.m, .bool (choose (turnV t) b a).1.f], .int .i64 (choose (turnV t) b a).2]) ∧ Below W.heap.size W w') := Lib.hid (fun W n hn => choose2_at (turnV t) hb ha W n hn)
  have HT := Lib.hid (choose_turned t a b)
  obtain ⟨ra, hra⟩ : ∃ ra, crow a = ra := ⟨_, rfl⟩
  obtain ⟨rb, hrb⟩ : ∃ rb, crow b = rb := ⟨_, rfl⟩
  rw [hra] at K1 K2 HLA xa3
  rw [hrb] at K1 K2 HLB xb3
  rw [hra, hrb]
  clear hra hrb
  by_cases hout : t.m < 0 ∨ 3 < t.m
  · obtain ⟨tn, tm, tb⟩ := t
    have hout : tm < 0 ∨ 3 < tm := hout
    obtain ⟨t0, V0, A0, B0⟩ := boxes3 w ⟨tn, tm, tb⟩ ra rb
    have t0 := Lib.hid t0
    have V0 := Lib.hid V0
    clear A0 B0
    rcases hout with h1 | h1
    · have d1 : decide (tm < 0) = true := decide_eq_true h1
      go_enter Try.func8, Try.ntmps8
      go_wp2_with fail
      ((with_reducible refine (espeaks_any _).mono ?_); rintro e w1 ⟨rfl, h9⟩)
      have c1 := (V0.out.after h9).cell 1
      simp only [List.getElem?_cons_zero, List.getElem?_cons_succ] at c1
      have t1 := Lib.hid (t0.out.trans (h9.mono t0.out.size))
      clear h9
      go_wp2
      go_ret
      exact ⟨rfl, t1.out⟩
    · have d1 : decide (tm < 0) = false := decide_eq_false (by omega)
      have d2 : decide (3 < tm) = true := decide_eq_true h1
      go_enter Try.func8, Try.ntmps8
      go_wp2_with fail
      ((with_reducible refine (espeaks_any _).mono ?_); rintro e w1 ⟨rfl, h9⟩)
      have c1 := (V0.out.after h9).cell 1
      simp only [List.getElem?_cons_zero, List.getElem?_cons_succ] at c1
      have t1 := Lib.hid (t0.out.trans (h9.mono t0.out.size))
      clear h9 h1
      go_wp2
      go_ret
      exact ⟨rfl, t1.out⟩
  have hin : 0 ≤ t.m ∧ t.m ≤ 3 := by omega
  have hT := HT.out hin
  rw [hT.1] at K2
  have hT2 := hT.2
  obtain ⟨pc, hpc⟩ : ∃ x, (choose t a b).1.c = x := ⟨_, rfl⟩
  obtain ⟨pm, hpm⟩ : ∃ x, (choose t a b).1.m = x := ⟨_, rfl⟩
  obtain ⟨pf, hpf⟩ : ∃ x, (choose t a b).1.f = x := ⟨_, rfl⟩
  obtain ⟨er, her⟩ : ∃ x, (choose t a b).2 = x := ⟨_, rfl⟩
  obtain ⟨qc, hqc⟩ : ∃ x, (choose (turnV t) b a).1.c = x := ⟨_, rfl⟩
  obtain ⟨qm, hqm⟩ : ∃ x, (choose (turnV t) b a).1.m = x := ⟨_, rfl⟩
  obtain ⟨qf, hqf⟩ : ∃ x, (choose (turnV t) b a).1.f = x := ⟨_, rfl⟩
  rw [hpc, hpm, hpf, her, hqc, hqm, hqf] at hT2
  rw [hpc, hpm, hpf, her] at K1
  rw [hqc, hqm, hqf, her] at K2
  have HT2 := Lib.hid hT2
  clear hpc hpm hpf her hqc hqm hqf hT hT2
  clear HT hout
  have hcase : t.m = 0 ∨ t.m = 1 ∨ t.m = 2 ∨ t.m = 3 := by omega
  obtain ⟨tn, tm, tb⟩ := t
  have hcase : tm = 0 ∨ tm = 1 ∨ tm = 2 ∨ tm = 3 := hcase
  clear hin
  have g1 : bits .and .i64 0 1 = 0 := by decide
  have g2 : bits .and .i64 1 1 = 1 := by decide
  have g3 : bits .and .i64 2 1 = 0 := by decide
  have g4 : bits .and .i64 3 1 = 1 := by decide
  have g5 : bits .or .i64 0 0 = 0 := by decide
  have g6 : bits .or .i64 0 2 = 2 := by decide
  have g7 : bits .or .i64 1 0 = 1 := by decide
  have g8 : bits .or .i64 1 2 = 3 := by decide
  have g9 : wrap64 0 = 0 := by decide +kernel
  have g10 : wrap64 2 = 2 := by decide +kernel
  rcases hcase with rfl | rfl | rfl | rfl
  · -- members 0
    have K2 : Hid (∀ W n, W.heap.size = n → Calls Try.prog 22 #[.agg #[.int .u64 (tn : Int), .int .i64 0, .int .u64 (tb : Int)], .slice (some ⟨n, 0, none⟩) 2 2] (W.alloc (.cells (rb ++ ra).toArray 52)) fun e w' => e = .returned (.tuple #[.agg #[.int .i64 qc, .int .i64 qm, .bool qf], .int .i64 er]) ∧ Below W.heap.size W w') := K2
    have K1 : Hid (∀ W n, W.heap.size = n → Calls Try.prog 22 #[.agg #[.int .u64 (tn : Int), .int .i64 0, .int .u64 (tb : Int)], .slice (some ⟨n, 0, none⟩) 2 2] (W.alloc (.cells (ra ++ rb).toArray 52)) fun e w' => e = .returned (.tuple #[.agg #[.int .i64 pc, .int .i64 pm, .bool pf], .int .i64 er]) ∧ Below W.heap.size W w') := K1
    obtain ⟨t0, V0, A0, B0⟩ := boxes3 w ⟨tn, 0, tb⟩ ra rb
    have t0 := Lib.hid t0
    have V0 := Lib.hid V0
    have A0 := Lib.hid A0
    have B0 := Lib.hid B0
    have V0 : Hid (Blk (((w.alloc (.cells #[.int .u64 (tn : Int), .int .i64 0, .int .u64 (tb : Int)] 24)).alloc (.cells ra.toArray 52)).alloc (.cells rb.toArray 52)) w.heap.size 24 [.int .u64 (tn : Int), .int .i64 0, .int .u64 (tb : Int)]) := V0
    go_enter Try.func8, Try.ntmps8
    go_wp2_with fail
    ((with_reducible refine (espeaks_any _).mono ?_); rintro e w1 ⟨rfl, h1⟩)
    have V1 := Lib.hid (V0.out.after h1)
    have A1 := Lib.hid (A0.out.after h1)
    have B1 := Lib.hid (B0.out.after h1)
    have t1 := Lib.hid (t0.out.trans (h1.mono t0.out.size))
    clear h1 V0 A0 B0 t0
    have c1 := V1.out.cell 1
    simp only [List.getElem?_cons_zero, List.getElem?_cons_succ] at c1
    have c2 : ∀ ob, (w1.alloc ob).cell? ⟨w.heap.size, 1, none⟩ = some (.int .i64 0) := fun ob => (V1.out.alloc ob).cell 1
    have D2 := Lib.hid (Blk.new w1 24 [.int .u64 (tn : Int), .int .i64 0, .int .u64 (tb : Int)])
    have V2 := Lib.hid (V1.out.alloc (.cells #[.int .u64 (tn : Int), .int .i64 0, .int .u64 (tb : Int)] 24))
    have A2 := Lib.hid (A1.out.alloc (.cells #[.int .u64 (tn : Int), .int .i64 0, .int .u64 (tb : Int)] 24))
    have B2 := Lib.hid (B1.out.alloc (.cells #[.int .u64 (tn : Int), .int .i64 0, .int .u64 (tb : Int)] 24))
    have t2 := Lib.hid (t1.out.alloc t1.out.size (.cells #[.int .u64 (tn : Int), .int .i64 0, .int .u64 (tb : Int)] 24))
    go_wp2_with (first | (with_reducible refine wpl_vload (.tmp 3) rfl rfl V2.out rfl ?_) | (with_reducible refine wpl_cload (.tmp 4) rfl rfl A2.out 0 (all41 HLA.out) HLA.out rfl ?_) | (with_reducible refine wpl_cload (.tmp 5) rfl rfl B2.out 0 (all41 HLB.out) HLB.out rfl ?_) | (with_reducible refine wpl_vload (.tmp 3) rfl rfl V1.out rfl ?_) | (with_reducible refine wpl_slice2 (.tmp 34) (.tmp 35) rfl rfl rfl rfl HLA.out HLB.out ?_))
    ((with_reducible refine (K1.out _ _ (World.size_alloc _ _)).mono ?_); rintro e w3 ⟨rfl, h3⟩)
    clear V1 A1 B1 t1 c1 c2
    have N3 := Lib.hid (Blk.new w3 54 [.int .i64 pc, .int .i64 pm, .bool pf])
    have V3 := Lib.hid ((V2.out.after h3).alloc (.cells #[.int .i64 pc, .int .i64 pm, .bool pf] 54))
    have A3 := Lib.hid ((A2.out.after h3).alloc (.cells #[.int .i64 pc, .int .i64 pm, .bool pf] 54))
    have B3 := Lib.hid ((B2.out.after h3).alloc (.cells #[.int .i64 pc, .int .i64 pm, .bool pf] 54))
    have D3 := Lib.hid ((D2.out.after h3).alloc (.cells #[.int .i64 pc, .int .i64 pm, .bool pf] 54))
    have tx3 := Lib.hid (t2.out.trans (h3.mono t2.out.size))
    have t3 := Lib.hid (tx3.out.alloc tx3.out.size (.cells #[.int .i64 pc, .int .i64 pm, .bool pf] 54))
    clear tx3
    clear h3 V2 A2 B2 D2 t2
    go_wp2_with (first | (with_reducible refine wpl_vload (.tmp 7) rfl rfl D3.out rfl ?_) | (with_reducible refine wpl_cload (.tmp 4) rfl rfl A3.out 0 (all41 HLA.out) HLA.out rfl ?_) | (with_reducible refine wpl_cload (.tmp 5) rfl rfl B3.out 0 (all41 HLB.out) HLB.out rfl ?_) | (with_reducible refine wpl_slice2 (.tmp 42) (.tmp 43) rfl rfl rfl rfl HLB.out HLA.out ?_))
    ((with_reducible refine (K2.out _ _ (World.size_alloc _ _)).mono ?_); rintro e w4 ⟨rfl, h4⟩)
    have NB := Lib.hid (N3.out.after h4)
    have AB := Lib.hid (A3.out.after h4)
    have BB := Lib.hid (B3.out.after h4)
    have V4 := Lib.hid ((V3.out.after h4).alloc (.cells #[.int .i64 qc, .int .i64 qm, .bool qf] 54))
    have A4 := Lib.hid ((A3.out.after h4).alloc (.cells #[.int .i64 qc, .int .i64 qm, .bool qf] 54))
    have B4 := Lib.hid ((B3.out.after h4).alloc (.cells #[.int .i64 qc, .int .i64 qm, .bool qf] 54))
    have D4 := Lib.hid ((D3.out.after h4).alloc (.cells #[.int .i64 qc, .int .i64 qm, .bool qf] 54))
    have tx4 := Lib.hid (t3.out.trans (h4.mono t3.out.size))
    have t4 := Lib.hid (tx4.out.alloc tx4.out.size (.cells #[.int .i64 qc, .int .i64 qm, .bool qf] 54))
    clear tx4
    clear h4 V3 A3 B3 D3 t3
    have ea : ∀ ob, (w4.alloc ob).cell? ⟨w.heap.size + 1, 3, none⟩ = some (.int .u64 (a.e : Int)) := fun ob => ((AB.out.alloc ob).cell 3).trans xa3.out
    have eb : ∀ ob, (w4.alloc ob).cell? ⟨w.heap.size + 1 + 1, 3, none⟩ = some (.int .u64 (b.e : Int)) := fun ob => ((BB.out.alloc ob).cell 3).trans xb3.out
    have c0 : ∀ ob, (w4.alloc ob).cell? ⟨w3.heap.size, 0, none⟩ = some (.int .i64 pc) := fun ob => (NB.out.alloc ob).cell 0
    have c1 : ∀ ob, (w4.alloc ob).cell? ⟨w3.heap.size, 1, none⟩ = some (.int .i64 pm) := fun ob => (NB.out.alloc ob).cell 1
    have c2 : ∀ ob, (w4.alloc ob).cell? ⟨w3.heap.size, 2, none⟩ = some (.bool pf) := fun ob => (NB.out.alloc ob).cell 2
    by_cases her : er = 0
    · by_cases hee : a.e = b.e
      · have d1 : ((a.e : Int) == (b.e : Int)) = true := by simp [hee]
        subst her
        clear hee
        go_wp2
        go_ret
        exact ⟨rfl, t4.out⟩
      · obtain ⟨f1, f2, f3, f4, f5⟩ := HT2.out her hee
        have d1 : ((a.e : Int) == (b.e : Int)) = false := by simp; omega
        subst her
        clear hee HT2
        subst f2
        rcases f4 with rfl | rfl <;> rcases f5 with rfl | rfl
        · obtain rfl : pc = 1 := by rw [f1]; rfl
          obtain rfl : pm = 2 := by rw [f3]; rfl
          clear f1 f3
          go_wp2
          go_ret
          exact ⟨rfl, t4.out⟩
        · obtain rfl : pc = 1 := by rw [f1]; rfl
          obtain rfl : pm = 1 := by rw [f3]; rfl
          clear f1 f3
          go_wp2
          go_ret
          exact ⟨rfl, t4.out⟩
        · obtain rfl : pc = 0 := by rw [f1]; rfl
          obtain rfl : pm = 2 := by rw [f3]; rfl
          clear f1 f3
          go_wp2
          go_ret
          exact ⟨rfl, t4.out⟩
        · obtain rfl : pc = 0 := by rw [f1]; rfl
          obtain rfl : pm = 1 := by rw [f3]; rfl
          clear f1 f3
          go_wp2
          go_ret
          exact ⟨rfl, t4.out⟩
    · clear HT2
      go_wp2
      go_ret
      exact ⟨rfl, t4.out⟩
  · -- members 1
    have K2 : Hid (∀ W n, W.heap.size = n → Calls Try.prog 22 #[.agg #[.int .u64 (tn : Int), .int .i64 2, .int .u64 (tb : Int)], .slice (some ⟨n, 0, none⟩) 2 2] (W.alloc (.cells (rb ++ ra).toArray 52)) fun e w' => e = .returned (.tuple #[.agg #[.int .i64 qc, .int .i64 qm, .bool qf], .int .i64 er]) ∧ Below W.heap.size W w') := K2
    have K1 : Hid (∀ W n, W.heap.size = n → Calls Try.prog 22 #[.agg #[.int .u64 (tn : Int), .int .i64 1, .int .u64 (tb : Int)], .slice (some ⟨n, 0, none⟩) 2 2] (W.alloc (.cells (ra ++ rb).toArray 52)) fun e w' => e = .returned (.tuple #[.agg #[.int .i64 pc, .int .i64 pm, .bool pf], .int .i64 er]) ∧ Below W.heap.size W w') := K1
    obtain ⟨t0, V0, A0, B0⟩ := boxes3 w ⟨tn, 1, tb⟩ ra rb
    have t0 := Lib.hid t0
    have V0 := Lib.hid V0
    have A0 := Lib.hid A0
    have B0 := Lib.hid B0
    have V0 : Hid (Blk (((w.alloc (.cells #[.int .u64 (tn : Int), .int .i64 1, .int .u64 (tb : Int)] 24)).alloc (.cells ra.toArray 52)).alloc (.cells rb.toArray 52)) w.heap.size 24 [.int .u64 (tn : Int), .int .i64 1, .int .u64 (tb : Int)]) := V0
    go_enter Try.func8, Try.ntmps8
    go_wp2_with fail
    ((with_reducible refine (espeaks_any _).mono ?_); rintro e w1 ⟨rfl, h1⟩)
    have V1 := Lib.hid (V0.out.after h1)
    have A1 := Lib.hid (A0.out.after h1)
    have B1 := Lib.hid (B0.out.after h1)
    have t1 := Lib.hid (t0.out.trans (h1.mono t0.out.size))
    clear h1 V0 A0 B0 t0
    have c1 := V1.out.cell 1
    simp only [List.getElem?_cons_zero, List.getElem?_cons_succ] at c1
    have c2 : ∀ ob, (w1.alloc ob).cell? ⟨w.heap.size, 1, none⟩ = some (.int .i64 1) := fun ob => (V1.out.alloc ob).cell 1
    have D2 := Lib.hid (Blk.new w1 24 [.int .u64 (tn : Int), .int .i64 2, .int .u64 (tb : Int)])
    have V2 := Lib.hid (V1.out.alloc (.cells #[.int .u64 (tn : Int), .int .i64 2, .int .u64 (tb : Int)] 24))
    have A2 := Lib.hid (A1.out.alloc (.cells #[.int .u64 (tn : Int), .int .i64 2, .int .u64 (tb : Int)] 24))
    have B2 := Lib.hid (B1.out.alloc (.cells #[.int .u64 (tn : Int), .int .i64 2, .int .u64 (tb : Int)] 24))
    have t2 := Lib.hid (t1.out.alloc t1.out.size (.cells #[.int .u64 (tn : Int), .int .i64 2, .int .u64 (tb : Int)] 24))
    go_wp2_with (first | (with_reducible refine wpl_vload (.tmp 3) rfl rfl V2.out rfl ?_) | (with_reducible refine wpl_cload (.tmp 4) rfl rfl A2.out 0 (all41 HLA.out) HLA.out rfl ?_) | (with_reducible refine wpl_cload (.tmp 5) rfl rfl B2.out 0 (all41 HLB.out) HLB.out rfl ?_) | (with_reducible refine wpl_vload (.tmp 3) rfl rfl V1.out rfl ?_) | (with_reducible refine wpl_slice2 (.tmp 34) (.tmp 35) rfl rfl rfl rfl HLA.out HLB.out ?_))
    ((with_reducible refine (K1.out _ _ (World.size_alloc _ _)).mono ?_); rintro e w3 ⟨rfl, h3⟩)
    clear V1 A1 B1 t1 c1 c2
    have N3 := Lib.hid (Blk.new w3 54 [.int .i64 pc, .int .i64 pm, .bool pf])
    have V3 := Lib.hid ((V2.out.after h3).alloc (.cells #[.int .i64 pc, .int .i64 pm, .bool pf] 54))
    have A3 := Lib.hid ((A2.out.after h3).alloc (.cells #[.int .i64 pc, .int .i64 pm, .bool pf] 54))
    have B3 := Lib.hid ((B2.out.after h3).alloc (.cells #[.int .i64 pc, .int .i64 pm, .bool pf] 54))
    have D3 := Lib.hid ((D2.out.after h3).alloc (.cells #[.int .i64 pc, .int .i64 pm, .bool pf] 54))
    have tx3 := Lib.hid (t2.out.trans (h3.mono t2.out.size))
    have t3 := Lib.hid (tx3.out.alloc tx3.out.size (.cells #[.int .i64 pc, .int .i64 pm, .bool pf] 54))
    clear tx3
    clear h3 V2 A2 B2 D2 t2
    go_wp2_with (first | (with_reducible refine wpl_vload (.tmp 7) rfl rfl D3.out rfl ?_) | (with_reducible refine wpl_cload (.tmp 4) rfl rfl A3.out 0 (all41 HLA.out) HLA.out rfl ?_) | (with_reducible refine wpl_cload (.tmp 5) rfl rfl B3.out 0 (all41 HLB.out) HLB.out rfl ?_) | (with_reducible refine wpl_slice2 (.tmp 42) (.tmp 43) rfl rfl rfl rfl HLB.out HLA.out ?_))
    ((with_reducible refine (K2.out _ _ (World.size_alloc _ _)).mono ?_); rintro e w4 ⟨rfl, h4⟩)
    have NB := Lib.hid (N3.out.after h4)
    have AB := Lib.hid (A3.out.after h4)
    have BB := Lib.hid (B3.out.after h4)
    have V4 := Lib.hid ((V3.out.after h4).alloc (.cells #[.int .i64 qc, .int .i64 qm, .bool qf] 54))
    have A4 := Lib.hid ((A3.out.after h4).alloc (.cells #[.int .i64 qc, .int .i64 qm, .bool qf] 54))
    have B4 := Lib.hid ((B3.out.after h4).alloc (.cells #[.int .i64 qc, .int .i64 qm, .bool qf] 54))
    have D4 := Lib.hid ((D3.out.after h4).alloc (.cells #[.int .i64 qc, .int .i64 qm, .bool qf] 54))
    have tx4 := Lib.hid (t3.out.trans (h4.mono t3.out.size))
    have t4 := Lib.hid (tx4.out.alloc tx4.out.size (.cells #[.int .i64 qc, .int .i64 qm, .bool qf] 54))
    clear tx4
    clear h4 V3 A3 B3 D3 t3
    have ea : ∀ ob, (w4.alloc ob).cell? ⟨w.heap.size + 1, 3, none⟩ = some (.int .u64 (a.e : Int)) := fun ob => ((AB.out.alloc ob).cell 3).trans xa3.out
    have eb : ∀ ob, (w4.alloc ob).cell? ⟨w.heap.size + 1 + 1, 3, none⟩ = some (.int .u64 (b.e : Int)) := fun ob => ((BB.out.alloc ob).cell 3).trans xb3.out
    have c0 : ∀ ob, (w4.alloc ob).cell? ⟨w3.heap.size, 0, none⟩ = some (.int .i64 pc) := fun ob => (NB.out.alloc ob).cell 0
    have c1 : ∀ ob, (w4.alloc ob).cell? ⟨w3.heap.size, 1, none⟩ = some (.int .i64 pm) := fun ob => (NB.out.alloc ob).cell 1
    have c2 : ∀ ob, (w4.alloc ob).cell? ⟨w3.heap.size, 2, none⟩ = some (.bool pf) := fun ob => (NB.out.alloc ob).cell 2
    by_cases her : er = 0
    · by_cases hee : a.e = b.e
      · have d1 : ((a.e : Int) == (b.e : Int)) = true := by simp [hee]
        subst her
        clear hee
        go_wp2
        go_ret
        exact ⟨rfl, t4.out⟩
      · obtain ⟨f1, f2, f3, f4, f5⟩ := HT2.out her hee
        have d1 : ((a.e : Int) == (b.e : Int)) = false := by simp; omega
        subst her
        clear hee HT2
        subst f2
        rcases f4 with rfl | rfl <;> rcases f5 with rfl | rfl
        · obtain rfl : pc = 1 := by rw [f1]; rfl
          obtain rfl : pm = 2 := by rw [f3]; rfl
          clear f1 f3
          go_wp2
          go_ret
          exact ⟨rfl, t4.out⟩
        · obtain rfl : pc = 1 := by rw [f1]; rfl
          obtain rfl : pm = 1 := by rw [f3]; rfl
          clear f1 f3
          go_wp2
          go_ret
          exact ⟨rfl, t4.out⟩
        · obtain rfl : pc = 0 := by rw [f1]; rfl
          obtain rfl : pm = 2 := by rw [f3]; rfl
          clear f1 f3
          go_wp2
          go_ret
          exact ⟨rfl, t4.out⟩
        · obtain rfl : pc = 0 := by rw [f1]; rfl
          obtain rfl : pm = 1 := by rw [f3]; rfl
          clear f1 f3
          go_wp2
          go_ret
          exact ⟨rfl, t4.out⟩
    · clear HT2
      go_wp2
      go_ret
      exact ⟨rfl, t4.out⟩
  · -- members 2
    have K2 : Hid (∀ W n, W.heap.size = n → Calls Try.prog 22 #[.agg #[.int .u64 (tn : Int), .int .i64 1, .int .u64 (tb : Int)], .slice (some ⟨n, 0, none⟩) 2 2] (W.alloc (.cells (rb ++ ra).toArray 52)) fun e w' => e = .returned (.tuple #[.agg #[.int .i64 qc, .int .i64 qm, .bool qf], .int .i64 er]) ∧ Below W.heap.size W w') := K2
    have K1 : Hid (∀ W n, W.heap.size = n → Calls Try.prog 22 #[.agg #[.int .u64 (tn : Int), .int .i64 2, .int .u64 (tb : Int)], .slice (some ⟨n, 0, none⟩) 2 2] (W.alloc (.cells (ra ++ rb).toArray 52)) fun e w' => e = .returned (.tuple #[.agg #[.int .i64 pc, .int .i64 pm, .bool pf], .int .i64 er]) ∧ Below W.heap.size W w') := K1
    obtain ⟨t0, V0, A0, B0⟩ := boxes3 w ⟨tn, 2, tb⟩ ra rb
    have t0 := Lib.hid t0
    have V0 := Lib.hid V0
    have A0 := Lib.hid A0
    have B0 := Lib.hid B0
    have V0 : Hid (Blk (((w.alloc (.cells #[.int .u64 (tn : Int), .int .i64 2, .int .u64 (tb : Int)] 24)).alloc (.cells ra.toArray 52)).alloc (.cells rb.toArray 52)) w.heap.size 24 [.int .u64 (tn : Int), .int .i64 2, .int .u64 (tb : Int)]) := V0
    go_enter Try.func8, Try.ntmps8
    go_wp2_with fail
    ((with_reducible refine (espeaks_any _).mono ?_); rintro e w1 ⟨rfl, h1⟩)
    have V1 := Lib.hid (V0.out.after h1)
    have A1 := Lib.hid (A0.out.after h1)
    have B1 := Lib.hid (B0.out.after h1)
    have t1 := Lib.hid (t0.out.trans (h1.mono t0.out.size))
    clear h1 V0 A0 B0 t0
    have c1 := V1.out.cell 1
    simp only [List.getElem?_cons_zero, List.getElem?_cons_succ] at c1
    have c2 : ∀ ob, (w1.alloc ob).cell? ⟨w.heap.size, 1, none⟩ = some (.int .i64 2) := fun ob => (V1.out.alloc ob).cell 1
    have D2 := Lib.hid (Blk.new w1 24 [.int .u64 (tn : Int), .int .i64 1, .int .u64 (tb : Int)])
    have V2 := Lib.hid (V1.out.alloc (.cells #[.int .u64 (tn : Int), .int .i64 1, .int .u64 (tb : Int)] 24))
    have A2 := Lib.hid (A1.out.alloc (.cells #[.int .u64 (tn : Int), .int .i64 1, .int .u64 (tb : Int)] 24))
    have B2 := Lib.hid (B1.out.alloc (.cells #[.int .u64 (tn : Int), .int .i64 1, .int .u64 (tb : Int)] 24))
    have t2 := Lib.hid (t1.out.alloc t1.out.size (.cells #[.int .u64 (tn : Int), .int .i64 1, .int .u64 (tb : Int)] 24))
    go_wp2_with (first | (with_reducible refine wpl_vload (.tmp 3) rfl rfl V2.out rfl ?_) | (with_reducible refine wpl_cload (.tmp 4) rfl rfl A2.out 0 (all41 HLA.out) HLA.out rfl ?_) | (with_reducible refine wpl_cload (.tmp 5) rfl rfl B2.out 0 (all41 HLB.out) HLB.out rfl ?_) | (with_reducible refine wpl_vload (.tmp 3) rfl rfl V1.out rfl ?_) | (with_reducible refine wpl_slice2 (.tmp 34) (.tmp 35) rfl rfl rfl rfl HLA.out HLB.out ?_))
    ((with_reducible refine (K1.out _ _ (World.size_alloc _ _)).mono ?_); rintro e w3 ⟨rfl, h3⟩)
    clear V1 A1 B1 t1 c1 c2
    have N3 := Lib.hid (Blk.new w3 54 [.int .i64 pc, .int .i64 pm, .bool pf])
    have V3 := Lib.hid ((V2.out.after h3).alloc (.cells #[.int .i64 pc, .int .i64 pm, .bool pf] 54))
    have A3 := Lib.hid ((A2.out.after h3).alloc (.cells #[.int .i64 pc, .int .i64 pm, .bool pf] 54))
    have B3 := Lib.hid ((B2.out.after h3).alloc (.cells #[.int .i64 pc, .int .i64 pm, .bool pf] 54))
    have D3 := Lib.hid ((D2.out.after h3).alloc (.cells #[.int .i64 pc, .int .i64 pm, .bool pf] 54))
    have tx3 := Lib.hid (t2.out.trans (h3.mono t2.out.size))
    have t3 := Lib.hid (tx3.out.alloc tx3.out.size (.cells #[.int .i64 pc, .int .i64 pm, .bool pf] 54))
    clear tx3
    clear h3 V2 A2 B2 D2 t2
    go_wp2_with (first | (with_reducible refine wpl_vload (.tmp 7) rfl rfl D3.out rfl ?_) | (with_reducible refine wpl_cload (.tmp 4) rfl rfl A3.out 0 (all41 HLA.out) HLA.out rfl ?_) | (with_reducible refine wpl_cload (.tmp 5) rfl rfl B3.out 0 (all41 HLB.out) HLB.out rfl ?_) | (with_reducible refine wpl_slice2 (.tmp 42) (.tmp 43) rfl rfl rfl rfl HLB.out HLA.out ?_))
    ((with_reducible refine (K2.out _ _ (World.size_alloc _ _)).mono ?_); rintro e w4 ⟨rfl, h4⟩)
    have NB := Lib.hid (N3.out.after h4)
    have AB := Lib.hid (A3.out.after h4)
    have BB := Lib.hid (B3.out.after h4)
    have V4 := Lib.hid ((V3.out.after h4).alloc (.cells #[.int .i64 qc, .int .i64 qm, .bool qf] 54))
    have A4 := Lib.hid ((A3.out.after h4).alloc (.cells #[.int .i64 qc, .int .i64 qm, .bool qf] 54))
    have B4 := Lib.hid ((B3.out.after h4).alloc (.cells #[.int .i64 qc, .int .i64 qm, .bool qf] 54))
    have D4 := Lib.hid ((D3.out.after h4).alloc (.cells #[.int .i64 qc, .int .i64 qm, .bool qf] 54))
    have tx4 := Lib.hid (t3.out.trans (h4.mono t3.out.size))
    have t4 := Lib.hid (tx4.out.alloc tx4.out.size (.cells #[.int .i64 qc, .int .i64 qm, .bool qf] 54))
    clear tx4
    clear h4 V3 A3 B3 D3 t3
    have ea : ∀ ob, (w4.alloc ob).cell? ⟨w.heap.size + 1, 3, none⟩ = some (.int .u64 (a.e : Int)) := fun ob => ((AB.out.alloc ob).cell 3).trans xa3.out
    have eb : ∀ ob, (w4.alloc ob).cell? ⟨w.heap.size + 1 + 1, 3, none⟩ = some (.int .u64 (b.e : Int)) := fun ob => ((BB.out.alloc ob).cell 3).trans xb3.out
    have c0 : ∀ ob, (w4.alloc ob).cell? ⟨w3.heap.size, 0, none⟩ = some (.int .i64 pc) := fun ob => (NB.out.alloc ob).cell 0
    have c1 : ∀ ob, (w4.alloc ob).cell? ⟨w3.heap.size, 1, none⟩ = some (.int .i64 pm) := fun ob => (NB.out.alloc ob).cell 1
    have c2 : ∀ ob, (w4.alloc ob).cell? ⟨w3.heap.size, 2, none⟩ = some (.bool pf) := fun ob => (NB.out.alloc ob).cell 2
    by_cases her : er = 0
    · by_cases hee : a.e = b.e
      · have d1 : ((a.e : Int) == (b.e : Int)) = true := by simp [hee]
        subst her
        clear hee
        go_wp2
        go_ret
        exact ⟨rfl, t4.out⟩
      · obtain ⟨f1, f2, f3, f4, f5⟩ := HT2.out her hee
        have d1 : ((a.e : Int) == (b.e : Int)) = false := by simp; omega
        subst her
        clear hee HT2
        subst f2
        rcases f4 with rfl | rfl <;> rcases f5 with rfl | rfl
        · obtain rfl : pc = 1 := by rw [f1]; rfl
          obtain rfl : pm = 2 := by rw [f3]; rfl
          clear f1 f3
          go_wp2
          go_ret
          exact ⟨rfl, t4.out⟩
        · obtain rfl : pc = 1 := by rw [f1]; rfl
          obtain rfl : pm = 1 := by rw [f3]; rfl
          clear f1 f3
          go_wp2
          go_ret
          exact ⟨rfl, t4.out⟩
        · obtain rfl : pc = 0 := by rw [f1]; rfl
          obtain rfl : pm = 2 := by rw [f3]; rfl
          clear f1 f3
          go_wp2
          go_ret
          exact ⟨rfl, t4.out⟩
        · obtain rfl : pc = 0 := by rw [f1]; rfl
          obtain rfl : pm = 1 := by rw [f3]; rfl
          clear f1 f3
          go_wp2
          go_ret
          exact ⟨rfl, t4.out⟩
    · clear HT2
      go_wp2
      go_ret
      exact ⟨rfl, t4.out⟩
  · -- members 3
    have K2 : Hid (∀ W n, W.heap.size = n → Calls Try.prog 22 #[.agg #[.int .u64 (tn : Int), .int .i64 3, .int .u64 (tb : Int)], .slice (some ⟨n, 0, none⟩) 2 2] (W.alloc (.cells (rb ++ ra).toArray 52)) fun e w' => e = .returned (.tuple #[.agg #[.int .i64 qc, .int .i64 qm, .bool qf], .int .i64 er]) ∧ Below W.heap.size W w') := K2
    have K1 : Hid (∀ W n, W.heap.size = n → Calls Try.prog 22 #[.agg #[.int .u64 (tn : Int), .int .i64 3, .int .u64 (tb : Int)], .slice (some ⟨n, 0, none⟩) 2 2] (W.alloc (.cells (ra ++ rb).toArray 52)) fun e w' => e = .returned (.tuple #[.agg #[.int .i64 pc, .int .i64 pm, .bool pf], .int .i64 er]) ∧ Below W.heap.size W w') := K1
    obtain ⟨t0, V0, A0, B0⟩ := boxes3 w ⟨tn, 3, tb⟩ ra rb
    have t0 := Lib.hid t0
    have V0 := Lib.hid V0
    have A0 := Lib.hid A0
    have B0 := Lib.hid B0
    have V0 : Hid (Blk (((w.alloc (.cells #[.int .u64 (tn : Int), .int .i64 3, .int .u64 (tb : Int)] 24)).alloc (.cells ra.toArray 52)).alloc (.cells rb.toArray 52)) w.heap.size 24 [.int .u64 (tn : Int), .int .i64 3, .int .u64 (tb : Int)]) := V0
    go_enter Try.func8, Try.ntmps8
    go_wp2_with fail
    ((with_reducible refine (espeaks_any _).mono ?_); rintro e w1 ⟨rfl, h1⟩)
    have V1 := Lib.hid (V0.out.after h1)
    have A1 := Lib.hid (A0.out.after h1)
    have B1 := Lib.hid (B0.out.after h1)
    have t1 := Lib.hid (t0.out.trans (h1.mono t0.out.size))
    clear h1 V0 A0 B0 t0
    have c1 := V1.out.cell 1
    simp only [List.getElem?_cons_zero, List.getElem?_cons_succ] at c1
    have c2 : ∀ ob, (w1.alloc ob).cell? ⟨w.heap.size, 1, none⟩ = some (.int .i64 3) := fun ob => (V1.out.alloc ob).cell 1
    have D2 := Lib.hid (Blk.new w1 24 [.int .u64 (tn : Int), .int .i64 3, .int .u64 (tb : Int)])
    have V2 := Lib.hid (V1.out.alloc (.cells #[.int .u64 (tn : Int), .int .i64 3, .int .u64 (tb : Int)] 24))
    have A2 := Lib.hid (A1.out.alloc (.cells #[.int .u64 (tn : Int), .int .i64 3, .int .u64 (tb : Int)] 24))
    have B2 := Lib.hid (B1.out.alloc (.cells #[.int .u64 (tn : Int), .int .i64 3, .int .u64 (tb : Int)] 24))
    have t2 := Lib.hid (t1.out.alloc t1.out.size (.cells #[.int .u64 (tn : Int), .int .i64 3, .int .u64 (tb : Int)] 24))
    go_wp2_with (first | (with_reducible refine wpl_vload (.tmp 3) rfl rfl V2.out rfl ?_) | (with_reducible refine wpl_cload (.tmp 4) rfl rfl A2.out 0 (all41 HLA.out) HLA.out rfl ?_) | (with_reducible refine wpl_cload (.tmp 5) rfl rfl B2.out 0 (all41 HLB.out) HLB.out rfl ?_) | (with_reducible refine wpl_vload (.tmp 3) rfl rfl V1.out rfl ?_) | (with_reducible refine wpl_slice2 (.tmp 34) (.tmp 35) rfl rfl rfl rfl HLA.out HLB.out ?_))
    ((with_reducible refine (K1.out _ _ (World.size_alloc _ _)).mono ?_); rintro e w3 ⟨rfl, h3⟩)
    clear V1 A1 B1 t1 c1 c2
    have N3 := Lib.hid (Blk.new w3 54 [.int .i64 pc, .int .i64 pm, .bool pf])
    have V3 := Lib.hid ((V2.out.after h3).alloc (.cells #[.int .i64 pc, .int .i64 pm, .bool pf] 54))
    have A3 := Lib.hid ((A2.out.after h3).alloc (.cells #[.int .i64 pc, .int .i64 pm, .bool pf] 54))
    have B3 := Lib.hid ((B2.out.after h3).alloc (.cells #[.int .i64 pc, .int .i64 pm, .bool pf] 54))
    have D3 := Lib.hid ((D2.out.after h3).alloc (.cells #[.int .i64 pc, .int .i64 pm, .bool pf] 54))
    have tx3 := Lib.hid (t2.out.trans (h3.mono t2.out.size))
    have t3 := Lib.hid (tx3.out.alloc tx3.out.size (.cells #[.int .i64 pc, .int .i64 pm, .bool pf] 54))
    clear tx3
    clear h3 V2 A2 B2 D2 t2
    go_wp2_with (first | (with_reducible refine wpl_vload (.tmp 7) rfl rfl D3.out rfl ?_) | (with_reducible refine wpl_cload (.tmp 4) rfl rfl A3.out 0 (all41 HLA.out) HLA.out rfl ?_) | (with_reducible refine wpl_cload (.tmp 5) rfl rfl B3.out 0 (all41 HLB.out) HLB.out rfl ?_) | (with_reducible refine wpl_slice2 (.tmp 42) (.tmp 43) rfl rfl rfl rfl HLB.out HLA.out ?_))
    ((with_reducible refine (K2.out _ _ (World.size_alloc _ _)).mono ?_); rintro e w4 ⟨rfl, h4⟩)
    have NB := Lib.hid (N3.out.after h4)
    have AB := Lib.hid (A3.out.after h4)
    have BB := Lib.hid (B3.out.after h4)
    have V4 := Lib.hid ((V3.out.after h4).alloc (.cells #[.int .i64 qc, .int .i64 qm, .bool qf] 54))
    have A4 := Lib.hid ((A3.out.after h4).alloc (.cells #[.int .i64 qc, .int .i64 qm, .bool qf] 54))
    have B4 := Lib.hid ((B3.out.after h4).alloc (.cells #[.int .i64 qc, .int .i64 qm, .bool qf] 54))
    have D4 := Lib.hid ((D3.out.after h4).alloc (.cells #[.int .i64 qc, .int .i64 qm, .bool qf] 54))
    have tx4 := Lib.hid (t3.out.trans (h4.mono t3.out.size))
    have t4 := Lib.hid (tx4.out.alloc tx4.out.size (.cells #[.int .i64 qc, .int .i64 qm, .bool qf] 54))
    clear tx4
    clear h4 V3 A3 B3 D3 t3
    have ea : ∀ ob, (w4.alloc ob).cell? ⟨w.heap.size + 1, 3, none⟩ = some (.int .u64 (a.e : Int)) := fun ob => ((AB.out.alloc ob).cell 3).trans xa3.out
    have eb : ∀ ob, (w4.alloc ob).cell? ⟨w.heap.size + 1 + 1, 3, none⟩ = some (.int .u64 (b.e : Int)) := fun ob => ((BB.out.alloc ob).cell 3).trans xb3.out
    have c0 : ∀ ob, (w4.alloc ob).cell? ⟨w3.heap.size, 0, none⟩ = some (.int .i64 pc) := fun ob => (NB.out.alloc ob).cell 0
    have c1 : ∀ ob, (w4.alloc ob).cell? ⟨w3.heap.size, 1, none⟩ = some (.int .i64 pm) := fun ob => (NB.out.alloc ob).cell 1
    have c2 : ∀ ob, (w4.alloc ob).cell? ⟨w3.heap.size, 2, none⟩ = some (.bool pf) := fun ob => (NB.out.alloc ob).cell 2
    by_cases her : er = 0
    · by_cases hee : a.e = b.e
      · have d1 : ((a.e : Int) == (b.e : Int)) = true := by simp [hee]
        subst her
        clear hee
        go_wp2
        go_ret
        exact ⟨rfl, t4.out⟩
      · obtain ⟨f1, f2, f3, f4, f5⟩ := HT2.out her hee
        have d1 : ((a.e : Int) == (b.e : Int)) = false := by simp; omega
        subst her
        clear hee HT2
        subst f2
        rcases f4 with rfl | rfl <;> rcases f5 with rfl | rfl
        · obtain rfl : pc = 1 := by rw [f1]; rfl
          obtain rfl : pm = 2 := by rw [f3]; rfl
          clear f1 f3
          go_wp2
          go_ret
          exact ⟨rfl, t4.out⟩
        · obtain rfl : pc = 1 := by rw [f1]; rfl
          obtain rfl : pm = 1 := by rw [f3]; rfl
          clear f1 f3
          go_wp2
          go_ret
          exact ⟨rfl, t4.out⟩
        · obtain rfl : pc = 0 := by rw [f1]; rfl
          obtain rfl : pm = 2 := by rw [f3]; rfl
          clear f1 f3
          go_wp2
          go_ret
          exact ⟨rfl, t4.out⟩
        · obtain rfl : pc = 0 := by rw [f1]; rfl
          obtain rfl : pm = 1 := by rw [f3]; rfl
          clear f1 f3
          go_wp2
          go_ret
          exact ⟨rfl, t4.out⟩
    · clear HT2
      go_wp2
      go_ret
      exact ⟨rfl, t4.out⟩
end Go.Proofs.Yticigjkaangkmaa

