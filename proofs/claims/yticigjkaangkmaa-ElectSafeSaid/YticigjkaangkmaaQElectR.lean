/- Layer 13: the document's Choose. Condition: a set has 32 bytes. -/
import Derived.Test.YticigjkaangkmaaQElectE
namespace Go.Proofs.Yticigjkaangkmaa
open Go Go.RowKit
theorem nrefuse {p q : Bool} (h : p = true ∨ q = true) : ¬ (true = false ∨ (p = false ∧ q = false)) := by
  rintro (r | ⟨r1, r2⟩)
  · cases r
  · rw [r1, r2] at h; simp at h
set_option maxRecDepth 100000 in
set_option maxHeartbeats 8000000 in
theorem refchoose_any (t : VV) {a b : EC} (ha : a.ok) (hb : b.ok) (w : World) :
    Calls Try.prog 23 #[va t, .agg (crow a).toArray, .agg (crow b).toArray] w fun e w' => e = .returned (.tuple #[pv (choose t a b).1, .int .i64 (choose t a b).2]) ∧ Below w.heap.size w w' := by
  have hla := crow_len ha
  have hlb := crow_len hb
  have KR := Lib.hid (fun w => refright_any t w)
  have KMa := Lib.hid (fun w => refmay_any t a 0 w)
  have KMb := Lib.hid (fun w => refmay_any t b 1 w)
  have KH0 := Lib.hid (fun w => refhas_any t 0 w)
  have KH1 := Lib.hid (fun w => refhas_any t 1 w)
  have HC1 := Lib.hid (choose_none t a b)
  have HC2 := Lib.hid (choose_stale t a b)
  have HC3 := Lib.hid (choose_some t a b)
  have HU0 := Lib.hid (show EC.hurt t a 0 = (a.h && a.s && !a.n && t.has 0) from rfl)
  have HU1 := Lib.hid (show EC.hurt t b 1 = (b.h && b.s && !b.n && t.has 1) from rfl)
  have HHa := Lib.hid (show a.holds = (a.h && a.s) from rfl)
  have HHb := Lib.hid (show b.holds = (b.h && b.s) from rfl)
  have hEq : ∀ w, (Op.equalIn 10000 50 (.agg (ccs a.e a.L a.u).toArray) (.agg (ccs b.e b.L b.u).toArray)).run Try.prog w = .ok (EC.last a b) w := fun w => commit_eq ha.L hb.L w
  have HCL := Lib.hid (And.intro (ccs_length (e := a.e) (s := a.u) ha.L) (ccs_length (e := b.e) (s := b.u) hb.L))
  have HCA := Lib.hid (crow_seg ha)
  have HCB := Lib.hid (crow_seg hb)
  have ya0 := Lib.hid (crow_0 a)
  have ya1 := Lib.hid (crow_1 a)
  have ya2 := Lib.hid (crow_2 a)
  have ya3 := Lib.hid (crow_3 a)
  have yb0 := Lib.hid (crow_0 b)
  have yb1 := Lib.hid (crow_1 b)
  have yb2 := Lib.hid (crow_2 b)
  have yb3 := Lib.hid (crow_3 b)
  obtain ⟨ra, hra⟩ : ∃ ra, crow a = ra := ⟨_, rfl⟩
  obtain ⟨rb, hrb⟩ : ∃ rb, crow b = rb := ⟨_, rfl⟩
  rw [hra] at KMa HCA ya0 ya1 ya2 ya3 hla
  rw [hrb] at KMb HCB yb0 yb1 yb2 yb3 hlb
  rw [hra, hrb]
  obtain ⟨xa, hxa⟩ : ∃ xa, ccs a.e a.L a.u = xa := ⟨_, rfl⟩
  obtain ⟨xb, hxb⟩ : ∃ xb, ccs b.e b.L b.u = xb := ⟨_, rfl⟩
  rw [hxa, hxb] at hEq HCL
  rw [hxa] at HCA
  rw [hxb] at HCB
  obtain ⟨lq, hlq⟩ : ∃ lq, EC.last a b = lq := ⟨_, rfl⟩
  rw [hlq] at hEq
  have HLQ := Lib.hid hlq
  have HLA := Lib.hid hla
  have HLB := Lib.hid hlb
  obtain ⟨rq, hrq⟩ : ∃ rq, t.right = rq := ⟨_, rfl⟩
  rw [hrq] at KR HC1 HC2 HC3
  obtain ⟨x, hx⟩ : ∃ x, EC.may t a 0 = x := ⟨_, rfl⟩
  obtain ⟨y, hy⟩ : ∃ y, EC.may t b 1 = y := ⟨_, rfl⟩
  rw [hx] at KMa HC2 HC3
  rw [hy] at KMb HC2 HC3
  obtain ⟨a0, e1⟩ : ∃ q, a.h = q := ⟨_, rfl⟩
  obtain ⟨a1, e2⟩ : ∃ q, a.s = q := ⟨_, rfl⟩
  obtain ⟨a2, e3⟩ : ∃ q, a.n = q := ⟨_, rfl⟩
  obtain ⟨b0, e4⟩ : ∃ q, b.h = q := ⟨_, rfl⟩
  obtain ⟨b1, e5⟩ : ∃ q, b.s = q := ⟨_, rfl⟩
  obtain ⟨b2, e6⟩ : ∃ q, b.n = q := ⟨_, rfl⟩
  obtain ⟨h0, e7⟩ : ∃ q, t.has 0 = q := ⟨_, rfl⟩
  obtain ⟨h1, e8⟩ : ∃ q, t.has 1 = q := ⟨_, rfl⟩
  rw [e1] at ya0 HHa HU0
  rw [e2] at ya1 HHa HU0
  rw [e3] at ya2 HU0
  rw [e4] at yb0 HHb HU1
  rw [e5] at yb1 HHb HU1
  rw [e6] at yb2 HU1
  rw [e7] at KH0 HU0
  rw [e8] at KH1 HU1
  have HXA := Lib.hid (show x = true → a0 = true ∧ a1 = true from fun q => by rw [← hx] at q; unfold EC.may at q; rw [e1, e2] at q; simp at q; exact ⟨q.1.1.1.1, q.1.1.1.2⟩)
  have HYB := Lib.hid (show y = true → b0 = true ∧ b1 = true from fun q => by rw [← hy] at q; unfold EC.may at q; rw [e4, e5] at q; simp at q; exact ⟨q.1.1.1.1, q.1.1.1.2⟩)
  have HXE := Lib.hid hx
  have HYE := Lib.hid hy
  clear hra hrb hxa hxb hlq hla hlb hrq hx hy e1 e2 e3 e4 e5 e6 e7 e8
  -- the boxes
  obtain ⟨W1, hW1⟩ : ∃ W1, W1 = w.alloc (.cells #[.int .u64 (t.n : Int), .int .i64 t.m, .int .u64 (t.b : Int)] 24) := ⟨_, rfl⟩
  have V1 : Blk W1 w.heap.size 24 [.int .u64 (t.n : Int), .int .i64 t.m, .int .u64 (t.b : Int)] := by rw [hW1]; exact Blk.new w _ [.int .u64 (t.n : Int), .int .i64 t.m, .int .u64 (t.b : Int)]
  have s1 : W1.heap.size = w.heap.size + 1 := by rw [hW1, World.size_alloc]
  have t1 : Below w.heap.size w W1 := by rw [hW1]; exact (Below.refl w.heap.size w).alloc (Nat.le_refl _) _
  obtain ⟨W2, hW2⟩ : ∃ W2, W2 = W1.alloc (.cells ra.toArray 52) := ⟨_, rfl⟩
  have A2 : Blk W2 (w.heap.size + 1) 52 ra := by rw [hW2, ← s1]; exact Blk.new W1 _ ra
  have V2 : Blk W2 w.heap.size 24 [.int .u64 (t.n : Int), .int .i64 t.m, .int .u64 (t.b : Int)] := by rw [hW2]; exact V1.alloc _
  have s2 : W2.heap.size = w.heap.size + 1 + 1 := by rw [hW2, World.size_alloc, s1]
  have t2 : Below w.heap.size w W2 := by rw [hW2]; exact t1.alloc t1.size _
  obtain ⟨W3, hW3⟩ : ∃ W3, W3 = W2.alloc (.cells rb.toArray 52) := ⟨_, rfl⟩
  have B3' : Blk W3 (w.heap.size + 1 + 1) 52 rb := by rw [hW3, ← s2]; exact Blk.new W2 _ rb
  have A3' : Blk W3 (w.heap.size + 1) 52 ra := by rw [hW3]; exact A2.alloc _
  have V3' : Blk W3 w.heap.size 24 [.int .u64 (t.n : Int), .int .i64 t.m, .int .u64 (t.b : Int)] := by rw [hW3]; exact V2.alloc _
  have s3 : W3.heap.size = w.heap.size + 1 + 1 + 1 := by rw [hW3, World.size_alloc, s2]
  have t3' : Below w.heap.size w W3 := by rw [hW3]; exact t2.alloc t2.size _
  obtain ⟨W4, hW4⟩ : ∃ W4, W4 = W3.alloc (.cells #[.int .i64 0, .int .i64 0, .bool false] 54) := ⟨_, rfl⟩
  have L3 : Hid (Blk W4 (w.heap.size + 1 + 1 + 1) 54 [.int .i64 0, .int .i64 0, .bool false]) := Lib.hid (by rw [hW4, ← s3]; exact Blk.new W3 _ [.int .i64 0, .int .i64 0, .bool false])
  have A3 : Hid (Blk W4 (w.heap.size + 1) 52 ra) := Lib.hid (by rw [hW4]; exact A3'.alloc _)
  have B3 : Hid (Blk W4 (w.heap.size + 1 + 1) 52 rb) := Lib.hid (by rw [hW4]; exact B3'.alloc _)
  have V3 : Hid (Blk W4 w.heap.size 24 [.int .u64 (t.n : Int), .int .i64 t.m, .int .u64 (t.b : Int)]) := Lib.hid (by rw [hW4]; exact V3'.alloc _)
  have t3 : Hid (Below w.heap.size w W4) := Lib.hid (by rw [hW4]; exact t3'.alloc t3'.size _)
  have HW := Lib.hid (show W4 = (((w.alloc (.cells #[.int .u64 (t.n : Int), .int .i64 t.m, .int .u64 (t.b : Int)] 24)).alloc (.cells ra.toArray 52)).alloc (.cells rb.toArray 52)).alloc (.cells #[.int .i64 0, .int .i64 0, .bool false] 54) by rw [hW4, hW3, hW2, hW1])
  clear hW1 hW2 hW3 hW4 V1 V2 A2 B3' A3' V3' s1 s2 s3 t1 t2 t3'
  go_enter Try.func23, Try.ntmps23
  go_wp2_with fail
  rw [← HW.out]
  clear HW
  have S0 : Blk W4.drew w.heap.size 24 [.int .u64 (t.n : Int), .int .i64 t.m, .int .u64 (t.b : Int)] ∧ Blk W4.drew (w.heap.size + 1) 52 ra ∧ Blk W4.drew (w.heap.size + 1 + 1) 52 rb := ⟨V3.out, A3.out, B3.out⟩
  refine wp_region_held_drew (S := (fun w' => Blk w' w.heap.size 24 [.int .u64 (t.n : Int), .int .i64 t.m, .int .u64 (t.b : Int)] ∧ Blk w' (w.heap.size + 1) 52 ra ∧ Blk w' (w.heap.size + 1 + 1) 52 rb)) (by kernel_rfl) S0 (fun _ => ?_)
  refine wpAnyH_take (i := 0) (v := va t) rfl (by kernel_rfl) (by kernel_rfl) (by kernel_rfl) (fun _ _ _ h => h) (yields_vload (g := w.heap.size) (.tmp 3) (by kernel_rfl) (by kernel_rfl) (by kernel_rfl) (fun w h => h.1)) S0 ?_
  refine wpAnyH_take (i := 1) (v := .agg ra.toArray) rfl (by kernel_rfl) (by kernel_rfl) (by kernel_rfl) (fun _ _ _ h => h) (yields_seg (i := 0) aggC sizeC (.tmp 4) (by kernel_rfl) (by kernel_rfl) (by kernel_rfl) (g := w.heap.size + 1) (fun w h => h.2.1) (all41 HLA.out) HLA.out) S0 ?_
  refine wpAnyH_take (i := 3) (v := va t) rfl (by kernel_rfl) (by kernel_rfl) (by kernel_rfl) (fun _ _ _ h => h) (yields_vload (g := w.heap.size) (.tmp 3) (by kernel_rfl) (by kernel_rfl) (by kernel_rfl) (fun w h => h.1)) S0 ?_
  refine wpAnyH_take (i := 4) (v := .agg rb.toArray) rfl (by kernel_rfl) (by kernel_rfl) (by kernel_rfl) (fun _ _ _ h => h) (yields_seg (i := 0) aggC sizeC (.tmp 5) (by kernel_rfl) (by kernel_rfl) (by kernel_rfl) (g := w.heap.size + 1 + 1) (fun w h => h.2.2) (all41 HLB.out) HLB.out) S0 ?_
  refine wpAnyH_ready (rs := [2]) (by kernel_rfl) (by simp) (AllReadyH.cons rfl (fun K hK => ?_) AllReadyH.nil)
  go_simp
  ((with_reducible refine (KMa.out _).mono ?_); rintro e5 w5 ⟨rfl, h5⟩)
  have S1 := And.intro (Blk.after (w := W4.drew) S0.1 h5) (And.intro (Blk.after (w := W4.drew) S0.2.1 h5) (Blk.after (w := W4.drew) S0.2.2 h5))
  refine hK.out _ _ S1 (fun _ => ?_)
  clear hK K
  refine wpAnyH_ready (rs := [5]) (by kernel_rfl) (by simp) (AllReadyH.cons rfl (fun K hK => ?_) AllReadyH.nil)
  go_simp
  ((with_reducible refine (KMb.out _).mono ?_); rintro e6 w6 ⟨rfl, h6⟩)
  have S2 := And.intro (S1.1.after h6) (And.intro (S1.2.1.after h6) (S1.2.2.after h6))
  refine hK.out _ _ S2 (fun _ => ?_)
  clear hK K
  refine wpAnyH_take (i := 6) (v := .bool x) rfl (by kernel_rfl) (by kernel_rfl) (by kernel_rfl) (fun _ _ _ h => h) (Or.inl ⟨by kernel_rfl, fun w _ => by go_simp⟩) S2 ?_
  refine wpAnyH_take (i := 7) (v := .bool y) rfl (by kernel_rfl) (by kernel_rfl) (by kernel_rfl) (fun _ _ _ h => h) (Or.inl ⟨by kernel_rfl, fun w _ => by go_simp⟩) S2 ?_
  refine wpAnyH_done (by kernel_rfl) ?_ _
  go_simp
  have V6 := Lib.hid S2.1
  have A6 := Lib.hid S2.2.1
  have B6 := Lib.hid S2.2.2
  have L6 := Lib.hid ((Blk.after (w := W4.drew) L3.out h5).after h6)
  have t6 := Lib.hid ((t3.out.drew.trans (h5.mono t3.out.size)).trans (h6.mono (Nat.le_trans t3.out.size h5.size)))
  clear S0 S1 S2 h5 h6 V3 A3 B3 L3 t3 KMa KMb
  go_wp2_with (with_reducible refine wpl_vload (.tmp 3) rfl rfl V6.out rfl ?_)
  ((with_reducible refine (KR.out _).mono ?_); rintro e w7 ⟨rfl, h7⟩)
  have V7 := Lib.hid (V6.out.after h7)
  have A7 := Lib.hid (A6.out.after h7)
  have B7 := Lib.hid (B6.out.after h7)
  have L7 := Lib.hid (L6.out.after h7)
  have t7 := Lib.hid (t6.out.trans (h7.mono t6.out.size))
  clear h7 V6 A6 B6 L6 t6
  cases rq
  · skip
    go_wp2_with ((with_reducible refine wpl_plstore (.tmp 6) (.tmp 40) rfl rfl L7.out rfl rfl rfl rfl rfl ?_); intro w9 R9 g9 e9; have T9 := Lib.hid (t7.out.grown g9 t7.out.size (fun k e => by cases e; omega)); have S9 := Lib.hid R9; clear R9 g9 e9)
    refine bodyPost_ret (plret2 rfl _ S9.out rfl) rfl ?_
    rw [HC1.out (Or.inl (by simp))]
    exact ⟨rfl, T9.out⟩
  have yac0 := (A7.out.cell 0).trans ya0.out
  have yac1 := (A7.out.cell 1).trans ya1.out
  have yac2 := (A7.out.cell 2).trans ya2.out
  have yac3 := (A7.out.cell 3).trans ya3.out
  have ybc0 := (B7.out.cell 0).trans yb0.out
  have ybc1 := (B7.out.cell 1).trans yb1.out
  have ybc2 := (B7.out.cell 2).trans yb2.out
  have ybc3 := (B7.out.cell 3).trans yb3.out
  have vc := V7.out.cell 1
  simp only [List.getElem?_cons_zero, List.getElem?_cons_succ] at vc
  cases x
  · cases y
    · cases a0
      · skip
        cases b0
        · skip
          go_wp2_with ((with_reducible refine wpl_plstore (.tmp 6) (.tmp 40) rfl rfl L7.out rfl rfl rfl rfl rfl ?_); intro w9 R9 g9 e9; have T9 := Lib.hid (t7.out.grown g9 t7.out.size (fun k e => by cases e; omega)); have S9 := Lib.hid R9; clear R9 g9 e9)
          refine bodyPost_ret (plret2 rfl _ S9.out rfl) rfl ?_
          rw [HC1.out (Or.inr ⟨by rw [HHa.out]; rfl, by rw [HHb.out]; rfl⟩)]
          exact ⟨rfl, T9.out⟩
        cases b1
        · skip
          go_wp2_with ((with_reducible refine wpl_plstore (.tmp 6) (.tmp 40) rfl rfl L7.out rfl rfl rfl rfl rfl ?_); intro w9 R9 g9 e9; have T9 := Lib.hid (t7.out.grown g9 t7.out.size (fun k e => by cases e; omega)); have S9 := Lib.hid R9; clear R9 g9 e9)
          refine bodyPost_ret (plret2 rfl _ S9.out rfl) rfl ?_
          rw [HC1.out (Or.inr ⟨by rw [HHa.out]; rfl, by rw [HHb.out]; rfl⟩)]
          exact ⟨rfl, T9.out⟩
        cases b2
        · skip
          go_wp2_with (with_reducible refine wpl_vload (.tmp 3) rfl rfl V7.out rfl ?_)
          ((with_reducible refine (KH1.out _).mono ?_); rintro e w8 ⟨rfl, h8⟩)
          have V8 := Lib.hid (V7.out.after h8)
          have A8 := Lib.hid (A7.out.after h8)
          have B8 := Lib.hid (B7.out.after h8)
          have L8 := Lib.hid (L7.out.after h8)
          have t8 := Lib.hid (t7.out.trans (h8.mono t7.out.size))
          clear h8 V7 A7 B7 L7 t7
          cases h1
          · skip
            have HF := HC2.out (nrefuse (by rw [HHa.out, HHb.out]; simp)) (by simp) (by simp)
            rw [if_neg (by rw [HU0.out, HU1.out]; simp)] at HF
            have HF := Lib.hid HF
            go_wp2_with ((with_reducible refine wpl_plstore (.tmp 6) (.tmp 80) rfl rfl L8.out rfl rfl rfl rfl rfl ?_); intro w9 R9 g9 e9; have T9 := Lib.hid (t8.out.grown g9 t8.out.size (fun k e => by cases e; omega)); have S9 := Lib.hid R9; clear R9 g9 e9)
            refine bodyPost_ret (plret2 rfl _ S9.out rfl) rfl ?_
            rw [HF.out]
            exact ⟨rfl, T9.out⟩
          · skip
            have HF := HC2.out (nrefuse (by rw [HHa.out, HHb.out]; simp)) (by simp) (by simp)
            rw [if_pos (by rw [HU0.out, HU1.out]; simp)] at HF
            have HF := Lib.hid HF
            go_wp2_with ((with_reducible refine wpl_plstore (.tmp 6) (.tmp 79) rfl rfl L8.out rfl rfl rfl rfl rfl ?_); intro w9 R9 g9 e9; have T9 := Lib.hid (t8.out.grown g9 t8.out.size (fun k e => by cases e; omega)); have S9 := Lib.hid R9; clear R9 g9 e9)
            refine bodyPost_ret (plret2 rfl _ S9.out rfl) rfl ?_
            rw [HF.out]
            exact ⟨rfl, T9.out⟩
        · skip
          have HF := HC2.out (nrefuse (by rw [HHa.out, HHb.out]; simp)) (by simp) (by simp)
          rw [if_neg (by rw [HU0.out, HU1.out]; simp)] at HF
          have HF := Lib.hid HF
          go_wp2_with ((with_reducible refine wpl_plstore (.tmp 6) (.tmp 80) rfl rfl L7.out rfl rfl rfl rfl rfl ?_); intro w9 R9 g9 e9; have T9 := Lib.hid (t7.out.grown g9 t7.out.size (fun k e => by cases e; omega)); have S9 := Lib.hid R9; clear R9 g9 e9)
          refine bodyPost_ret (plret2 rfl _ S9.out rfl) rfl ?_
          rw [HF.out]
          exact ⟨rfl, T9.out⟩
      cases a1
      · skip
        cases b0
        · skip
          go_wp2_with ((with_reducible refine wpl_plstore (.tmp 6) (.tmp 40) rfl rfl L7.out rfl rfl rfl rfl rfl ?_); intro w9 R9 g9 e9; have T9 := Lib.hid (t7.out.grown g9 t7.out.size (fun k e => by cases e; omega)); have S9 := Lib.hid R9; clear R9 g9 e9)
          refine bodyPost_ret (plret2 rfl _ S9.out rfl) rfl ?_
          rw [HC1.out (Or.inr ⟨by rw [HHa.out]; rfl, by rw [HHb.out]; rfl⟩)]
          exact ⟨rfl, T9.out⟩
        cases b1
        · skip
          go_wp2_with ((with_reducible refine wpl_plstore (.tmp 6) (.tmp 40) rfl rfl L7.out rfl rfl rfl rfl rfl ?_); intro w9 R9 g9 e9; have T9 := Lib.hid (t7.out.grown g9 t7.out.size (fun k e => by cases e; omega)); have S9 := Lib.hid R9; clear R9 g9 e9)
          refine bodyPost_ret (plret2 rfl _ S9.out rfl) rfl ?_
          rw [HC1.out (Or.inr ⟨by rw [HHa.out]; rfl, by rw [HHb.out]; rfl⟩)]
          exact ⟨rfl, T9.out⟩
        cases b2
        · skip
          go_wp2_with (with_reducible refine wpl_vload (.tmp 3) rfl rfl V7.out rfl ?_)
          ((with_reducible refine (KH1.out _).mono ?_); rintro e w8 ⟨rfl, h8⟩)
          have V8 := Lib.hid (V7.out.after h8)
          have A8 := Lib.hid (A7.out.after h8)
          have B8 := Lib.hid (B7.out.after h8)
          have L8 := Lib.hid (L7.out.after h8)
          have t8 := Lib.hid (t7.out.trans (h8.mono t7.out.size))
          clear h8 V7 A7 B7 L7 t7
          cases h1
          · skip
            have HF := HC2.out (nrefuse (by rw [HHa.out, HHb.out]; simp)) (by simp) (by simp)
            rw [if_neg (by rw [HU0.out, HU1.out]; simp)] at HF
            have HF := Lib.hid HF
            go_wp2_with ((with_reducible refine wpl_plstore (.tmp 6) (.tmp 80) rfl rfl L8.out rfl rfl rfl rfl rfl ?_); intro w9 R9 g9 e9; have T9 := Lib.hid (t8.out.grown g9 t8.out.size (fun k e => by cases e; omega)); have S9 := Lib.hid R9; clear R9 g9 e9)
            refine bodyPost_ret (plret2 rfl _ S9.out rfl) rfl ?_
            rw [HF.out]
            exact ⟨rfl, T9.out⟩
          · skip
            have HF := HC2.out (nrefuse (by rw [HHa.out, HHb.out]; simp)) (by simp) (by simp)
            rw [if_pos (by rw [HU0.out, HU1.out]; simp)] at HF
            have HF := Lib.hid HF
            go_wp2_with ((with_reducible refine wpl_plstore (.tmp 6) (.tmp 79) rfl rfl L8.out rfl rfl rfl rfl rfl ?_); intro w9 R9 g9 e9; have T9 := Lib.hid (t8.out.grown g9 t8.out.size (fun k e => by cases e; omega)); have S9 := Lib.hid R9; clear R9 g9 e9)
            refine bodyPost_ret (plret2 rfl _ S9.out rfl) rfl ?_
            rw [HF.out]
            exact ⟨rfl, T9.out⟩
        · skip
          have HF := HC2.out (nrefuse (by rw [HHa.out, HHb.out]; simp)) (by simp) (by simp)
          rw [if_neg (by rw [HU0.out, HU1.out]; simp)] at HF
          have HF := Lib.hid HF
          go_wp2_with ((with_reducible refine wpl_plstore (.tmp 6) (.tmp 80) rfl rfl L7.out rfl rfl rfl rfl rfl ?_); intro w9 R9 g9 e9; have T9 := Lib.hid (t7.out.grown g9 t7.out.size (fun k e => by cases e; omega)); have S9 := Lib.hid R9; clear R9 g9 e9)
          refine bodyPost_ret (plret2 rfl _ S9.out rfl) rfl ?_
          rw [HF.out]
          exact ⟨rfl, T9.out⟩
      cases a2
      · skip
        go_wp2_with (with_reducible refine wpl_vload (.tmp 3) rfl rfl V7.out rfl ?_)
        ((with_reducible refine (KH0.out _).mono ?_); rintro e w8 ⟨rfl, h8⟩)
        have V8 := Lib.hid (V7.out.after h8)
        have A8 := Lib.hid (A7.out.after h8)
        have B8 := Lib.hid (B7.out.after h8)
        have L8 := Lib.hid (L7.out.after h8)
        have t8 := Lib.hid (t7.out.trans (h8.mono t7.out.size))
        clear h8 V7 A7 B7 L7 t7
        cases h0
        · skip
          have yac0 := (A8.out.cell 0).trans ya0.out
          have yac1 := (A8.out.cell 1).trans ya1.out
          have yac2 := (A8.out.cell 2).trans ya2.out
          have yac3 := (A8.out.cell 3).trans ya3.out
          have ybc0 := (B8.out.cell 0).trans yb0.out
          have ybc1 := (B8.out.cell 1).trans yb1.out
          have ybc2 := (B8.out.cell 2).trans yb2.out
          have ybc3 := (B8.out.cell 3).trans yb3.out
          have vc := V8.out.cell 1
          simp only [List.getElem?_cons_zero, List.getElem?_cons_succ] at vc
          cases b0
          · skip
            have HF := HC2.out (nrefuse (by rw [HHa.out, HHb.out]; simp)) (by simp) (by simp)
            rw [if_neg (by rw [HU0.out, HU1.out]; simp)] at HF
            have HF := Lib.hid HF
            go_wp2_with ((with_reducible refine wpl_plstore (.tmp 6) (.tmp 80) rfl rfl L8.out rfl rfl rfl rfl rfl ?_); intro w9 R9 g9 e9; have T9 := Lib.hid (t8.out.grown g9 t8.out.size (fun k e => by cases e; omega)); have S9 := Lib.hid R9; clear R9 g9 e9)
            refine bodyPost_ret (plret2 rfl _ S9.out rfl) rfl ?_
            rw [HF.out]
            exact ⟨rfl, T9.out⟩
          cases b1
          · skip
            have HF := HC2.out (nrefuse (by rw [HHa.out, HHb.out]; simp)) (by simp) (by simp)
            rw [if_neg (by rw [HU0.out, HU1.out]; simp)] at HF
            have HF := Lib.hid HF
            go_wp2_with ((with_reducible refine wpl_plstore (.tmp 6) (.tmp 80) rfl rfl L8.out rfl rfl rfl rfl rfl ?_); intro w9 R9 g9 e9; have T9 := Lib.hid (t8.out.grown g9 t8.out.size (fun k e => by cases e; omega)); have S9 := Lib.hid R9; clear R9 g9 e9)
            refine bodyPost_ret (plret2 rfl _ S9.out rfl) rfl ?_
            rw [HF.out]
            exact ⟨rfl, T9.out⟩
          cases b2
          · skip
            go_wp2_with (with_reducible refine wpl_vload (.tmp 3) rfl rfl V8.out rfl ?_)
            ((with_reducible refine (KH1.out _).mono ?_); rintro e w9 ⟨rfl, h9⟩)
            have V9 := Lib.hid (V8.out.after h9)
            have A9 := Lib.hid (A8.out.after h9)
            have B9 := Lib.hid (B8.out.after h9)
            have L9 := Lib.hid (L8.out.after h9)
            have t9 := Lib.hid (t8.out.trans (h9.mono t8.out.size))
            clear h9 V8 A8 B8 L8 t8
            cases h1
            · skip
              have HF := HC2.out (nrefuse (by rw [HHa.out, HHb.out]; simp)) (by simp) (by simp)
              rw [if_neg (by rw [HU0.out, HU1.out]; simp)] at HF
              have HF := Lib.hid HF
              go_wp2_with ((with_reducible refine wpl_plstore (.tmp 6) (.tmp 80) rfl rfl L9.out rfl rfl rfl rfl rfl ?_); intro w9 R9 g9 e9; have T9 := Lib.hid (t9.out.grown g9 t9.out.size (fun k e => by cases e; omega)); have S9 := Lib.hid R9; clear R9 g9 e9)
              refine bodyPost_ret (plret2 rfl _ S9.out rfl) rfl ?_
              rw [HF.out]
              exact ⟨rfl, T9.out⟩
            · skip
              have HF := HC2.out (nrefuse (by rw [HHa.out, HHb.out]; simp)) (by simp) (by simp)
              rw [if_pos (by rw [HU0.out, HU1.out]; simp)] at HF
              have HF := Lib.hid HF
              go_wp2_with ((with_reducible refine wpl_plstore (.tmp 6) (.tmp 79) rfl rfl L9.out rfl rfl rfl rfl rfl ?_); intro w9 R9 g9 e9; have T9 := Lib.hid (t9.out.grown g9 t9.out.size (fun k e => by cases e; omega)); have S9 := Lib.hid R9; clear R9 g9 e9)
              refine bodyPost_ret (plret2 rfl _ S9.out rfl) rfl ?_
              rw [HF.out]
              exact ⟨rfl, T9.out⟩
          · skip
            have HF := HC2.out (nrefuse (by rw [HHa.out, HHb.out]; simp)) (by simp) (by simp)
            rw [if_neg (by rw [HU0.out, HU1.out]; simp)] at HF
            have HF := Lib.hid HF
            go_wp2_with ((with_reducible refine wpl_plstore (.tmp 6) (.tmp 80) rfl rfl L8.out rfl rfl rfl rfl rfl ?_); intro w9 R9 g9 e9; have T9 := Lib.hid (t8.out.grown g9 t8.out.size (fun k e => by cases e; omega)); have S9 := Lib.hid R9; clear R9 g9 e9)
            refine bodyPost_ret (plret2 rfl _ S9.out rfl) rfl ?_
            rw [HF.out]
            exact ⟨rfl, T9.out⟩
        · skip
          have HF := HC2.out (nrefuse (by rw [HHa.out, HHb.out]; simp)) (by simp) (by simp)
          rw [if_pos (by rw [HU0.out, HU1.out]; simp)] at HF
          have HF := Lib.hid HF
          go_wp2_with ((with_reducible refine wpl_plstore (.tmp 6) (.tmp 79) rfl rfl L8.out rfl rfl rfl rfl rfl ?_); intro w9 R9 g9 e9; have T9 := Lib.hid (t8.out.grown g9 t8.out.size (fun k e => by cases e; omega)); have S9 := Lib.hid R9; clear R9 g9 e9)
          refine bodyPost_ret (plret2 rfl _ S9.out rfl) rfl ?_
          rw [HF.out]
          exact ⟨rfl, T9.out⟩
      · skip
        cases b0
        · skip
          have HF := HC2.out (nrefuse (by rw [HHa.out, HHb.out]; simp)) (by simp) (by simp)
          rw [if_neg (by rw [HU0.out, HU1.out]; simp)] at HF
          have HF := Lib.hid HF
          go_wp2_with ((with_reducible refine wpl_plstore (.tmp 6) (.tmp 80) rfl rfl L7.out rfl rfl rfl rfl rfl ?_); intro w9 R9 g9 e9; have T9 := Lib.hid (t7.out.grown g9 t7.out.size (fun k e => by cases e; omega)); have S9 := Lib.hid R9; clear R9 g9 e9)
          refine bodyPost_ret (plret2 rfl _ S9.out rfl) rfl ?_
          rw [HF.out]
          exact ⟨rfl, T9.out⟩
        cases b1
        · skip
          have HF := HC2.out (nrefuse (by rw [HHa.out, HHb.out]; simp)) (by simp) (by simp)
          rw [if_neg (by rw [HU0.out, HU1.out]; simp)] at HF
          have HF := Lib.hid HF
          go_wp2_with ((with_reducible refine wpl_plstore (.tmp 6) (.tmp 80) rfl rfl L7.out rfl rfl rfl rfl rfl ?_); intro w9 R9 g9 e9; have T9 := Lib.hid (t7.out.grown g9 t7.out.size (fun k e => by cases e; omega)); have S9 := Lib.hid R9; clear R9 g9 e9)
          refine bodyPost_ret (plret2 rfl _ S9.out rfl) rfl ?_
          rw [HF.out]
          exact ⟨rfl, T9.out⟩
        cases b2
        · skip
          go_wp2_with (with_reducible refine wpl_vload (.tmp 3) rfl rfl V7.out rfl ?_)
          ((with_reducible refine (KH1.out _).mono ?_); rintro e w8 ⟨rfl, h8⟩)
          have V8 := Lib.hid (V7.out.after h8)
          have A8 := Lib.hid (A7.out.after h8)
          have B8 := Lib.hid (B7.out.after h8)
          have L8 := Lib.hid (L7.out.after h8)
          have t8 := Lib.hid (t7.out.trans (h8.mono t7.out.size))
          clear h8 V7 A7 B7 L7 t7
          cases h1
          · skip
            have HF := HC2.out (nrefuse (by rw [HHa.out, HHb.out]; simp)) (by simp) (by simp)
            rw [if_neg (by rw [HU0.out, HU1.out]; simp)] at HF
            have HF := Lib.hid HF
            go_wp2_with ((with_reducible refine wpl_plstore (.tmp 6) (.tmp 80) rfl rfl L8.out rfl rfl rfl rfl rfl ?_); intro w9 R9 g9 e9; have T9 := Lib.hid (t8.out.grown g9 t8.out.size (fun k e => by cases e; omega)); have S9 := Lib.hid R9; clear R9 g9 e9)
            refine bodyPost_ret (plret2 rfl _ S9.out rfl) rfl ?_
            rw [HF.out]
            exact ⟨rfl, T9.out⟩
          · skip
            have HF := HC2.out (nrefuse (by rw [HHa.out, HHb.out]; simp)) (by simp) (by simp)
            rw [if_pos (by rw [HU0.out, HU1.out]; simp)] at HF
            have HF := Lib.hid HF
            go_wp2_with ((with_reducible refine wpl_plstore (.tmp 6) (.tmp 79) rfl rfl L8.out rfl rfl rfl rfl rfl ?_); intro w9 R9 g9 e9; have T9 := Lib.hid (t8.out.grown g9 t8.out.size (fun k e => by cases e; omega)); have S9 := Lib.hid R9; clear R9 g9 e9)
            refine bodyPost_ret (plret2 rfl _ S9.out rfl) rfl ?_
            rw [HF.out]
            exact ⟨rfl, T9.out⟩
        · skip
          have HF := HC2.out (nrefuse (by rw [HHa.out, HHb.out]; simp)) (by simp) (by simp)
          rw [if_neg (by rw [HU0.out, HU1.out]; simp)] at HF
          have HF := Lib.hid HF
          go_wp2_with ((with_reducible refine wpl_plstore (.tmp 6) (.tmp 80) rfl rfl L7.out rfl rfl rfl rfl rfl ?_); intro w9 R9 g9 e9; have T9 := Lib.hid (t7.out.grown g9 t7.out.size (fun k e => by cases e; omega)); have S9 := Lib.hid R9; clear R9 g9 e9)
          refine bodyPost_ret (plret2 rfl _ S9.out rfl) rfl ?_
          rw [HF.out]
          exact ⟨rfl, T9.out⟩
    · obtain ⟨rfl, rfl⟩ := HYB.out rfl
      cases a0
      · skip
        have HF := Lib.hid (HC3.out (nrefuse (by rw [HHa.out, HHb.out]; simp)) (by simp) 1 2 (by rfl) (by simp))
        have za : ∀ ob, (w7.alloc ob).cell? ⟨w.heap.size + 1, 3, none⟩ = some (.int .u64 (a.e : Int)) := fun ob => ((A7.out.alloc ob).cell 3).trans ya3.out
        have zb : ∀ ob, (w7.alloc ob).cell? ⟨w.heap.size + 1 + 1, 3, none⟩ = some (.int .u64 (b.e : Int)) := fun ob => ((B7.out.alloc ob).cell 3).trans yb3.out
        have zv : ∀ ob, (w7.alloc ob).cell? ⟨w.heap.size, 1, none⟩ = some (.int .i64 t.m) := fun ob => (V7.out.alloc ob).cell 1
        go_wp2_with (first | (with_reducible refine wpl_seg_load aggCm sizeCm (.tmp 106) rfl rfl (A7.out.alloc _) 3 xa HCA.out HCL.out.1 rfl ?_) | (with_reducible refine wpl_seg_load aggCm sizeCm (.tmp 108) rfl rfl (B7.out.alloc _) 3 xb HCB.out HCL.out.2 rfl ?_) | ((with_reducible refine wpl_plstore (.tmp 6) (.tmp 119) rfl rfl (L7.out.alloc _) rfl rfl rfl rfl rfl ?_); intro w9 R9 g9 e9; have T9 := Lib.hid ((t7.out.alloc t7.out.size _).grown g9 (t7.out.alloc t7.out.size _).size (fun k e => by cases e; omega)); have S9 := Lib.hid R9; clear R9 g9 e9))
        refine bodyPost_ret (plret2 rfl _ S9.out rfl) rfl ?_
        rw [HF.out]
        exact ⟨rfl, T9.out⟩
      cases a1
      · skip
        have HF := Lib.hid (HC3.out (nrefuse (by rw [HHa.out, HHb.out]; simp)) (by simp) 1 2 (by rfl) (by simp))
        have za : ∀ ob, (w7.alloc ob).cell? ⟨w.heap.size + 1, 3, none⟩ = some (.int .u64 (a.e : Int)) := fun ob => ((A7.out.alloc ob).cell 3).trans ya3.out
        have zb : ∀ ob, (w7.alloc ob).cell? ⟨w.heap.size + 1 + 1, 3, none⟩ = some (.int .u64 (b.e : Int)) := fun ob => ((B7.out.alloc ob).cell 3).trans yb3.out
        have zv : ∀ ob, (w7.alloc ob).cell? ⟨w.heap.size, 1, none⟩ = some (.int .i64 t.m) := fun ob => (V7.out.alloc ob).cell 1
        go_wp2_with (first | (with_reducible refine wpl_seg_load aggCm sizeCm (.tmp 106) rfl rfl (A7.out.alloc _) 3 xa HCA.out HCL.out.1 rfl ?_) | (with_reducible refine wpl_seg_load aggCm sizeCm (.tmp 108) rfl rfl (B7.out.alloc _) 3 xb HCB.out HCL.out.2 rfl ?_) | ((with_reducible refine wpl_plstore (.tmp 6) (.tmp 119) rfl rfl (L7.out.alloc _) rfl rfl rfl rfl rfl ?_); intro w9 R9 g9 e9; have T9 := Lib.hid ((t7.out.alloc t7.out.size _).grown g9 (t7.out.alloc t7.out.size _).size (fun k e => by cases e; omega)); have S9 := Lib.hid R9; clear R9 g9 e9))
        refine bodyPost_ret (plret2 rfl _ S9.out rfl) rfl ?_
        rw [HF.out]
        exact ⟨rfl, T9.out⟩
      · skip
        have HF := Lib.hid (HC3.out (nrefuse (by rw [HHa.out, HHb.out]; simp)) (by simp) 1 2 (by rfl) (by simp))
        have za : ∀ ob, (w7.alloc ob).cell? ⟨w.heap.size + 1, 3, none⟩ = some (.int .u64 (a.e : Int)) := fun ob => ((A7.out.alloc ob).cell 3).trans ya3.out
        have zb : ∀ ob, (w7.alloc ob).cell? ⟨w.heap.size + 1 + 1, 3, none⟩ = some (.int .u64 (b.e : Int)) := fun ob => ((B7.out.alloc ob).cell 3).trans yb3.out
        have zv : ∀ ob, (w7.alloc ob).cell? ⟨w.heap.size, 1, none⟩ = some (.int .i64 t.m) := fun ob => (V7.out.alloc ob).cell 1
        go_wp2_with (first | (with_reducible refine wpl_seg_load aggCm sizeCm (.tmp 106) rfl rfl (A7.out.alloc _) 3 xa HCA.out HCL.out.1 rfl ?_) | (with_reducible refine wpl_seg_load aggCm sizeCm (.tmp 108) rfl rfl (B7.out.alloc _) 3 xb HCB.out HCL.out.2 rfl ?_) | ((with_reducible refine wpl_plstore (.tmp 6) (.tmp 119) rfl rfl (L7.out.alloc _) rfl rfl rfl rfl rfl ?_); intro w9 R9 g9 e9; have T9 := Lib.hid ((t7.out.alloc t7.out.size _).grown g9 (t7.out.alloc t7.out.size _).size (fun k e => by cases e; omega)); have S9 := Lib.hid R9; clear R9 g9 e9))
        refine bodyPost_ret (plret2 rfl _ S9.out rfl) rfl ?_
        rw [HF.out]
        exact ⟨rfl, T9.out⟩
  · obtain ⟨rfl, rfl⟩ := HXA.out rfl
    cases y
    · skip
      have HF := Lib.hid (HC3.out (nrefuse (by rw [HHa.out, HHb.out]; simp)) (by simp) 0 1 (by rfl) (by simp))
      have za : ∀ ob, (w7.alloc ob).cell? ⟨w.heap.size + 1, 3, none⟩ = some (.int .u64 (a.e : Int)) := fun ob => ((A7.out.alloc ob).cell 3).trans ya3.out
      have zb : ∀ ob, (w7.alloc ob).cell? ⟨w.heap.size + 1 + 1, 3, none⟩ = some (.int .u64 (b.e : Int)) := fun ob => ((B7.out.alloc ob).cell 3).trans yb3.out
      have zv : ∀ ob, (w7.alloc ob).cell? ⟨w.heap.size, 1, none⟩ = some (.int .i64 t.m) := fun ob => (V7.out.alloc ob).cell 1
      go_wp2_with (first | (with_reducible refine wpl_seg_load aggCm sizeCm (.tmp 106) rfl rfl (A7.out.alloc _) 3 xa HCA.out HCL.out.1 rfl ?_) | (with_reducible refine wpl_seg_load aggCm sizeCm (.tmp 108) rfl rfl (B7.out.alloc _) 3 xb HCB.out HCL.out.2 rfl ?_) | ((with_reducible refine wpl_plstore (.tmp 6) (.tmp 119) rfl rfl (L7.out.alloc _) rfl rfl rfl rfl rfl ?_); intro w9 R9 g9 e9; have T9 := Lib.hid ((t7.out.alloc t7.out.size _).grown g9 (t7.out.alloc t7.out.size _).size (fun k e => by cases e; omega)); have S9 := Lib.hid R9; clear R9 g9 e9))
      refine bodyPost_ret (plret2 rfl _ S9.out rfl) rfl ?_
      rw [HF.out]
      exact ⟨rfl, T9.out⟩
    · by_cases hz : a.e < b.e
      · have HZ := Lib.hid hz
        have d1 : decide ((a.e : Int) < (b.e : Int)) = true := by simp; omega
        clear hz
        cases lq
        · skip
          have HF := Lib.hid (HC3.out (nrefuse (by rw [HHa.out, HHb.out]; simp)) (by simp) 1 2 (by unfold pickC; rw [if_pos (Or.inr ⟨rfl, HZ.out⟩)]) (by rw [HLQ.out]; simp))
          have za : ∀ ob, (w7.alloc ob).cell? ⟨w.heap.size + 1, 3, none⟩ = some (.int .u64 (a.e : Int)) := fun ob => ((A7.out.alloc ob).cell 3).trans ya3.out
          have zb : ∀ ob, (w7.alloc ob).cell? ⟨w.heap.size + 1 + 1, 3, none⟩ = some (.int .u64 (b.e : Int)) := fun ob => ((B7.out.alloc ob).cell 3).trans yb3.out
          have zv : ∀ ob, (w7.alloc ob).cell? ⟨w.heap.size, 1, none⟩ = some (.int .i64 t.m) := fun ob => (V7.out.alloc ob).cell 1
          go_wp2_with (first | (with_reducible refine wpl_seg_load aggCm sizeCm (.tmp 106) rfl rfl (A7.out.alloc _) 3 xa HCA.out HCL.out.1 rfl ?_) | (with_reducible refine wpl_seg_load aggCm sizeCm (.tmp 108) rfl rfl (B7.out.alloc _) 3 xb HCB.out HCL.out.2 rfl ?_) | ((with_reducible refine wpl_plstore (.tmp 6) (.tmp 119) rfl rfl (L7.out.alloc _) rfl rfl rfl rfl rfl ?_); intro w9 R9 g9 e9; have T9 := Lib.hid ((t7.out.alloc t7.out.size _).grown g9 (t7.out.alloc t7.out.size _).size (fun k e => by cases e; omega)); have S9 := Lib.hid R9; clear R9 g9 e9))
          refine bodyPost_ret (plret2 rfl _ S9.out rfl) rfl ?_
          rw [HF.out]
          exact ⟨rfl, T9.out⟩
        · skip
          have HF := Lib.hid (HC3.out (nrefuse (by rw [HHa.out, HHb.out]; simp)) (by simp) 1 3 (by unfold pickC; rw [if_pos (Or.inr ⟨rfl, HZ.out⟩)]) (by rw [HLQ.out]; simp))
          have za : ∀ ob, (w7.alloc ob).cell? ⟨w.heap.size + 1, 3, none⟩ = some (.int .u64 (a.e : Int)) := fun ob => ((A7.out.alloc ob).cell 3).trans ya3.out
          have zb : ∀ ob, (w7.alloc ob).cell? ⟨w.heap.size + 1 + 1, 3, none⟩ = some (.int .u64 (b.e : Int)) := fun ob => ((B7.out.alloc ob).cell 3).trans yb3.out
          have zv : ∀ ob, (w7.alloc ob).cell? ⟨w.heap.size, 1, none⟩ = some (.int .i64 t.m) := fun ob => (V7.out.alloc ob).cell 1
          go_wp2_with (first | (with_reducible refine wpl_seg_load aggCm sizeCm (.tmp 106) rfl rfl (A7.out.alloc _) 3 xa HCA.out HCL.out.1 rfl ?_) | (with_reducible refine wpl_seg_load aggCm sizeCm (.tmp 108) rfl rfl (B7.out.alloc _) 3 xb HCB.out HCL.out.2 rfl ?_) | ((with_reducible refine wpl_plstore (.tmp 6) (.tmp 119) rfl rfl (L7.out.alloc _) rfl rfl rfl rfl rfl ?_); intro w9 R9 g9 e9; have T9 := Lib.hid ((t7.out.alloc t7.out.size _).grown g9 (t7.out.alloc t7.out.size _).size (fun k e => by cases e; omega)); have S9 := Lib.hid R9; clear R9 g9 e9))
          refine bodyPost_ret (plret2 rfl _ S9.out rfl) rfl ?_
          rw [HF.out]
          exact ⟨rfl, T9.out⟩
      · have HZ := Lib.hid hz
        have d1 : decide ((a.e : Int) < (b.e : Int)) = false := by simp; omega
        clear hz
        cases lq
        · skip
          have HF := Lib.hid (HC3.out (nrefuse (by rw [HHa.out, HHb.out]; simp)) (by simp) 0 1 (by unfold pickC; rw [if_neg (by simp; have := HZ.out; omega)]) (by rw [HLQ.out]; simp))
          have za : ∀ ob, (w7.alloc ob).cell? ⟨w.heap.size + 1, 3, none⟩ = some (.int .u64 (a.e : Int)) := fun ob => ((A7.out.alloc ob).cell 3).trans ya3.out
          have zb : ∀ ob, (w7.alloc ob).cell? ⟨w.heap.size + 1 + 1, 3, none⟩ = some (.int .u64 (b.e : Int)) := fun ob => ((B7.out.alloc ob).cell 3).trans yb3.out
          have zv : ∀ ob, (w7.alloc ob).cell? ⟨w.heap.size, 1, none⟩ = some (.int .i64 t.m) := fun ob => (V7.out.alloc ob).cell 1
          go_wp2_with (first | (with_reducible refine wpl_seg_load aggCm sizeCm (.tmp 106) rfl rfl (A7.out.alloc _) 3 xa HCA.out HCL.out.1 rfl ?_) | (with_reducible refine wpl_seg_load aggCm sizeCm (.tmp 108) rfl rfl (B7.out.alloc _) 3 xb HCB.out HCL.out.2 rfl ?_) | ((with_reducible refine wpl_plstore (.tmp 6) (.tmp 119) rfl rfl (L7.out.alloc _) rfl rfl rfl rfl rfl ?_); intro w9 R9 g9 e9; have T9 := Lib.hid ((t7.out.alloc t7.out.size _).grown g9 (t7.out.alloc t7.out.size _).size (fun k e => by cases e; omega)); have S9 := Lib.hid R9; clear R9 g9 e9))
          refine bodyPost_ret (plret2 rfl _ S9.out rfl) rfl ?_
          rw [HF.out]
          exact ⟨rfl, T9.out⟩
        · skip
          have HF := Lib.hid (HC3.out (nrefuse (by rw [HHa.out, HHb.out]; simp)) (by simp) 0 3 (by unfold pickC; rw [if_neg (by simp; have := HZ.out; omega)]) (by rw [HLQ.out]; simp))
          have za : ∀ ob, (w7.alloc ob).cell? ⟨w.heap.size + 1, 3, none⟩ = some (.int .u64 (a.e : Int)) := fun ob => ((A7.out.alloc ob).cell 3).trans ya3.out
          have zb : ∀ ob, (w7.alloc ob).cell? ⟨w.heap.size + 1 + 1, 3, none⟩ = some (.int .u64 (b.e : Int)) := fun ob => ((B7.out.alloc ob).cell 3).trans yb3.out
          have zv : ∀ ob, (w7.alloc ob).cell? ⟨w.heap.size, 1, none⟩ = some (.int .i64 t.m) := fun ob => (V7.out.alloc ob).cell 1
          go_wp2_with (first | (with_reducible refine wpl_seg_load aggCm sizeCm (.tmp 106) rfl rfl (A7.out.alloc _) 3 xa HCA.out HCL.out.1 rfl ?_) | (with_reducible refine wpl_seg_load aggCm sizeCm (.tmp 108) rfl rfl (B7.out.alloc _) 3 xb HCB.out HCL.out.2 rfl ?_) | ((with_reducible refine wpl_plstore (.tmp 6) (.tmp 119) rfl rfl (L7.out.alloc _) rfl rfl rfl rfl rfl ?_); intro w9 R9 g9 e9; have T9 := Lib.hid ((t7.out.alloc t7.out.size _).grown g9 (t7.out.alloc t7.out.size _).size (fun k e => by cases e; omega)); have S9 := Lib.hid R9; clear R9 g9 e9))
          refine bodyPost_ret (plret2 rfl _ S9.out rfl) rfl ?_
          rw [HF.out]
          exact ⟨rfl, T9.out⟩
end Go.Proofs.Yticigjkaangkmaa

