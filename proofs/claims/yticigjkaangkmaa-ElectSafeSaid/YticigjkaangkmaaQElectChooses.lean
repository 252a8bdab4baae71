/- The walk of ElectChooses: it answers true, and changes nothing that was there. No condition. -/
import Derived.Test.YticigjkaangkmaaQElectOpen
namespace Go.Proofs.Yticigjkaangkmaa
open Go Go.RowKit
theorem boxes3 (w : World) (t : VV) (ra rb : List Value) : Below w.heap.size w (((w.alloc (.cells #[.int .u64 (t.n : Int), .int .i64 t.m, .int .u64 (t.b : Int)] 24)).alloc (.cells ra.toArray 52)).alloc (.cells rb.toArray 52)) ∧
    Blk (((w.alloc (.cells #[.int .u64 (t.n : Int), .int .i64 t.m, .int .u64 (t.b : Int)] 24)).alloc (.cells ra.toArray 52)).alloc (.cells rb.toArray 52)) w.heap.size 24 [.int .u64 (t.n : Int), .int .i64 t.m, .int .u64 (t.b : Int)] ∧
    Blk (((w.alloc (.cells #[.int .u64 (t.n : Int), .int .i64 t.m, .int .u64 (t.b : Int)] 24)).alloc (.cells ra.toArray 52)).alloc (.cells rb.toArray 52)) (w.heap.size + 1) 52 ra ∧
    Blk (((w.alloc (.cells #[.int .u64 (t.n : Int), .int .i64 t.m, .int .u64 (t.b : Int)] 24)).alloc (.cells ra.toArray 52)).alloc (.cells rb.toArray 52)) (w.heap.size + 1 + 1) 52 rb := by
  have b1 := (Below.refl w.heap.size w).alloc (Nat.le_refl _) (.cells #[.int .u64 (t.n : Int), .int .i64 t.m, .int .u64 (t.b : Int)] 24)
  have b2 := b1.alloc b1.size (.cells ra.toArray 52)
  refine ⟨b2.alloc b2.size _, ((Blk.new w _ [.int .u64 (t.n : Int), .int .i64 t.m, .int .u64 (t.b : Int)]).alloc _).alloc _, ?_, ?_⟩
  · have h := Blk.new (w.alloc (.cells #[.int .u64 (t.n : Int), .int .i64 t.m, .int .u64 (t.b : Int)] 24)) 52 ra
    rw [World.size_alloc] at h
    exact h.alloc _
  · have h := Blk.new ((w.alloc (.cells #[.int .u64 (t.n : Int), .int .i64 t.m, .int .u64 (t.b : Int)] 24)).alloc (.cells ra.toArray 52)) 52 rb
    rw [World.size_alloc, World.size_alloc] at h
    exact h
theorem choose2_at (t : VV) {a b : EC} (ha : a.ok) (hb : b.ok) (W : World) (n : Nat) (hn : W.heap.size = n) : Calls Try.prog 22 #[va t, .slice (some ⟨n, 0, none⟩) 2 2] (W.alloc (.cells (crow a ++ crow b).toArray 52)) fun e w' => e = .returned (.tuple #[pv (choose t a b).1, .int .i64 (choose t a b).2]) ∧ Below W.heap.size W w' := by
  subst hn; exact choose2_any t ha hb W
theorem choose3_at (t : VV) {a b c : EC} (ha : a.ok) (hb : b.ok) (hc : c.ok) (W : World) (n : Nat) (hn : W.heap.size = n) : Calls Try.prog 22 #[va t, .slice (some ⟨n, 0, none⟩) 3 3] (W.alloc (.cells (crow a ++ (crow b ++ crow c)).toArray 52)) fun e w' => e = .returned (.tuple #[pv (choose t a b).1, .int .i64 (choose t a b).2]) ∧ Below W.heap.size W w' := by
  rw [← List.append_assoc]; subst hn; exact choose3_any t ha hb hc W
theorem choose1_at (t : VV) {a : EC} (ha : a.ok) (W : World) (n : Nat) (hn : W.heap.size = n) : Calls Try.prog 22 #[va t, .slice (some ⟨n, 0, none⟩) 1 1] (W.alloc (.cells (crow a).toArray 52)) fun e w' => e = .returned (.tuple #[pv (choose t a EC.zero).1, .int .i64 (choose t a EC.zero).2]) ∧ Below W.heap.size W w' := by
  subst hn; exact choose1_any t ha W
theorem bzero (w : World) : (Instr.build 52 #[]).run Try.prog w = .ok (.agg (crow EC.zero).toArray) w := by kernel_rfl
theorem wpl_bzero {w : World} {zr : List Value} (hzr : crow EC.zero = zr) {ops : Array Oper} {rest : List Oper} {o : Oper} {a : Act} {Q : Exit → Act → World → Prop} (ho : o.op = .build 52 #[]) (hgd : Region.wanted o (yielded ops a.tmps) = true)
    (h : wpList Try.prog ops Q rest (a.put o.dst (.agg zr.toArray)) w) : wpList Try.prog ops Q (o :: rest) a w := by
  refine BigFrame.wpList_want hgd fun K hK => ?_
  unfold Oper.wp execOp
  have q : (#[] : Array (Nat × Operand)).map (fun (i, y) => (i, a.eval y)) = #[] := by simp
  simp only [ho, q, Sem.run_bind, bzero w, hzr, Result.andThen_ok]
  exact hK _ _ h
set_option maxRecDepth 100000 in
set_option maxHeartbeats 4000000 in
theorem electChooses_any (u v x : Value) (w : World) (hu : ∃ t, IsView u t) (hv : ∃ a, IsChip v a) (hx : ∃ b, IsChip x b) :
    Calls Try.prog 6 #[u, v, x] w fun e w' => e = .returned (.bool true) ∧ Below w.heap.size w w' := by
  obtain ⟨t, rfl, _⟩ := hu
  obtain ⟨a, rfl, ha⟩ := hv
  obtain ⟨b, rfl, hb⟩ := hx
  have HLA := Lib.hid (crow_len ha)
  have HLB := Lib.hid (crow_len hb)
  have K2 := Lib.hid (fun W n hn => choose2_at t ha hb W n hn)
  have K3 := Lib.hid (fun W n hn => choose3_at t ha hb ha W n hn)
  have K1 := Lib.hid (fun W n hn => choose1_at t ha W n hn)
  have R2 := Lib.hid (fun w => refchoose_any t ha hb w)
  have R1 := Lib.hid (fun w => refchoose_any t ha zero_ok w)
  obtain ⟨p, hp⟩ : ∃ p, (choose t a b).1 = p := ⟨_, rfl⟩
  obtain ⟨er, her⟩ : ∃ er, (choose t a b).2 = er := ⟨_, rfl⟩
  obtain ⟨q, hq⟩ : ∃ q, (choose t a EC.zero).1 = q := ⟨_, rfl⟩
  obtain ⟨fr, hfr⟩ : ∃ fr, (choose t a EC.zero).2 = fr := ⟨_, rfl⟩
  rw [hp, her] at K2 K3 R2
  rw [hq, hfr] at K1 R1
  obtain ⟨ra, hra⟩ : ∃ ra, crow a = ra := ⟨_, rfl⟩
  obtain ⟨rb, hrb⟩ : ∃ rb, crow b = rb := ⟨_, rfl⟩
  obtain ⟨zr, hzr⟩ : ∃ zr, crow EC.zero = zr := ⟨_, rfl⟩
  have HZR := Lib.hid hzr
  rw [hra] at K2 K3 K1 R2 R1 HLA
  rw [hrb] at K2 K3 R2 HLB
  rw [hzr] at R1
  rw [hra, hrb]
  clear hp her hq hfr hra hrb hzr
  obtain ⟨t0, V0, A0, B0⟩ := boxes3 w t ra rb
  have t0 := Lib.hid t0
  have V0 := Lib.hid V0
  have A0 := Lib.hid A0
  have B0 := Lib.hid B0
  go_enter Try.func6, Try.ntmps6
  go_wp2_with fail
  ((with_reducible refine (espeaks_any _).mono ?_); rintro e w1 ⟨rfl, h1⟩)
  have V1 := Lib.hid (V0.out.after h1)
  have A1 := Lib.hid (A0.out.after h1)
  have B1 := Lib.hid (B0.out.after h1)
  have t1 := Lib.hid (t0.out.trans (h1.mono t0.out.size))
  clear h1 V0 A0 B0 t0
  go_wp2_with (first | (with_reducible refine wpl_vload (.tmp 3) rfl rfl V1.out rfl ?_) | (with_reducible refine wpl_cload (.tmp 4) rfl rfl A1.out 0 (all41 HLA.out) HLA.out rfl ?_) | (with_reducible refine wpl_cload (.tmp 5) rfl rfl B1.out 0 (all41 HLB.out) HLB.out rfl ?_) | (with_reducible refine wpl_slice2 (.tmp 21) (.tmp 22) rfl rfl rfl rfl HLA.out HLB.out ?_))
  ((with_reducible refine (K2.out w1 _ rfl).mono ?_); rintro e w2 ⟨rfl, h2⟩)
  have N2 := Lib.hid (Blk.new w2 54 [.int .i64 p.c, .int .i64 p.m, .bool p.f])
  have V2 := Lib.hid ((V1.out.after h2).alloc (.cells #[.int .i64 p.c, .int .i64 p.m, .bool p.f] 54))
  have A2 := Lib.hid ((A1.out.after h2).alloc (.cells #[.int .i64 p.c, .int .i64 p.m, .bool p.f] 54))
  have B2 := Lib.hid ((B1.out.after h2).alloc (.cells #[.int .i64 p.c, .int .i64 p.m, .bool p.f] 54))
  have tx2 := Lib.hid (t1.out.trans (h2.mono t1.out.size))
  have t2 := Lib.hid (tx2.out.alloc tx2.out.size (.cells #[.int .i64 p.c, .int .i64 p.m, .bool p.f] 54))
  clear tx2
  clear h2 V1 A1 B1 t1
  go_wp2_with (first | (with_reducible refine wpl_vload (.tmp 3) rfl rfl V2.out rfl ?_) | (with_reducible refine wpl_cload (.tmp 4) rfl rfl A2.out 0 (all41 HLA.out) HLA.out rfl ?_) | (with_reducible refine wpl_cload (.tmp 5) rfl rfl B2.out 0 (all41 HLB.out) HLB.out rfl ?_))
  ((with_reducible refine (R2.out _).mono ?_); rintro e w3 ⟨rfl, h3⟩)
  have M3 := Lib.hid (Blk.new w3 54 [.int .i64 p.c, .int .i64 p.m, .bool p.f])
  have V3 := Lib.hid ((V2.out.after h3).alloc (.cells #[.int .i64 p.c, .int .i64 p.m, .bool p.f] 54))
  have A3 := Lib.hid ((A2.out.after h3).alloc (.cells #[.int .i64 p.c, .int .i64 p.m, .bool p.f] 54))
  have B3 := Lib.hid ((B2.out.after h3).alloc (.cells #[.int .i64 p.c, .int .i64 p.m, .bool p.f] 54))
  have N3 := Lib.hid ((N2.out.after h3).alloc (.cells #[.int .i64 p.c, .int .i64 p.m, .bool p.f] 54))
  have tx3 := Lib.hid (t2.out.trans (h3.mono t2.out.size))
  have t3 := Lib.hid (tx3.out.alloc tx3.out.size (.cells #[.int .i64 p.c, .int .i64 p.m, .bool p.f] 54))
  clear tx3
  clear h3 V2 A2 B2 N2 t2
  go_wp2_with (first | (with_reducible refine wpl_vload (.tmp 3) rfl rfl V3.out rfl ?_) | (with_reducible refine wpl_cload (.tmp 4) rfl rfl A3.out 0 (all41 HLA.out) HLA.out rfl ?_) | (with_reducible refine wpl_cload (.tmp 5) rfl rfl B3.out 0 (all41 HLB.out) HLB.out rfl ?_) | (with_reducible refine wpl_slice1 (.tmp 36) rfl rfl rfl HLA.out ?_))
  ((with_reducible refine (K1.out _ _ (World.size_alloc _ _)).mono ?_); rintro e w4 ⟨rfl, h4⟩)
  have O4 := Lib.hid (Blk.new w4 54 [.int .i64 q.c, .int .i64 q.m, .bool q.f])
  have V4 := Lib.hid ((V3.out.after h4).alloc (.cells #[.int .i64 q.c, .int .i64 q.m, .bool q.f] 54))
  have A4 := Lib.hid ((A3.out.after h4).alloc (.cells #[.int .i64 q.c, .int .i64 q.m, .bool q.f] 54))
  have B4 := Lib.hid ((B3.out.after h4).alloc (.cells #[.int .i64 q.c, .int .i64 q.m, .bool q.f] 54))
  have N4 := Lib.hid ((N3.out.after h4).alloc (.cells #[.int .i64 q.c, .int .i64 q.m, .bool q.f] 54))
  have M4 := Lib.hid ((M3.out.after h4).alloc (.cells #[.int .i64 q.c, .int .i64 q.m, .bool q.f] 54))
  have tx4 := Lib.hid (t3.out.trans (h4.mono t3.out.size))
  have t4 := Lib.hid (tx4.out.alloc tx4.out.size (.cells #[.int .i64 q.c, .int .i64 q.m, .bool q.f] 54))
  clear tx4
  clear h4 V3 A3 B3 N3 M3 t3
  go_wp2_with (first | (with_reducible refine wpl_vload (.tmp 3) rfl rfl V4.out rfl ?_) | (with_reducible refine wpl_cload (.tmp 4) rfl rfl A4.out 0 (all41 HLA.out) HLA.out rfl ?_) | (with_reducible refine wpl_cload (.tmp 5) rfl rfl B4.out 0 (all41 HLB.out) HLB.out rfl ?_) | (with_reducible refine wpl_bzero HZR.out rfl rfl ?_))
  ((with_reducible refine (R1.out _).mono ?_); rintro e w5 ⟨rfl, h5⟩)
  have P5 := Lib.hid (Blk.new w5 54 [.int .i64 q.c, .int .i64 q.m, .bool q.f])
  have V5 := Lib.hid ((V4.out.after h5).alloc (.cells #[.int .i64 q.c, .int .i64 q.m, .bool q.f] 54))
  have A5 := Lib.hid ((A4.out.after h5).alloc (.cells #[.int .i64 q.c, .int .i64 q.m, .bool q.f] 54))
  have B5 := Lib.hid ((B4.out.after h5).alloc (.cells #[.int .i64 q.c, .int .i64 q.m, .bool q.f] 54))
  have N5 := Lib.hid ((N4.out.after h5).alloc (.cells #[.int .i64 q.c, .int .i64 q.m, .bool q.f] 54))
  have M5 := Lib.hid ((M4.out.after h5).alloc (.cells #[.int .i64 q.c, .int .i64 q.m, .bool q.f] 54))
  have O5 := Lib.hid ((O4.out.after h5).alloc (.cells #[.int .i64 q.c, .int .i64 q.m, .bool q.f] 54))
  have tx5 := Lib.hid (t4.out.trans (h5.mono t4.out.size))
  have t5 := Lib.hid (tx5.out.alloc tx5.out.size (.cells #[.int .i64 q.c, .int .i64 q.m, .bool q.f] 54))
  clear tx5
  clear h5 V4 A4 B4 N4 M4 O4 t4
  go_wp2_with (first | (with_reducible refine wpl_vload (.tmp 3) rfl rfl V5.out rfl ?_) | (with_reducible refine wpl_cload (.tmp 4) rfl rfl A5.out 0 (all41 HLA.out) HLA.out rfl ?_) | (with_reducible refine wpl_cload (.tmp 5) rfl rfl B5.out 0 (all41 HLB.out) HLB.out rfl ?_) | (with_reducible refine wpl_slice3 (.tmp 50) (.tmp 51) (.tmp 52) rfl rfl rfl rfl rfl HLA.out HLB.out HLA.out ?_))
  ((with_reducible refine (K3.out _ _ (World.size_alloc _ _)).mono ?_); rintro e w6 ⟨rfl, h6⟩)
  have U6 := Lib.hid (Blk.new w6 54 [.int .i64 p.c, .int .i64 p.m, .bool p.f])
  have V6 := Lib.hid ((V5.out.after h6).alloc (.cells #[.int .i64 p.c, .int .i64 p.m, .bool p.f] 54))
  have A6 := Lib.hid ((A5.out.after h6).alloc (.cells #[.int .i64 p.c, .int .i64 p.m, .bool p.f] 54))
  have B6 := Lib.hid ((B5.out.after h6).alloc (.cells #[.int .i64 p.c, .int .i64 p.m, .bool p.f] 54))
  have N6 := Lib.hid ((N5.out.after h6).alloc (.cells #[.int .i64 p.c, .int .i64 p.m, .bool p.f] 54))
  have M6 := Lib.hid ((M5.out.after h6).alloc (.cells #[.int .i64 p.c, .int .i64 p.m, .bool p.f] 54))
  have O6 := Lib.hid ((O5.out.after h6).alloc (.cells #[.int .i64 p.c, .int .i64 p.m, .bool p.f] 54))
  have P6 := Lib.hid ((P5.out.after h6).alloc (.cells #[.int .i64 p.c, .int .i64 p.m, .bool p.f] 54))
  have tx6 := Lib.hid (t5.out.trans (h6.mono t5.out.size))
  have t6 := Lib.hid (tx6.out.alloc tx6.out.size (.cells #[.int .i64 p.c, .int .i64 p.m, .bool p.f] 54))
  clear tx6
  clear h6 V5 A5 B5 N5 M5 O5 P5 t5
  go_wp2_with (first | (with_reducible refine wpl_plload (.tmp 7) rfl rfl N6.out rfl ?_) | (with_reducible refine wpl_plload (.tmp 9) rfl rfl M6.out rfl ?_) | (with_reducible refine wpl_plload (.tmp 11) rfl rfl O6.out rfl ?_) | (with_reducible refine wpl_plload (.tmp 13) rfl rfl P6.out rfl ?_) | (with_reducible refine wpl_plload (.tmp 15) rfl rfl U6.out rfl ?_))
  go_ret
  exact ⟨rfl, t6.out⟩
end Go.Proofs.Yticigjkaangkmaa

