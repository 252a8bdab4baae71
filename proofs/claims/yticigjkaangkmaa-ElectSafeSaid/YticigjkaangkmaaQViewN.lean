/- Layer 12: what a view's changes answer, and the tie. Condition: the views' numbers fit. -/
import Derived.Test.YticigjkaangkmaaQView
namespace Go.Proofs.Yticigjkaangkmaa
open Go Go.RowKit
/-- a view as a value -/
abbrev va (v : VV) : Value := .agg #[.int .u64 (v.n : Int), .int .i64 v.m, .int .u64 (v.b : Int)]
theorem VV.next_yes {v : VV} {m : Int} {b : Nat} (h : v.right = true) (hn : v.n ≠ 9223372036854775808) : v.next m b = (⟨v.n + 1, m, b⟩, 0) := by unfold VV.next; rw [if_pos ⟨h, hn⟩]
theorem VV.next_no {v : VV} {m : Int} {b : Nat} (h : ¬ (v.right = true ∧ v.n ≠ 9223372036854775808)) : v.next m b = (VV.zero, 1) := by unfold VV.next; rw [if_neg h]
theorem VV.right_n {v : VV} (h : v.right = true) : 1 ≤ v.n ∧ v.n ≤ 9223372036854775808 ∧ 1 ≤ v.m ∧ v.m ≤ 3 := by simpa [VV.right] using h
section
variable {w w' : World} {g n : Nat} {t : TypeId} {x0 x1 x2 y0 y1 y2 : Value}
/-- a view out of a block, and into one -/
theorem wpl_vload {ops : Array Oper} {rest : List Oper} {o : Oper} {a : Act} {Q : Exit → Act → World → Prop} (x : Operand) (ho : o.op = .load 24 x) (hgd : Region.wanted o (yielded ops a.tmps) = true) (hB : Blk w g t [x0, x1, x2]) (hx : a.eval x = .pointer (some ⟨g, 0, none⟩))
    (h : wpList Try.prog ops Q rest (a.put o.dst (.agg #[x0, x1, x2])) w) : wpList Try.prog ops Q (o :: rest) a w :=
  wpl_seg_load aggV sizeV x ho hgd hB 0 [x0, x1, x2] rfl rfl hx h
theorem wpl_vstore {ops : Array Oper} {rest : List Oper} {o : Oper} {a : Act} {Q : Exit → Act → World → Prop} (x y : Operand) (ho : o.op = .store 24 x y) (hgd : Region.wanted o (yielded ops a.tmps) = true) (hB : Blk w g t [x0, x1, x2]) (h0 : y0.oneCell' = true) (h1 : y1.oneCell' = true) (h2 : y2.oneCell' = true) (hx : a.eval x = .pointer (some ⟨g, 0, none⟩)) (hy : a.eval y = .agg #[y0, y1, y2])
    (h : ∀ w', Blk w' g t [y0, y1, y2] → w.grownBy w' (some g) → w'.heap.size = w.heap.size → wpList Try.prog ops Q rest (a.put o.dst undef) w') : wpList Try.prog ops Q (o :: rest) a w :=
  wpl_seg_store sizeV x y ho hgd hB 0 [y0, y1, y2] rfl (by simp) (by intro v hv; simp at hv; rcases hv with rfl | rfl | rfl <;> assumption) hx hy [y0, y1, y2] rfl h
theorem vret1 {fn : Func} {p : Tmp} (h : fn.results = #[.cell p 24]) (tmps : Array Value) (hB : Blk w g t [x0, x1, x2]) (hp : tmps.getD p undef = .pointer (some ⟨g, 0, none⟩)) :
    (results fn tmps).run Try.prog w = .ok (.agg #[x0, x1, x2]) w := sret1 (vs := [x0, x1, x2]) aggV sizeV h tmps hB rfl rfl hp
theorem vret2 {fn : Func} {p u : Tmp} (h : fn.results = #[.cell p 24, .tmp u]) (tmps : Array Value) (hB : Blk w g t [x0, x1, x2]) (hp : tmps.getD p undef = .pointer (some ⟨g, 0, none⟩)) :
    (results fn tmps).run Try.prog w = .ok (.tuple #[.agg #[x0, x1, x2], tmps.getD u undef]) w := sret2 (vs := [x0, x1, x2]) aggV sizeV h tmps hB rfl rfl hp
/-- a box for a view, and one for the answer -/
theorem boxes (w : World) (v : VV) : Below w.heap.size w ((w.alloc (.cells #[.int .u64 (v.n : Int), .int .i64 v.m, .int .u64 (v.b : Int)] 24)).alloc (.cells #[.int .u64 0, .int .i64 0, .int .u64 0] 24)) ∧
    Blk ((w.alloc (.cells #[.int .u64 (v.n : Int), .int .i64 v.m, .int .u64 (v.b : Int)] 24)).alloc (.cells #[.int .u64 0, .int .i64 0, .int .u64 0] 24)) w.heap.size 24 [.int .u64 (v.n : Int), .int .i64 v.m, .int .u64 (v.b : Int)] ∧
    Blk ((w.alloc (.cells #[.int .u64 (v.n : Int), .int .i64 v.m, .int .u64 (v.b : Int)] 24)).alloc (.cells #[.int .u64 0, .int .i64 0, .int .u64 0] 24)) (w.heap.size + 1) 24 [.int .u64 0, .int .i64 0, .int .u64 0] := by
  refine ⟨((Below.refl w.heap.size w).alloc (Nat.le_refl _) _).alloc (by simp) _, ?_, ?_⟩
  · exact (Blk.new w 24 [.int .u64 (v.n : Int), .int .i64 v.m, .int .u64 (v.b : Int)]).alloc _
  · have h := Blk.new (w.alloc (.cells #[.int .u64 (v.n : Int), .int .i64 v.m, .int .u64 (v.b : Int)] 24)) 24 [.int .u64 0, .int .i64 0, .int .u64 0]
    rw [World.size_alloc] at h
    exact h
end
set_option maxRecDepth 100000 in
set_option maxHeartbeats 4000000 in
theorem next_any (v : VV) (m : Int) (b : Nat) (w : World) :
    Calls Try.prog 24 #[va v, .int .i64 m, .int .u64 (b : Int)] w fun e w' => e = .returned (.tuple #[va (v.next m b).1, .int .i64 (v.next m b).2]) ∧ Below w.heap.size w w' := by
  obtain ⟨b1, P1, R1⟩ := boxes w v
  have b1 := Lib.hid b1
  have P1 := Lib.hid P1
  have R1 := Lib.hid R1
  have hgr := Lib.hid R1.out.lt
  obtain ⟨W, hW⟩ : ∃ W, W = (w.alloc (.cells #[.int .u64 (v.n : Int), .int .i64 v.m, .int .u64 (v.b : Int)] 24)).alloc (.cells #[.int .u64 0, .int .i64 0, .int .u64 0] 24) := ⟨_, rfl⟩
  have HW := Lib.hid hW
  rw [← hW] at b1 P1 R1 hgr
  clear hW
  have kr := fun w => right_any v w
  cases hr : v.right
  · rw [hr] at kr
    have HN := Lib.hid (VV.next_no (v := v) (m := m) (b := b) (by rw [hr]; simp))
    clear hr
    go_enter Try.func24, Try.ntmps24
    go_wp2_with fail
    rw [← HW.out]
    ((with_reducible refine (kr _).mono ?_); rintro e w2 ⟨rfl, b2⟩)
    have T2 := Lib.hid (b1.out.trans (b2.mono b1.out.size))
    have R2 := Lib.hid (R1.out.after b2)
    have P2 := Lib.hid (P1.out.after b2)
    clear b2
    go_wp2_with ((with_reducible refine wpl_vstore (.tmp 6) (.tmp 16) rfl rfl R2.out rfl rfl rfl rfl rfl ?_); intro w9 R9 g9 e9; have T9 := Lib.hid (T2.out.grown g9 T2.out.size (fun k e => by cases e; exact Nat.le_succ _)); have S9 := Lib.hid R9; clear R9 g9 e9)
    refine bodyPost_ret (vret2 rfl _ S9.out rfl) rfl ?_
    rw [HN.out]
    exact ⟨rfl, T9.out⟩
  · rw [hr] at kr
    have c0 : Hid (∀ w' : World, Blk w' w.heap.size 24 [.int .u64 (v.n : Int), .int .i64 v.m, .int .u64 (v.b : Int)] → w'.cell? ⟨w.heap.size, 0, none⟩ = some (.int .u64 (v.n : Int))) := Lib.hid (fun w' h => h.cell 0)
    by_cases hn : v.n = 9223372036854775808
    · have HN := Lib.hid (VV.next_no (v := v) (m := m) (b := b) (by rintro ⟨_, q⟩; exact q hn))
      have HD := Lib.hid (show ((v.n : Int) == 9223372036854775808) = true by simp; omega)
      clear hr hn
      go_enter Try.func24, Try.ntmps24
      go_wp2_with fail
      rw [← HW.out]
      ((with_reducible refine (kr _).mono ?_); rintro e w2 ⟨rfl, b2⟩)
      have T2 := Lib.hid (b1.out.trans (b2.mono b1.out.size))
      have R2 := Lib.hid (R1.out.after b2)
      have P2 := Lib.hid (P1.out.after b2)
      clear b2
      have x0 := c0.out _ P2.out
      have d1 := HD.out
      go_wp2_with ((with_reducible refine wpl_vstore (.tmp 6) (.tmp 16) rfl rfl R2.out rfl rfl rfl rfl rfl ?_); intro w9 R9 g9 e9; have T9 := Lib.hid (T2.out.grown g9 T2.out.size (fun k e => by cases e; exact Nat.le_succ _)); have S9 := Lib.hid R9; clear R9 g9 e9)
      refine bodyPost_ret (vret2 rfl _ S9.out rfl) rfl ?_
      rw [HN.out]
      exact ⟨rfl, T9.out⟩
    · have HN := Lib.hid (VV.next_yes (v := v) (m := m) (b := b) hr hn)
      have d1 : ((v.n : Int) == 9223372036854775808) = false := by simp; omega
      have hb := (VV.right_n hr).2.1
      have hw : IntKind.u64.wrap ((v.n : Int) + 1) = (((v.n + 1 : Nat)) : Int) := by rw [IntKind.wrap_u64]; omega
      clear hr
      go_enter Try.func24, Try.ntmps24
      go_wp2_with fail
      rw [← HW.out]
      ((with_reducible refine (kr _).mono ?_); rintro e w2 ⟨rfl, b2⟩)
      have T2 := Lib.hid (b1.out.trans (b2.mono b1.out.size))
      have R2 := Lib.hid (R1.out.after b2)
      have P2 := Lib.hid (P1.out.after b2)
      clear b2
      have x0 := c0.out _ P2.out
      go_wp2_with ((with_reducible refine wpl_vstore (.tmp 6) (.tmp 22) rfl rfl R2.out rfl rfl rfl rfl rfl ?_); intro w9 R9 g9 e9; have T9 := Lib.hid (T2.out.grown g9 T2.out.size (fun k e => by cases e; exact Nat.le_succ _)); have S9 := Lib.hid R9; clear R9 g9 e9)
      refine bodyPost_ret (vret2 rfl _ S9.out rfl) rfl ?_
      rw [HN.out]
      exact ⟨rfl, T9.out⟩
end Go.Proofs.Yticigjkaangkmaa

