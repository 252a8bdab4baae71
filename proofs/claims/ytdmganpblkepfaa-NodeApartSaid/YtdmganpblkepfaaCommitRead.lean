/- The contracts of node's ReadCommit. No condition but that the bytes are there. -/
import Derived.Test.YtdmganpblkepfaaCommitEq
import Derived.Test.YtdmganpblkepfaaPackBack
import Derived.Laws.Cover3
namespace Go.Proofs.Ytdmganpblkepfaa
open Go.RowKit
def zlive : List UInt8 := List.replicate 32 0
theorem aggCommit : ∀ w, (isAgg 43).run Try.prog w = .ok true w := fun _ => by kernel_rfl
theorem sizeCommit : ∀ w, (sizeOf 43).run Try.prog w = .ok 34 w := fun _ => by kernel_rfl
theorem cret2 {fn : Func} {p u : Tmp} {w : World} {g : Nat} {vs : List Value} (h : fn.results = #[.cell p 43, .tmp u]) (tmps : Array Value) (hB : Blk w g 43 vs) (hn : vs.length = 34) (hp : tmps.getD p undef = .pointer (some ⟨g, 0, none⟩)) :
    (results fn tmps).run Try.prog w = .ok (.tuple #[.agg vs.toArray, tmps.getD u undef]) w :=
  sret2 aggCommit sizeCommit h tmps hB (by rw [List.drop_zero, List.take_of_length_le (by omega)]) hn hp
theorem infoCommit : (Try.prog.info? 43).map (fun i => (i.zero, i.size)) = some (some (.agg (ccs 0 zlive 0).toArray), 34) := by kernel_rfl
theorem zeroCommit (w : World) : (zeroValue 43).run Try.prog w = .ok (.agg (ccs 0 zlive 0).toArray) w := (zero_of_info infoCommit).1 w
theorem segSet_whole {cs vs : List Value} (h : cs.length = vs.length) : segSet cs 0 vs = vs := by
  simp [segSet, List.drop_eq_nil_of_le (Nat.le_of_eq h)]
theorem buildCommit32 (e s : Nat) (w : World) (b0 b1 b2 b3 b4 b5 b6 b7 b8 b9 b10 b11 b12 b13 b14 b15 b16 b17 b18 b19 b20 b21 b22 b23 b24 b25 b26 b27 b28 b29 b30 b31 : UInt8) : (Instr.build 43 #[(0, .int .u64 (e : Int)), (2, .int .u32 (s : Int)), (1, .agg (cl [b0, b1, b2, b3, b4, b5, b6, b7, b8, b9, b10, b11, b12, b13, b14, b15, b16, b17, b18, b19, b20, b21, b22, b23, b24, b25, b26, b27, b28, b29, b30, b31]))]).run Try.prog w = .ok (.agg (ccs e [b0, b1, b2, b3, b4, b5, b6, b7, b8, b9, b10, b11, b12, b13, b14, b15, b16, b17, b18, b19, b20, b21, b22, b23, b24, b25, b26, b27, b28, b29, b30, b31] s).toArray) w := by kernel_rfl
theorem buildCommit (e s : Nat) (L : List UInt8) (hL : L.length = 32) (w : World) : (Instr.build 43 #[(0, .int .u64 (e : Int)), (2, .int .u32 (s : Int)), (1, .agg (cl L))]).run Try.prog w = .ok (.agg (ccs e L s).toArray) w :=
  match L, hL with
  | [b0, b1, b2, b3, b4, b5, b6, b7, b8, b9, b10, b11, b12, b13, b14, b15, b16, b17, b18, b19, b20, b21, b22, b23, b24, b25, b26, b27, b28, b29, b30, b31], _ => buildCommit32 e s w b0 b1 b2 b3 b4 b5 b6 b7 b8 b9 b10 b11 b12 b13 b14 b15 b16 b17 b18 b19 b20 b21 b22 b23 b24 b25 b26 b27 b28 b29 b30 b31
theorem wpl_build3 {P : Program} {w : World} {ops : Array Oper} {rest : List Oper} {o : Oper} {a : Act} {Q : Exit → Act → World → Prop} {ty : TypeId} {v : Value} (parts : List (Nat × Operand)) (vals : List (Nat × Value)) (ho : o.op = .build ty parts.toArray) (hgd : Region.wanted o (yielded ops a.tmps) = true)
    (hv : (parts.map fun x => (x.1, a.eval x.2)) = vals) (hrun : (Instr.build ty vals.toArray).run P w = .ok v w) (h : wpList P ops Q rest (a.put o.dst v) w) : wpList P ops Q (o :: rest) a w := by
  subst hv
  refine BigFrame.wpList_want hgd fun K hK => ?_
  unfold Oper.wp execOp
  simp only [ho, List.map_toArray, Sem.run_bind, hrun, Result.andThen_ok, Sem.run_pure]
  exact hK _ _ h
theorem live_load {w : World} {p : Addr} {L : List UInt8} (hL : L.length = 32) (hc : ∀ j u, (bv L)[j]? = some u → w.cell? (p.add j) = some u) : (loadVar 40 p).run Try.prog w = .ok (.agg (cl L)) w := by
  have h1 := run_loadCells_list (P := Try.prog) w p (bv L) hc
  have h2 : (isAgg 40).run Try.prog w = .ok true w := by kernel_rfl
  have h3 : (sizeOf 40).run Try.prog w = .ok 32 w := by kernel_rfl
  rw [bv_length, hL] at h1
  unfold loadVar
  simp only [Sem.run_bind, h2, Result.andThen_ok, if_true, h3, Sem.run_pure, h1]
  rfl
theorem wpl_live {ops : Array Oper} {rest : List Oper} {o : Oper} {a : Act} {Q : Exit → Act → World → Prop} {w : World} {p : Addr} {L : List UInt8} (x : Operand) (ho : o.op = .load 40 x) (hgd : Region.wanted o (yielded ops a.tmps) = true) (hx : a.eval x = .pointer (some p))
    (hL : L.length = 32) (hc : ∀ j u, (bv L)[j]? = some u → w.cell? (p.add j) = some u) (h : wpList Try.prog ops Q rest (a.put o.dst (.agg (cl L))) w) : wpList Try.prog ops Q (o :: rest) a w := by
  refine BigFrame.wpList_want hgd fun K hK => ?_
  unfold Oper.wp execOp
  simp only [ho, hx, Instr.loadAt, Instr.sureAddr, Sem.run_bind, Sem.run_pure, Result.andThen_ok, live_load hL hc]
  exact hK _ _ h
theorem Own.live_cells {w : World} {base g c : Nat} {L : List UInt8} (h : Own 5 w base (.slice (some ⟨g, 0, none⟩) 32 c) L) : ∀ j u, (bv L)[j]? = some u → w.cell? ((⟨g, 0, none⟩ : Addr).add j) = some u := fun j u hu =>
  World.ownsRow.cells h rfl j u hu
theorem ccs_one (e : Nat) (L : List UInt8) (s : Nat) : ∀ v ∈ ccs e L s, v.oneCell' = true := by
  intro v hv
  unfold ccs at hv
  rcases List.mem_cons.1 hv with rfl | hv
  · rfl
  · rcases List.mem_append.1 hv with hv | hv
    · exact bv_one hv
    · rw [List.mem_singleton.1 hv]; rfl
set_option maxRecDepth 100000 in
theorem cread_no (v : Value) (l : List UInt8) (w : World) (hv : Bytes w w.heap.size v l) (h : l.length ≠ 44) :
    Calls Try.prog 20 #[v] w fun x w' => x = .returned (.tuple #[.agg (ccs 0 zlive 0).toArray, .int .i64 11]) ∧ Below w.heap.size w w' := by
  obtain ⟨A, c, rfl, hc, hm, hr⟩ := hv
  unfold maxLen at hm
  clear hr
  obtain ⟨zc, hz⟩ : ∃ zc, zc = ccs 0 zlive 0 := ⟨_, rfl⟩
  have hl : Hid (zc.length = 34) := Lib.hid (by rw [hz]; exact ccs_length (by simp [zlive]))
  have z := zeroCommit
  rw [← hz] at z ⊢
  have b1 := Lib.hid ((Below.refl w.heap.size w).alloc (Nat.le_refl _) (.cells zc.toArray 43))
  have B1 : Hid (Blk (w.alloc (.cells zc.toArray 43)) w.heap.size 43 zc) := Lib.hid (heap_alloc_new w _)
  have hl0 := Lib.hid (show 0 + 34 ≤ zc.length by rw [hl.out]; omega)
  have d2 : ((l.length : Int) != 44) = true := by simp; omega
  have h1 : Hid (∀ v ∈ zc, v.oneCell' = true) := Lib.hid (by rw [hz]; exact ccs_one _ _ _)
  clear hz
  go_enter Try.func20, Try.ntmps20
  go_wp2_with (with_reducible refine wpl_seg_store sizeCommit (.tmp 2) (.tmp 10) rfl rfl B1.out 0 zc hl.out hl0.out h1.out rfl rfl zc (segSet_whole rfl) ?_; intro w6 B6 g6 e6)
  refine bodyPost_ret (cret2 rfl _ B6 hl.out rfl) rfl ?_
  exact ⟨rfl, b1.out.grown g6 b1.out.size (fun k e => by cases e; exact Nat.le_refl _)⟩
set_option maxRecDepth 100000 in
set_option maxHeartbeats 2000000 in
theorem cread_yes (v : Value) (l : List UInt8) (w : World) (hv : Bytes w w.heap.size v l) (h1 : l.length = 44) :
    Calls Try.prog 20 #[v] w fun x w' => x = .returned (.tuple #[.agg (ccs (le (l.take 8)) (l.drop 12) (le ((l.drop 8).take 4))).toArray, .int .i64 0]) ∧ Below w.heap.size w w' := by
  obtain ⟨A, c, rfl, hc, hm, hr⟩ := id hv
  have HV := Lib.hid hv
  unfold maxLen at hm
  clear hr hv
  obtain ⟨zc, hz⟩ : ∃ zc, zc = ccs 0 zlive 0 := ⟨_, rfl⟩
  have hl : Hid (zc.length = 34) := Lib.hid (by rw [hz]; exact ccs_length (by simp [zlive]))
  have z := zeroCommit
  rw [← hz] at z
  have b1 := Lib.hid ((Below.refl w.heap.size w).alloc (Nat.le_refl _) (.cells zc.toArray 43))
  have B1 : Hid (Blk (w.alloc (.cells zc.toArray 43)) w.heap.size 43 zc) := Lib.hid (heap_alloc_new w _)
  have V1 := Lib.hid ((HV.out.below b1.out).more b1.out.size)
  have d2 : ((l.length : Int) != 44) = false := by simp; omega
  have HL := Lib.hid h1
  clear hz h1
  go_enter Try.func20, Try.ntmps20
  go_wp2_with fail
  ((with_reducible refine (newreader_any _ _ _ V1.out (by have := HL.out; omega)).mono ?_); rintro e w2 ⟨g, h, rfl, hrd, hg, hh, hh2, hb2⟩)
  have T2 := Lib.hid (b1.out.trans (hb2.mono b1.out.size))
  have B2 := Lib.hid (B1.out.after hb2)
  have R2 := Lib.hid hrd
  have G2 := Lib.hid (show w.heap.size < g by have := hg; rw [World.size_alloc] at this; omega)
  have K2 := Lib.hid hh2
  clear hrd hg hh hh2 hb2
  obtain ⟨ee, hee⟩ : ∃ ee, ee = le (l.take 8) := ⟨_, rfl⟩
  obtain ⟨ss, hss⟩ : ∃ ss, ss = le ((l.drop 8).take 4) := ⟨_, rfl⟩
  obtain ⟨r1, hr1⟩ : ∃ r1, r1 = l.drop 8 := ⟨_, rfl⟩
  obtain ⟨r9, hr9⟩ : ∃ r9, r9 = l.drop 12 := ⟨_, rfl⟩
  have h32 : Hid (r9.length = 32) := Lib.hid (by rw [hr9, List.length_drop, HL.out])
  have hs32 : ss < 4294967296 := by
    have a := le_lt ((l.drop 8).take 4)
    have b : 256 ^ ((l.drop 8).take 4).length ≤ 256 ^ 4 := Nat.pow_le_pow_right (by omega) (by rw [List.length_take]; omega)
    rw [hss]
    omega
  have n1 := rnum_yes g h l false 8 w2 R2.out (by show (8 : Nat) ≤ _; rw [HL.out]; omega)
  rw [show wid 8 = 8 by decide, ← hee, ← hr1] at n1
  have N2 : Hid (∀ w, Rd w g h r1 false → Calls Try.prog 37 #[.pointer (some ⟨g, 0, none⟩), .int .i64 4] w fun e w' => e = .returned (.int .u64 (ss : Int)) ∧ Rd w' g h r9 false ∧ w.grownBy w' (some g)) := Lib.hid fun w hrd => by
    have n2 := rnum_yes g h r1 false 4 w hrd (by show 4 ≤ _; rw [hr1, List.length_drop, HL.out]; omega)
    rw [show wid 4 = 4 by decide, show le (r1.take 4) = ss by rw [hss, hr1], show r1.drop 4 = r9 by rw [hr1, hr9, List.drop_drop]] at n2
    exact n2
  have L9 : Hid (∀ w, Rd w g h r9 false → Calls Try.prog 39 #[.pointer (some ⟨g, 0, none⟩)] w fun e w' => e = .returned (.int .i64 32) ∧ w = w') := Lib.hid fun w hrd => by
    have := left_any g h r9 false w hrd
    rw [h32.out] at this
    exact this
  have Y9 : Hid (∀ w, Rd w g h r9 false → h < w.heap.size → Calls Try.prog 38 #[.pointer (some ⟨g, 0, none⟩), .int .i64 32] w fun e w' => ∃ g' c', e = .returned (.slice (some ⟨g', 0, none⟩) 32 c') ∧ w.heap.size ≤ g' ∧ Own 5 w' w.heap.size (.slice (some ⟨g', 0, none⟩) 32 c') r9 ∧ Rd w' g h [] false ∧ w.grownBy w' (some g)) := Lib.hid fun w hrd hh => by
    have := rbytes_back g h r9 [] w (by rw [List.append_nil]; exact hrd) hh (by rw [List.append_nil, h32.out]; omega)
    rw [h32.out] at this
    exact this
  have HEE := Lib.hid hee
  have HSS := Lib.hid hss
  have HR9 := Lib.hid hr9
  clear hee hss hr1 hr9
  go_wp2_with fail
  ((with_reducible refine n1.mono ?_); rintro e w3 ⟨rfl, r3, g3⟩)
  have n2 := N2.out w3 r3
  have T3 := Lib.hid (T2.out.grown g3 T2.out.size (fun k e => by cases e; have := G2.out; omega))
  have B3 := Lib.hid (B2.out.grown g3 (by have := G2.out; simp; omega))
  have K3 := Lib.hid (Nat.lt_of_lt_of_le K2.out g3.size)
  clear r3 g3 n1 T2 B2 K2
  go_wp2_with fail
  ((with_reducible refine n2.mono ?_); rintro e w4 ⟨rfl, r4, g4⟩)
  have T4 := Lib.hid (T3.out.grown g4 T3.out.size (fun k e => by cases e; have := G2.out; omega))
  have B4 := Lib.hid (B3.out.grown g4 (by have := G2.out; simp; omega))
  have R4 := Lib.hid r4
  have HRB := Lib.hid (Y9.out w4 r4 (Nat.lt_of_lt_of_le K3.out g4.size))
  clear r4 g4 n2 T3 B3 K3 N2 Y9
  go_wp2_with fail
  ((with_reducible refine (L9.out w4 R4.out).mono ?_); rintro e w' ⟨rfl, hw⟩; rw [← hw]; clear hw w')
  go_wp2_with fail
  ((with_reducible refine HRB.out.mono ?_); rintro e w5 ⟨g5, c5, rfl, hg5, O5, r5, k5⟩)
  have T5 := Lib.hid (T4.out.grown k5 T4.out.size (fun k e => by cases e; have := G2.out; omega))
  have B5 := Lib.hid (B4.out.grown k5 (by have := G2.out; simp; omega))
  have Q5 := Lib.hid O5
  clear O5 r5 k5 hg5 HRB R4 L9
  have hat : (Instr.arrayAt 40 (.slice (some ⟨g5, 0, none⟩) 32 c5)).run Try.prog w5 = .ok (.pointer (some ⟨g5, 0, none⟩)) w5 := run_arrayAt w5 _ _ 32 _ 32 c5 Try.underlying40 (Nat.le_refl _)
  have LC := Lib.hid Q5.out.live_cells
  have BC := Lib.hid (buildCommit ee ss r9 h32.out w5)
  obtain ⟨nc, hnc⟩ : ∃ nc, nc = ccs ee r9 ss := ⟨_, rfl⟩
  rw [← hnc] at BC
  have hn := Lib.hid (show nc.length = 34 by rw [hnc]; exact ccs_length h32.out)
  have ho := Lib.hid (show ∀ v ∈ nc, v.oneCell' = true by rw [hnc]; exact ccs_one _ _ _)
  have hi := Lib.hid (show 0 + 34 ≤ zc.length by rw [hl.out]; omega)
  have HNC := Lib.hid hnc
  have hsg := Lib.hid (segSet_whole (cs := zc) (vs := nc) (by rw [hl.out, hn.out]))
  clear hnc
  go_wp2_with (first
    | (with_reducible refine wpl_live (.tmp 24) rfl rfl rfl h32.out LC.out ?_)
    | (with_reducible refine wpl_build3 [(0, .tmp 18), (2, .tmp 19), (1, .tmp 25)] [(0, .int .u64 (ee : Int)), (2, .int .u32 (ss : Int)), (1, .agg (cl r9))] rfl rfl rfl BC.out ?_)
    | (with_reducible refine wpl_seg_store sizeCommit (.tmp 2) (.tmp 26) rfl rfl B5.out 0 nc hn.out hi.out ho.out rfl rfl nc hsg.out ?_; intro w6 B6 g6 e6))
  refine bodyPost_ret (cret2 rfl _ B6 hn.out rfl) rfl ?_
  rw [← HEE.out, ← HSS.out, ← HR9.out, ← HNC.out]
  exact ⟨rfl, T5.out.grown g6 T5.out.size (fun k e => by cases e; exact Nat.le_refl _)⟩
end Go.Proofs.Ytdmganpblkepfaa
