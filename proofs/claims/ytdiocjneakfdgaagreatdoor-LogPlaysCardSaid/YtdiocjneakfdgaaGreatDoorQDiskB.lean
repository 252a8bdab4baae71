/- Several texts of the proof, joined: what each has is said at its head. -/
import Derived.Test.YtdiocjneakfdgaaGreatDoorQDiskA
import Derived.Great.BuildSlice
import Derived.Maps.OwnRows
import Derived.Test.YtdiocjneakfdgaaGreatDoorQBbtS
/- The contract of disk's mend. Condition: the table of the check sum holds its sixteen numbers. -/
namespace Go.Proofs.YtdiocjneakfdgaaGreatDoor
open Go.RowKit
set_option maxRecDepth 100000 in
set_option maxHeartbeats 8000000 in
theorem mend_any (L : List UInt8) (hL : L.length = 258) (w : World) (ht : Tab w) :
    Calls Tryz.prog 128 #[.agg (cl L)] w fun e w' => e = .returned (.agg (cl (mendP L))) ∧ Below w.heap.size w w' := by
  have z := zeroPage
  have b0 := phb_two w L pzeros
  have A0 := parr_one w hL pzeros
  have R0 := parr_two w L pzeros_length
  have k1 := read_any L hL _ (ht.below b0 ht.lt)
  have hbl := readM_short L
  have hpl := mendP_length hL
  obtain ⟨rk, hrk⟩ : ∃ rk, rk = (FM.readM L).1 := ⟨_, rfl⟩
  obtain ⟨rb, hrb⟩ : ∃ rb, rb = (FM.readM L).2.1 := ⟨_, rfl⟩
  obtain ⟨rm, hrm⟩ : ∃ rm, rm = (FM.readM L).2.2.1 := ⟨_, rfl⟩
  obtain ⟨re, hre⟩ : ∃ re, re = (FM.readM L).2.2.2 := ⟨_, rfl⟩
  have hmp : mendP L = if re = 0 then (FM.writeM rk rb).1 else L := by unfold mendP; rw [← hrk, ← hrb, ← hre]
  rw [← hrk, ← hrb, ← hrm, ← hre] at k1
  rw [← hrb] at hbl
  have HM := Lib.hid hmp
  have HPL := Lib.hid hpl
  have HLL := Lib.hid hL
  have HT := Lib.hid (ht.below b0 ht.lt)
  have HB := Lib.hid b0
  have HBL := Lib.hid hbl
  obtain ⟨mp, hmpd⟩ : ∃ mp, mp = mendP L := ⟨_, rfl⟩
  rw [← hmpd] at HM HPL ⊢
  clear b0 hrk hrb hrm hre hmp hpl hL ht hbl hmpd
  go_enter Tryz.func128, Tryz.ntmps128
  go_wp2_with (with_reducible refine wpl_pload (.tmp 1) rfl rfl A0.out rfl ?_)
  ((with_reducible refine k1.mono ?_); rintro e w1 ⟨vb, rfl, hvb, hb1⟩)
  have A1 := Lib.hid (A0.out.after hb1)
  have R1 := Lib.hid (R0.out.after hb1)
  have B1 := Lib.hid (HB.out.trans (hb1.mono HB.out.size))
  have T1 := Lib.hid (HT.out.below hb1 HT.out.lt)
  have HVB := Lib.hid hvb
  clear A0 R0 HB HT k1 hvb hb1
  by_cases h0 : re = 0
  · subst h0
    have HM2 := Lib.hid (HM.out.trans (if_pos rfl))
    obtain ⟨Ls, hLs, hfl⟩ := Joined.one HVB.out (Nat.le_refl _) w1.heap.size rfl (w1.heap.size + 1) (Nat.lt_succ_self _) 62
    have b3 : Below w1.heap.size w1 (w1.alloc (.cells #[vb] 62)) := (Below.refl _ _).alloc (Nat.le_refl _) _
    have B3 := Lib.hid (B1.out.trans (b3.mono B1.out.size))
    have R3 := Lib.hid (R1.out.after b3)
    have k3 := write_any rk _ Ls _ (w1.heap.size + 1) (by simp) hLs (T1.out.below b3 T1.out.lt) (by rw [hfl]; have := HBL.out; omega)
    rw [hfl, ← HM2.out] at k3
    obtain ⟨A1', c1', rfl, _⟩ : ∃ A c, vb = .slice A rb.length c ∧ True := by
      obtain ⟨A, c, e, _⟩ := HVB.out
      exact ⟨A, c, e, trivial⟩
    obtain ⟨we, hwe⟩ : ∃ we, we = (FM.writeM rk rb).2 := ⟨_, rfl⟩
    rw [← hwe] at k3
    clear HM hLs hfl b3 HM2 hwe A1 R1 B1 T1
    go_wp2_with fail
    ((with_reducible refine k3.mono ?_); rintro e w4 ⟨rfl, b4⟩)
    have hb5 := Lib.hid (B3.out.trans (b4.mono B3.out.size))
    have hr4 := (R3.out.after b4).lt
    have P5 := (R3.out.after b4).alloc (.cells (cl pzeros) 92)
    have N5 := PArr.new w4 pzeros_length
    clear k3 R3 B3 b4
    go_wp2_with (first
      | (with_reducible refine wpl_pstore (.tmp 7) (.tmp 24) rfl rfl N5 rfl HPL.out rfl ?_; intro w6 N6 g6 e6; have P6 := P5.grown g6 (by omega))
      | (with_reducible refine wpl_pload (.tmp 7) rfl rfl N6 rfl ?_)
      | (with_reducible refine wpl_pstore (.tmp 2) (.tmp 26) rfl rfl P6 rfl HPL.out rfl ?_; intro w7 P7 g7 e7))
    refine bodyPost_ret (pret1' rfl _ P7 rfl) rfl ?_
    exact ⟨rfl, ((hb5.out.alloc hb5.out.size (.cells (cl pzeros) 92)).grown g6 (by rw [World.size_alloc]; have := hb5.out.size; omega) (fun k e => by cases e; exact hb5.out.size)).grown g7 (by rw [e6, World.size_alloc]; have := hb5.out.size; omega) (fun k e => by cases e; omega)⟩
  · have HM2 := Lib.hid (HM.out.trans (if_neg h0))
    have d1 : ((re : Int) != 0) = true := by simpa using h0
    have hLe : Hid (mp = L) := HM2
    clear h0 HM HM2
    go_wp2_with (first
      | (with_reducible refine wpl_pload (.tmp 1) rfl rfl A1.out rfl ?_)
      | (with_reducible refine wpl_pstore (.tmp 2) (.tmp 18) rfl rfl R1.out rfl HLL.out rfl ?_; intro w2 R2 g2 e2; clear e2))
    refine bodyPost_ret (pret1' rfl _ R2 rfl) rfl ?_
    rw [hLe.out]
    exact ⟨rfl, B1.out.grown g2 (by have := B1.out.size; omega) (fun k e => by cases e; omega)⟩
end Go.Proofs.YtdiocjneakfdgaaGreatDoor

/- Slices of pages: one page made a slice, appended to one of the call's own, loaded out of one. No condition. -/
namespace Go.Proofs.YtdiocjneakfdgaaGreatDoor
open Go.RowKit
theorem pgFlat : ∀ (L : List (List UInt8)), (∀ l ∈ L, l.length = 258) → (L.flatMap bv).length = L.length * 258
  | [], _ => rfl
  | l :: L, h => by
    rw [List.flatMap_cons, List.length_append, pgFlat L (fun x hx => h x (List.mem_cons_of_mem _ hx)), bv_length, h l (List.mem_cons_self ..), List.length_cons]
    omega
theorem pgFlat_get {L : List (List UInt8)} (h : ∀ l ∈ L, l.length = 258) {j i : Nat} {l : List UInt8} (hj : L[j]? = some l) (hi : i < 258) : (L.flatMap bv)[j * 258 + i]? = (bv l)[i]? := by
  have hjl := get_lt hj
  have hl : l.length = 258 := h l (List.mem_of_getElem? hj)
  have e : L = L.take j ++ l :: L.drop (j + 1) := by
    rw [← List.getElem?_eq_some_iff.1 hj |>.2]
    rw [← List.drop_eq_getElem_cons hjl, List.take_append_drop]
  have h1 : ((L.take j).flatMap bv).length = j * 258 := by
    rw [pgFlat _ (fun x hx => h x (List.mem_of_mem_take hx)), List.length_take, Nat.min_eq_left (by omega)]
  rw [e, List.flatMap_append, List.flatMap_cons, List.getElem?_append_right (by rw [h1]; omega), h1, Nat.add_sub_cancel_left, List.getElem?_append_left (by rw [bv_length, hl]; exact hi)]
theorem infoPg : (Tryz.prog.info? 92).map (fun i => (i.zero, i.size, i.bytes)) = some (some (.agg (Array.replicate 258 (.int .u8 0))), 258, 258) := by kernel_rfl
theorem pg_fill (Z : List Value) (hZ : Z.length = 258) (L : List UInt8) (hL : L.length = 258) : Instr.fill (fun i => some (i * 258, 258)) Z.toArray [(0, .agg (cl L))] = some (cl L) := by
  have hc : (cl L : Array Value) = (bv L).toArray := by
    apply Array.toList_inj.1
    rw [cl_list]
  have hv : (Value.agg (cl L)).cells = (bv L).toArray := hc
  rw [fill_cons (place := fun i => some (i * 258, 258)) (o := 0) (m := 258) (vs := bv L) (by simp) hv (by rw [bv_length, hL]) (by omega)]
  rw [Instr.fill, List.take_zero, List.nil_append, List.drop_eq_nil_of_le (by omega), List.append_nil, hc]
/-- one page is made a slice -/
theorem wpl_pgslice {ops : Array Oper} {rest : List Oper} {o : Oper} {a : Act} {w : World} {Q : Exit → Act → World → Prop} (hg : o.guard = none) (x : Operand) (ho : o.op = .buildSlice 182 1 #[(0, x)]) {L : List UInt8} (hL : L.length = 258) (hx : a.eval x = .agg (cl L))
    (h : wpList Tryz.prog ops Q rest (a.put o.dst (.slice (some ⟨w.heap.size, 0, none⟩) 1 1)) (w.alloc (.cells (cl L) 92))) : wpList Tryz.prog ops Q (o :: rest) a w := by
  obtain ⟨ti, hi, hq⟩ := Option.map_eq_some_iff.1 infoPg
  simp only [Prod.mk.injEq] at hq
  obtain ⟨hz, hs, hb⟩ := hq
  refine wpList_buildSlice hg 182 92 1 _ ho (cl L) ti _ Tryz.underlying182 hi hz (by rw [hs]; omega) (by rw [hs]; omega) ?_ h
  rw [hs]
  have : ((#[(0, x)] : Array (Nat × Operand)).map fun (i, x) => (i, a.eval x)).toList = [(0, .agg (cl L))] := by simp [hx]
  rw [this]
  obtain ⟨Z, hZ⟩ : ∃ Z : List Value, Z = ((Array.range (1 * 258)).map ((Value.agg (Array.replicate 258 (.int .u8 0))).cells[· % (Value.agg (Array.replicate 258 (.int .u8 0))).cells.size]!)).toList := ⟨_, rfl⟩
  have hZ2 : ((Array.range (1 * 258)).map ((Value.agg (Array.replicate 258 (.int .u8 0))).cells[· % (Value.agg (Array.replicate 258 (.int .u8 0))).cells.size]!)) = Z.toArray := by rw [hZ]
  rw [hZ2]
  exact pg_fill Z (by rw [hZ]; simp) L hL
theorem prows_shape {w : World} {base s : Nat} {e : TypeId} {v : Value} {n : Nat} {xs : List Value} (h : w.ownsRow base e s v n xs) : ∃ A c, v = .slice A n c ∧ n ≤ c ∧ c ≤ maxLen := by
  rcases h.2 with ⟨rfl, rfl⟩ | ⟨g, cap, cur, rfl, _, _, h1, h2, _⟩
  · exact ⟨none, 0, rfl, Nat.le_refl _, by simp [maxLen]⟩
  · exact ⟨_, cap, rfl, h1, h2⟩
/-- a page is appended to a slice of the call's own -/
theorem wpl_append_page {w : World} {base : Nat} {v : Value} {n : Nat} {xs : List Value} {ops : Array Oper} {rest : List Oper} {o : Oper} {a : Act} {Q : Exit → Act → World → Prop}
    (hgd : o.guard = none) (s x : Operand) (ho : o.op = .call { callee := .builtin .append, args := #[s, x], argTypes := #[182, 182] })
    (hv : a.eval s = v) (hown : w.ownsRow base 92 258 v n xs) {g : Nat} {L : List UInt8} (hP : PArr w g L) (hx : a.eval x = .slice (some ⟨g, 0, none⟩) 1 1) (hn : n ≤ 1000) (hbase : base ≤ w.heap.size)
    (h : ∀ A' c' w', w'.ownsRow base 92 258 (.slice A' (n + 1) c') (n + 1) (xs ++ bv L) → w.grownBy w' v.ownBlock → wpList Tryz.prog ops Q rest (a.put o.dst (.slice A' (n + 1) c')) w') : wpList Tryz.prog ops Q (o :: rest) a w := by
  obtain ⟨ti, hi, hq⟩ := Option.map_eq_some_iff.1 infoPg
  simp only [Prod.mk.injEq] at hq
  obtain ⟨hz, hs, hb⟩ := hq
  refine wpList_append_own w hgd s x 182 ho base 92 ti _ 258 258 Tryz.underlying182 hi hz hs hb Array.size_replicate (by omega) v n xs hv hown ⟨g, 0, none⟩ 1 1 (bv L) hx (by rw [bv_length, hP.2]) (fun j u hu => ?_) (fun u hu => bv_one hu) (by simp only [maxLen]; omega) (by omega) hbase ?_
  · rw [add_off, Nat.zero_add, hP.cell, ← Array.getElem?_toList, cl_list]
    exact hu
  · intro v' w' h1 h2 _
    obtain ⟨A', c', rfl, _, _⟩ := prows_shape h1
    exact h A' c' w' h1 h2
/-- v is a slice of these pages, below B -/
def Pages (w : World) (B : Nat) (v : Value) (L : List (List UInt8)) : Prop := ∃ A c, v = .slice A L.length c ∧ L.length ≤ c ∧ c ≤ maxLen ∧ Row w B A (L.flatMap bv) ∧ ∀ l ∈ L, l.length = 258
theorem Pages.nil (w : World) (B : Nat) : Pages w B (.slice none 0 0) [] := ⟨none, 0, rfl, Nat.le_refl _, by simp [maxLen], Row.nil, fun l h => by cases h⟩
theorem Pages.own {w : World} {base : Nat} {v : Value} {L : List (List UInt8)} (h : w.ownsRow base 92 258 v L.length (L.flatMap bv)) (hL : ∀ l ∈ L, l.length = 258) : Pages w w.heap.size v L := by
  obtain ⟨A, c, e, h1, h2⟩ := prows_shape h
  refine ⟨A, c, e, h1, h2, fun j u hu => ?_, hL⟩
  rcases h.2 with ⟨hv', h0⟩ | ⟨g, cap, cur, hv', _, hb, hnc, _, hsz, ht⟩
  · have : L = [] := List.length_eq_zero_iff.1 h0
    subst this
    simp at hu
  · rw [e] at hv'
    obtain ⟨rfl, _, _⟩ := Value.slice.inj hv'
    have hg : g < w.heap.size := by
      rcases Nat.lt_or_ge g w.heap.size with q | q
      · exact q
      · rw [Array.getElem?_eq_none q] at hb; cases hb
    refine ⟨_, rfl, hg, ?_⟩
    rw [add_off, Nat.zero_add]
    have hj := get_lt hu
    rw [← ht] at hu
    simp only [World.cell?, hb]
    rw [List.getElem?_take] at hu
    split at hu
    · rw [← Array.getElem?_toList]; exact hu
    · cases hu
theorem page_load (q : Addr) {l : List UInt8} (hl : l.length = 258) (w : World) (h : ∀ j u, (bv l)[j]? = some u → w.cell? (q.add j) = some u) : (loadVar 92 q).run Tryz.prog w = .ok (.agg (cl l)) w := by
  have h1 := run_loadCells_list (P := Tryz.prog) w q (bv l) h
  have h2 : (isAgg 92).run Tryz.prog w = .ok true w := by kernel_rfl
  have h3 : (sizeOf 92).run Tryz.prog w = .ok 258 w := by kernel_rfl
  unfold loadVar
  simp only [Sem.run_bind, h2, Result.andThen_ok, if_true, h3, Sem.run_pure]
  rw [bv_length, hl] at h1
  rw [h1]
  have hc : (cl l : Array Value) = (bv l).toArray := by
    apply Array.toList_inj.1
    rw [cl_list]
  rw [hc]
  rfl
theorem Pages.at_ {w : World} {B : Nat} {A : Option Addr} {c : Nat} {L : List (List UInt8)} (h : Pages w B (.slice A L.length c) L) {j : Nat} {l : List UInt8} (hj : L[j]? = some l) {w' : World} (hb : Below B w w') :
    ∃ p, A = some p ∧ (loadVar 92 (p.add (j * 258))).run Tryz.prog w' = .ok (.agg (cl l)) w' := by
  obtain ⟨A', c', e, _, _, h3, h4⟩ := h
  obtain ⟨rfl, _, _⟩ := Value.slice.inj e
  have hjl := get_lt hj
  have hl := h4 l (List.mem_of_getElem? hj)
  obtain ⟨p, rfl, _⟩ := h3.at_ (k := j * 258) (by rw [pgFlat L h4]; omega)
  refine ⟨p, rfl, page_load _ hl _ fun i u hu => ?_⟩
  have hi : i < 258 := by have := get_lt hu; rwa [bv_length, hl] at this
  obtain ⟨p', e', hp, hc⟩ := (h3.below hb) (j * 258 + i) u (by rw [pgFlat_get h4 hj hi]; exact hu)
  cases e'
  rw [add_twice]
  exact hc
theorem wpl_pgload {ops : Array Oper} {rest : List Oper} {o : Oper} {a : Act} {w : World} {q : Addr} {v : Value} {Q : Exit → Act → World → Prop} (x : Operand) (ho : o.op = .load 92 x) (hgd : Region.wanted o (yielded ops a.tmps) = true)
    (hx : a.eval x = .pointer (some q)) (hl : (loadVar 92 q).run Tryz.prog w = .ok v w) (h : wpList Tryz.prog ops Q rest (a.put o.dst v) w) : wpList Tryz.prog ops Q (o :: rest) a w := by
  refine BigFrame.wpList_want hgd fun K hK => ?_
  unfold Oper.wp execOp
  simp only [ho, hx, Instr.loadAt, Instr.sureAddr, Sem.run_bind, Sem.run_pure, Result.andThen_ok, hl]
  exact hK _ _ h
end Go.Proofs.YtdiocjneakfdgaaGreatDoor

/- The contracts of disk's settle, at, kept, ahead. Condition: the disk is there, its table sure. -/
namespace Go.Proofs.YtdiocjneakfdgaaGreatDoor
open Go.RowKit
theorem own_below {w w' : World} {base s n : Nat} {e : TypeId} {v : Value} {xs : List Value} (h : w.ownsRow base e s v n xs) (hb : Below w.heap.size w w') : w'.ownsRow base e s v n xs :=
  World.ownsRow.kept h (row := none) ⟨hb.os, hb.tape, hb.output, hb.size, fun k hk _ => hb.block k hk⟩ (by cases v.ownBlock <;> simp)
/-- in block d lies a disk over the chip at a with its table in block t -/
structure Dk (w : World) (d t : Nat) (a : At) (X : DS) : Prop where
  blk : Blk w d 37 [.pointer (some ⟨a.c, 0, none⟩), .pointer (some ⟨t, 0, none⟩), .bool X.u]
  tb : Tb w t a X.l
  dev : Dev w a X.S X.s
  dt : d ≠ t
  da : ¬ a.all d
  good : X.l.good
def At.disk (a : At) (t d : Nat) (j : Nat) : Prop := a.all j ∨ j = t ∨ j = d
section
variable {w w' : World} {d t : Nat} {a : At} {X : DS}
theorem Dk.after (h : Dk w d t a X) (hb : Below w.heap.size w w') : Dk w' d t a X := ⟨h.blk.after hb, h.tb.after hb, h.dev.after hb, h.dt, h.da, h.good⟩
theorem Dk.chg {T : Nat → Prop} (h : Dk w d t a X) (hc : Chg w w' T) (hT : ∀ k, a.disk t d k ∨ k = 0 → ¬ T k) : Dk w' d t a X :=
  ⟨h.blk.chg hc (hT d (.inl (.inr (.inr rfl)))), h.tb.chg hc (hT t (.inl (.inr (.inl rfl)))), h.dev.chg hc (fun k hk => hT k (hk.elim (fun q => .inl (.inl q)) .inr)), h.dt, h.da, h.good⟩
theorem Dk.lt (h : Dk w d t a X) : ∀ k, a.disk t d k → k < w.heap.size := fun k hk => by
  rcases hk with hk | rfl | rfl
  · exact h.dev.lt k hk
  · exact h.tb.blk.lt
  · exact h.blk.lt
theorem Dk.cells (h : Dk w d t a X) : w.cell? ⟨d, 0, none⟩ = some (.pointer (some ⟨a.c, 0, none⟩)) ∧ w.cell? ⟨d, 1, none⟩ = some (.pointer (some ⟨t, 0, none⟩)) ∧ w.cell? ⟨d, 2, none⟩ = some (.bool X.u) := ⟨h.blk.cell 0, h.blk.cell 1, h.blk.cell 2⟩
theorem settle_any (h : Dk w d t a X) (hu : X.u = false) : Calls Tryz.prog 100 #[.pointer (some ⟨d, 0, none⟩)] w fun e w' => e = .returned (.tuple #[]) ∧ w = w' := by
  obtain ⟨_, _, c2⟩ := h.cells
  rw [hu] at c2
  clear h hu
  go_enter Tryz.func100, Tryz.ntmps100
  go_wp2
  (try simp only [Exit.inBlock, Exit.then])
  refine bodyPost_ret (results_none rfl _ _ _) rfl ?_
  exact ⟨rfl, rfl⟩
set_option maxHeartbeats 2000000 in
theorem at_any (h : Dk w d t a X) (hu : X.u = false) (b : Int) : Calls Tryz.prog 73 #[.pointer (some ⟨d, 0, none⟩), .int .i64 b] w fun e w' => e = .returned (.int .i64 (X.at_ b)) ∧ w = w' := by
  obtain ⟨_, c1, _⟩ := h.cells
  have k1 := settle_any h hu
  have k2 := tat_any h.tb h.good.ok b
  unfold DS.at_
  unfold Lay.atOf at k2
  by_cases c : 0 ≤ b ∧ b < ((X.l.n - 6 : Nat) : Int)
  · rw [decide_eq_true c, if_pos c] at k2
    rw [if_pos c]
    clear h hu c
    go_enter Tryz.func73, Tryz.ntmps73
    go_wp2_with (first
      | ((with_reducible refine k1.mono ?_); rintro e w' ⟨rfl, rfl⟩)
      | ((with_reducible refine k2.mono ?_); rintro e w' ⟨rfl, rfl⟩))
    go_ret
    exact ⟨rfl, rfl⟩
  · rw [decide_eq_false c, if_neg c] at k2
    rw [if_neg c]
    clear h hu c
    go_enter Tryz.func73, Tryz.ntmps73
    go_wp2_with (first
      | ((with_reducible refine k1.mono ?_); rintro e w' ⟨rfl, rfl⟩)
      | ((with_reducible refine k2.mono ?_); rintro e w' ⟨rfl, rfl⟩))
    go_ret
    exact ⟨rfl, rfl⟩
/-- a disk's mark is set -/
theorem Dk.mark (h : Dk w d t a X) (u : Bool) (hB : Blk w' d 37 [.pointer (some ⟨a.c, 0, none⟩), .pointer (some ⟨t, 0, none⟩), .bool u]) (g : w.grownBy w' (some d)) : Dk w' d t a ⟨X.S, X.s, X.l, u⟩ := by
  have q : Chg w w' (fun k => k = d) := Chg.of_grown g (fun k e => Option.some.inj e)
  have hT : ¬ 0 = d := fun e => by
    have := h.blk
    have h1 := h.dev.tab 0 (by omega)
    subst e
    rw [h.blk.cell 0] at h1
    cases h1
  exact ⟨hB, h.tb.chg q (fun e => h.dt e.symm), h.dev.chg q (fun k hk => by
    rcases hk with hk | rfl
    · exact fun e => h.da (e ▸ hk)
    · exact hT), h.dt, h.da, h.good⟩
set_option maxHeartbeats 2000000 in
theorem kept_any (h : Dk w d t a X) (er : Int) : Calls Tryz.prog 104 #[.pointer (some ⟨d, 0, none⟩), .int .i64 er] w fun e w' => e = .returned (.int .i64 er) ∧ Dk w' d t a ⟨X.S, X.s, X.l, decide (er ≠ 0)⟩ ∧ Chg w w' (a.disk t d) := by
  have h0 := h.blk
  have HD := Lib.hid h
  obtain ⟨q, hq⟩ : ∃ q, q = decide (er ≠ 0) := ⟨_, rfl⟩
  have d1 : (er != 0) = q := by rw [hq]; by_cases c : er = 0 <;> simp [c]
  rw [← hq]
  clear h hq
  go_enter Tryz.func104, Tryz.ntmps104
  go_wp2_with (with_reducible refine wpl_blk_bool q bool_one (.tmp 9) (.tmp 7) rfl rfl h0 2 (by simp) rfl rfl [.pointer (some ⟨a.c, 0, none⟩), .pointer (some ⟨t, 0, none⟩), .bool q] rfl ?_; intro w1 h1 g1 e1)
  go_ret
  exact ⟨rfl, HD.out.mark q h1 g1, Chg.of_grown g1 (fun k e => .inr (.inr (Option.some.inj e)))⟩
set_option maxRecDepth 100000 in
set_option maxHeartbeats 16000000 in
theorem ahead_any (h : Dk w d t a X) (b k : Nat) (hm : NM.may X.s.off X.S.live X.S.bs.length (b : Int) 0 = 0) (hk : k < 8) :
    Calls Tryz.prog 108 #[.pointer (some ⟨d, 0, none⟩), .int .i64 (b : Int), .int .i64 (k : Int)] w fun e w' => ∃ A c, e = .returned (.tuple #[.slice A k c, .int .i64 0]) ∧ w'.ownsRow w.heap.size 92 258 (.slice A k c) k ((X.S.aheads b k).flatMap bv) ∧ Below w.heap.size w w' := by
  have HX := Lib.hid h
  have HM := Lib.hid hm
  have HK := Lib.hid hk
  have z := zeroPage
  have hk8 : (k : Int) < 8 := by omega
  clear h hm hk
  go_enter Tryz.func108, Tryz.ntmps108
  go_wp2_with fail
  go_loopw [8, 13] (fun v i wr => ∃ j : Nat, j ≤ k ∧ i = .int .i64 j ∧ ∃ A c, v = .slice A j c ∧ wr.ownsRow w.heap.size 92 258 (.slice A j c) j ((X.S.aheads b j).flatMap bv) ∧ Below w.heap.size w wr) (fun _ i _ => k - (intOf i).toNat)
  case atStart => exact ⟨0, Nat.zero_le _, rfl, none, 0, rfl, ⟨rfl, .inl ⟨rfl, rfl⟩⟩, Below.refl _ _⟩
  case round =>
    rename_i wr
    obtain ⟨j, hj, rfl, A, c, rfl, hO, hB⟩ := hrel
    have HO := Lib.hid hO
    have HB := Lib.hid hB
    clear hO hB
    by_cases hlt : j < k
    · have hw := HX.out.after HB.out
      obtain ⟨c0, _, _⟩ := hw.cells
      have hj8 : j < 8 := by have := HK.out; omega
      obtain ⟨m1, m2, m3, m4, _, _⟩ := may_zero HM.out
      have hmj : NM.may X.s.off X.S.live X.S.bs.length (b : Int) (j : Int) = 0 := may_here m1 m2 (by omega) hj8
      have kr := cread_any a X.S X.s (b : Int) (j : Int) wr hw.dev.pc hw.dev.pw
      rw [hmj] at kr
      have hrp : X.S.readPage 0 (b : Int) (j : Int) = pageOf X.S.bs b j := by unfold Ch.readPage; rw [if_pos rfl, Int.toNat_natCast, Int.toNat_natCast]
      rw [hrp] at kr
      have hpl : (pageOf X.S.bs b j).length = 258 := pageOf_length hw.dev.pc.bg.2 (by omega) hj8
      obtain ⟨pg, hpg⟩ : ∃ pg, pg = pageOf X.S.bs b j := ⟨_, rfl⟩
      rw [← hpg] at kr hpl
      have HPL := Lib.hid hpl
      have hah : X.S.aheads b (j + 1) = X.S.aheads b j ++ [mendP pg] := by
        unfold Ch.aheads
        rw [List.range_succ, List.map_append, hpg]
        rfl
      have HAH := Lib.hid hah
      have HMP := Lib.hid (mendP_length hpl)
      have HW := Lib.hid hw
      have hj1 : (j : Int) < 8 := by omega
      have hB3 : ∀ X Y, Below wr.heap.size wr X → (X.alloc (.cells (cl pzeros) 92)).grownBy Y (some X.heap.size) → Below wr.heap.size wr Y := fun X Y b g => (b.alloc b.size _).grown g (by simp; exact Nat.le_succ_of_le b.size) (fun k e => by have := Option.some.inj e; have := b.size; omega)
      clear hw m1 m2 m3 m4 hmj hrp hpg hpl hah
      go_wp2_with (first
        | ((with_reducible refine kr.mono ?_); rintro e w2 ⟨rfl, b2⟩; have N2 := PArr.new w2 pzeros_length)
        | (with_reducible refine wpl_pstore (.tmp 10) (.tmp 24) rfl rfl N2 rfl HPL.out rfl ?_; intro w3 N3 g3 e3; have B3 := hB3 _ _ b2 g3; have km := mend_any pg HPL.out w3 (HW.out.dev.tab.below B3 HW.out.dev.tab.lt))
        | (with_reducible refine wpl_pload (.tmp 10) rfl rfl N3 rfl ?_)
        | ((with_reducible refine km.mono ?_); rintro e w4 ⟨rfl, b4⟩; have B4 := B3.trans (b4.mono B3.size); have P5 := PArr.new w4 HMP.out; have O5 := World.ownsRow.alloc (own_below HO.out B4) (.cells (cl (mendP pg)) 92))
        | (with_reducible refine wpl_pgslice rfl (.tmp 31) rfl HMP.out rfl ?_)
        | (at_builtin; refine wpl_append_page rfl (.tmp 29) (.tmp 32) rfl rfl O5 P5 rfl (by omega) (by rw [World.size_alloc]; have := HB.out.size; have := B4.size; omega) ?_; intro A8 c8 w8 O8 g8))
      have hB5 : Below w.heap.size w (w4.alloc (.cells (cl (mendP pg)) 92)) := (HB.out.trans (B4.mono HB.out.size)).alloc (Nat.le_trans HB.out.size B4.size) _
      have hs5 : w.heap.size ≤ (w4.alloc (.cells (cl (mendP pg)) 92)).heap.size := hB5.size
      have b9 : Below w.heap.size w w8 := hB5.grown g8 hs5 (fun k e => (World.ownsRow.lt HO.out k e).1)
      exact ⟨⟨j + 1, by omega, by go_num, A8, c8, rfl, (by rw [HAH.out, List.flatMap_append, List.flatMap_singleton]; exact O8), b9⟩, by simp [intOf]; omega⟩
    · obtain rfl : j = k := by omega
      go_wp2_with fail
      go_ret2
      exact ⟨A, c, rfl, HO.out, HB.out⟩
end
end Go.Proofs.YtdiocjneakfdgaaGreatDoor

