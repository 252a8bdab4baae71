/- The contract of parse: a layout out of bytes. Condition: 16 to 40 blocks, the Reader is there. -/
import Derived.Test.YtaafelhjcmgkdaaGreatDoorQBbtA
import Derived.Test.YtaafelhjcmgkdaaGreatDoorQCore
import Derived.Test.YtaafelhjcmgkdaaGreatDoorQNandFlt
namespace Go.Proofs.YtaafelhjcmgkdaaGreatDoor
open Go.RowKit
def Lay.of (n : Nat) : Lay := ⟨n, List.replicate 34 0, List.replicate 40 false⟩
def Lay.setAt (l : Lay) (j b : Nat) : Lay := { l with at_ := l.at_.set j b }
def Lay.setLost (l : Lay) (b : Nat) : Lay := { l with lost := l.lost.set b true }
theorem Lay.of_ok {n : Nat} (h1 : 16 ≤ n) (h2 : n ≤ 40) : (Lay.of n).ok := ⟨h1, h2, by simp [Lay.of], by simp [Lay.of]⟩
theorem Lay.setAt_ok {l : Lay} (h : l.ok) (j b : Nat) : (l.setAt j b).ok := ⟨h.n1, h.n2, by simp [Lay.setAt, h.a], h.o⟩
theorem Lay.setLost_ok {l : Lay} (h : l.ok) (b : Nat) : (l.setLost b).ok := ⟨h.n1, h.n2, h.a, by simp [Lay.setLost, h.o]⟩
theorem Lay.row_setAt {l : Lay} (h : l.ok) {j : Nat} (hj : j < 34) (b : Nat) : l.row.set (1 + j) (.int .i64 (b : Int)) = (l.setAt j b).row := by
  rw [Nat.add_comm, Lay.row, List.set_cons_succ, List.set_append_left _ _ (by simp [iv, h.a, hj])]
  simp [Lay.row, Lay.setAt, iv, List.map_set]
theorem Lay.row_setLost {l : Lay} (h : l.ok) (j : Nat) : l.row.set (35 + j) (.bool true) = (l.setLost j).row := by
  rw [show 35 + j = (34 + j) + 1 by omega, Lay.row, List.set_cons_succ, List.set_append_right _ _ (by simp [iv, h.a]), show 34 + j - (iv l.at_).length = j by simp [iv, h.a]]
  simp [Lay.row, Lay.setLost, List.map_set]
def Lay.takeAt : Nat → Nat → Lay → List UInt8 → Option (Lay × List UInt8)
  | 0, _, l, bs => some (l, bs)
  | k + 1, j, l, bs => if l.isSpare ((bs.headD 0).toNat : Nat) then Lay.takeAt k (j + 1) (l.setAt j (bs.headD 0).toNat) bs.tail else none
def Lay.takeLost : Lay → List UInt8 → Option Lay
  | l, [] => some l
  | l, b :: bs => if l.isSpare (b.toNat : Nat) then Lay.takeLost (l.setLost b.toNat) bs else none
def Lay.parse (n : Nat) (bs : List UInt8) : Option Lay :=
  if (bs.headD 0).toNat = n then (Lay.takeAt (n - 6) 0 (Lay.of n) bs.tail).bind fun x => Lay.takeLost x.1 x.2 else none
theorem aggLay (w : World) : (isAgg 103).run Tryz.prog w = .ok true w := by kernel_rfl
theorem sizeLay (w : World) : (sizeOf 103).run Tryz.prog w = .ok 75 w := by kernel_rfl
theorem zeroLay (w : World) : (zeroValue 103).run Tryz.prog w = .ok (.agg (Lay.of 0).row.toArray) w := by kernel_rfl
theorem buildLay0 (w : World) : (Instr.build 103 #[]).run Tryz.prog w = .ok (.agg (Lay.of 0).row.toArray) w := by kernel_rfl
theorem buildLay (n : Nat) (w : World) : (Instr.build 103 #[(0, .int .i64 (n : Int))]).run Tryz.prog w = .ok (.agg (Lay.of n).row.toArray) w := by kernel_rfl
theorem Lay.one (l : Lay) : ∀ v ∈ l.row, v.oneCell' = true := fun v hv => by
  rcases List.mem_cons.1 hv with rfl | hv
  · rfl
  · rcases List.mem_append.1 hv with h | h
    · obtain ⟨_, _, rfl⟩ := List.mem_map.1 h; rfl
    · obtain ⟨_, _, rfl⟩ := List.mem_map.1 h; rfl
theorem Lay.zero_length : (Lay.of 0).row.length = 75 := rfl
/-- one byte is read, or there is none -/
theorem rnum1 (g h : Nat) (l : List UInt8) (bad : Bool) (w : World) (hr : Rd w g h l bad) :
    Calls Tryz.prog 87 #[.pointer (some ⟨g, 0, none⟩), .int .i64 1] w fun e w' => e = .returned (.int .u64 (((l.headD 0).toNat : Nat) : Int)) ∧ (∃ bad', Rd w' g h l.tail bad') ∧ w.grownBy w' (some g) := by
  have e1 : wid 1 = 1 := rfl
  cases l with
  | nil =>
    refine (rnum_no g h [] bad 1 w hr (by rw [e1]; simp)).mono ?_
    rintro e w' ⟨rfl, h1, h2⟩
    exact ⟨rfl, ⟨_, h1⟩, h2⟩
  | cons b bs =>
    refine (rnum_yes g h (b :: bs) bad 1 w hr (by rw [e1]; simp)).mono ?_
    rintro e w' ⟨rfl, h1, h2⟩
    rw [e1] at h1 ⊢
    refine ⟨?_, ⟨_, h1⟩, h2⟩
    simp [le]
theorem wpl_build {P : Program} {w : World} {ops : Array Oper} {rest : List Oper} {o : Oper} {a : Act} {Q : Exit → Act → World → Prop} {ty : TypeId} {parts : Array (Nat × Operand)} {v : Value} (ho : o.op = .build ty parts) (hgd : Region.wanted o (yielded ops a.tmps) = true)
    (hrun : (Instr.build ty (parts.map fun x => (x.1, a.eval x.2))).run P w = .ok v w) (h : wpList P ops Q rest (a.put o.dst v) w) : wpList P ops Q (o :: rest) a w := by
  refine BigFrame.wpList_want hgd fun K hK => ?_
  unfold Oper.wp execOp
  simp only [ho, Sem.run_bind, hrun, Result.andThen_ok, Sem.run_pure]
  exact hK _ _ h
theorem segSet_all {cs vs : List Value} (h : cs.length = vs.length) : segSet cs 0 vs = vs := by
  simp [segSet, List.drop_eq_nil_of_le (Nat.le_of_eq h)]
theorem lay_ret2 {fn : Func} {p u : Tmp} {w : World} {g : Nat} {t : TypeId} {vs : List Value} (h : fn.results = #[.cell p 103, .tmp u]) (tmps : Array Value) (hB : Blk w g t vs) (hn : vs.length = 75) (hp : tmps.getD p undef = .pointer (some ⟨g, 0, none⟩)) :
    (results fn tmps).run Tryz.prog w = .ok (.tuple #[.agg vs.toArray, tmps.getD u undef]) w :=
  sret2 aggLay sizeLay h tmps hB (by rw [List.drop_zero, List.take_of_length_le (by omega)]) hn hp
theorem Lay.isSpare_lt {l : Lay} {b : Int} (h : l.isSpare b = true) : 2 ≤ b ∧ b < l.n := by
  unfold Lay.isSpare at h
  simp only [Bool.and_eq_true, decide_eq_true_eq] at h
  exact ⟨h.1, h.2.1⟩
theorem takeAt_ok : ∀ (k j : Nat) (l : Lay) (bs : List UInt8), l.ok → ∀ x, Lay.takeAt k j l bs = some x → x.1.ok
  | 0, _, l, bs, h, x, e => by
    cases e
    exact h
  | k + 1, j, l, bs, h, x, e => by
    unfold Lay.takeAt at e
    split at e
    · exact takeAt_ok k (j + 1) _ _ (Lay.setAt_ok h _ _) x e
    · cases e
set_option maxRecDepth 100000 in
set_option maxHeartbeats 8000000 in
theorem parse_any (n : Nat) (hn1 : 16 ≤ n) (hn2 : n ≤ 40) (g q : Nat) (bs : List UInt8) (bad : Bool) (w : World) (hr : Rd w g q bs bad) (hh : q < w.heap.size) :
    Calls Tryz.prog 88 #[.int .i64 (n : Int), .pointer (some ⟨g, 0, none⟩)] w fun e w' => e = .returned (.tuple #[.agg ((Lay.parse n bs).getD (Lay.of 0)).row.toArray, .bool (Lay.parse n bs).isSome]) ∧ Chg w w' (fun k => k = g) := by
  have hg := hr.lt
  have z := zeroLay
  have y0 := buildLay0
  have R0 : Blk ((w.alloc (.cells (Lay.of 0).row.toArray 103)).alloc (.cells (Lay.of 0).row.toArray 103)) w.heap.size 103 (Lay.of 0).row := (Blk.new w _ _).alloc _
  have L0 : Blk ((w.alloc (.cells (Lay.of 0).row.toArray 103)).alloc (.cells (Lay.of 0).row.toArray 103)) (w.heap.size + 1) 103 (Lay.of 0).row := by
    have := Blk.new (w.alloc (.cells (Lay.of 0).row.toArray 103)) 103 (Lay.of 0).row
    rw [World.size_alloc] at this
    exact this
  have b0 : Below w.heap.size w ((w.alloc (.cells (Lay.of 0).row.toArray 103)).alloc (.cells (Lay.of 0).row.toArray 103)) := ((Below.refl _ _).alloc (Nat.le_refl _) _).alloc (by simp) _
  have hln : (Lay.of n).row.length = 75 := rfl
  have hl0 : (Lay.of 0).row.length = 75 := rfl
  have hs0 := segSet_all (hl0.trans hln.symm)
  have HR := Lib.hid R0
  have HB := Lib.hid b0
  have HH := Lib.hid hh
  have HG := Lib.hid hg
  have HQ := Lib.hid hr
  have HL0 := Lib.hid hl0
  have HLN := Lib.hid hln
  clear R0 b0 hr hh hg hl0 hln
  have hsz1 : Hid ((w.heap.size + 1) ≠ g) := Lib.hid (by have := HG.out; omega)
  have hsz0 : Hid (w.heap.size ≠ g) := Lib.hid (by have := HG.out; omega)
  go_enter Tryz.func88, Tryz.ntmps88
  go_wp2_with (with_reducible refine wpl_seg_store sizeLay (.tmp 6) (.tmp 11) rfl rfl L0 0 (Lay.of n).row HLN.out (by rw [HL0.out]; exact Nat.le_refl _) (Lay.one _) rfl rfl _ hs0 ?_; intro w1 L1 g1 e1)
  have R1 := Lib.hid (HR.out.grown g1 (by simp))
  have B1 : Hid (Below w.heap.size w w1) := Lib.hid (HB.out.grown g1 (by simp; omega) (fun k e => by cases e; omega))
  have k1 := rnum1 g q bs bad w1 (HQ.out.same B1.out HH.out)
  obtain ⟨x, hx⟩ : ∃ x, x = (bs.headD 0).toNat := ⟨_, rfl⟩
  rw [← hx] at k1
  have hx256 : x < 256 := by rw [hx]; exact (bs.headD 0).toNat_lt
  have HX := Lib.hid hx
  have HL1 := Lib.hid L1
  clear L0 L1 g1 e1 HR HB hx
  ((with_reducible refine k1.mono ?_); rintro e w2 ⟨rfl, ⟨bad2, Q2⟩, g2⟩)
  have R2 := Lib.hid (R1.out.grown g2 (by simpa using hsz0.out))
  have L2 := Lib.hid (HL1.out.grown g2 (by simpa using hsz1.out))
  have C2 : Hid (Chg w w2 (fun k => k = g ∨ w.heap.size ≤ k)) := Lib.hid ((Chg.of_below ⟨B1.out.os, B1.out.tape, B1.out.output, B1.out.size, B1.out.block⟩).trans (Chg.of_grown g2 (fun k e => .inl (Option.some.inj e))))
  have HQ2 := Lib.hid Q2
  clear k1 R1 B1 HL1 HQ g2 Q2
  by_cases hxn : x = n
  · subst hxn
    have hxx : decide ((x : Int) = (x : Int)) = true := by simp
    have k2 := lsize_any (w.heap.size + 1) 0 (Lay.of x) w2 (L2.out.lay (Lay.of_ok hn1 hn2) (by rw [List.drop_zero, List.take_of_length_le (by rw [HLN.out]; exact Nat.le_refl _)]))
    rw [show (Lay.of x).n = x from rfl] at k2
    go_wp2_with ((with_reducible refine k2.mono ?_); rintro e w' ⟨rfl, rfl⟩)
    obtain ⟨W2, hW2⟩ : ∃ W2, W2 = w2 := ⟨_, rfl⟩
    subst hW2
    clear k2 hxx
    go_loopw [19] (fun i wr => ∃ j : Nat, j ≤ x - 6 ∧ i = .int .i64 j ∧ ∃ (l : Lay) (rest : List UInt8) (bd : Bool), l.ok ∧ l.n = x ∧ Blk wr (w.heap.size + 1) 103 l.row ∧ Blk wr w.heap.size 103 (Lay.of 0).row ∧ Rd wr g q rest bd ∧ Chg w wr (fun k => k = g ∨ w.heap.size ≤ k) ∧ Lay.takeAt (x - 6) 0 (Lay.of x) bs.tail = Lay.takeAt (x - 6 - j) j l rest) (fun i _ => (x - 6) - (intOf i).toNat)
    case atStart => exact ⟨0, Nat.zero_le _, rfl, _, _, _, Lay.of_ok hn1 hn2, rfl, L2.out, R2.out, HQ2.out, C2.out, rfl⟩
    case round =>
      rename_i wr
      obtain ⟨j, hj, rfl, l, rest, bd, hok, hln, hL, hR, hQ, hC, hT⟩ := hrel
      clear L2 R2 HQ2 C2
      have HL := Lib.hid hL
      have HR := Lib.hid hR
      have HQ := Lib.hid hQ
      have HC := Lib.hid hC
      have HT := Lib.hid hT
      have HOK := Lib.hid hok
      have HN := Lib.hid hln
      clear hL hR hQ hC hT hok hln
      by_cases hlt : j < x - 6
      · have k1 := rnum1 g q rest bd wr HQ.out
        obtain ⟨y, hy⟩ : ∃ y, y = (rest.headD 0).toNat := ⟨_, rfl⟩
        rw [← hy] at k1
        have hy256 : y < 256 := by rw [hy]; exact (rest.headD 0).toNat_lt
        have hT2 : Lay.takeAt (x - 6) 0 (Lay.of x) bs.tail = if l.isSpare (y : Int) then Lay.takeAt (x - 6 - (j + 1)) (j + 1) (l.setAt j y) rest.tail else none := by
          rw [HT.out, show x - 6 - j = (x - 6 - (j + 1)) + 1 by omega, Lay.takeAt, ← hy]
        have HT2 := Lib.hid hT2
        have hk2 : ∀ w3, wr.grownBy w3 (some g) → LayAt w3 (w.heap.size + 1) 0 l := fun w3 g3 => (HL.out.grown g3 (by simpa using hsz1.out)).lay HOK.out (by rw [List.drop_zero, List.take_of_length_le (by rw [Lay.row_length HOK.out]; exact Nat.le_refl _)])
        obtain ⟨t, ht⟩ : ∃ t, t = l.isSpare (y : Int) := ⟨_, rfl⟩
        have k2 : ∀ w3, wr.grownBy w3 (some g) → _ := fun w3 g3 => isSpare_any (w.heap.size + 1) 0 l (y : Int) w3 (hk2 w3 g3)
        rw [← ht] at hT2
        simp only [← ht] at k2
        have HT2 := Lib.hid hT2
        clear hT2 ht hy hk2
        cases t with
        | true =>
          have hj34 : j < 34 := by omega
          have hj' : (j : Int) < 34 := by omega
          have HJ := Lib.hid hj34
          go_wp2_with (first
            | ((with_reducible refine k1.mono ?_); rintro e w3 ⟨rfl, ⟨bad3, Q3⟩, g3⟩; have s3 := k2 w3 g3; have L3 := HL.out.grown g3 (by simpa using hsz1.out))
            | ((with_reducible refine s3.mono ?_); rintro e w4 ⟨rfl, k4, rfl⟩; have L4 : Blk (w3.drewN k4) (w.heap.size + 1) 103 l.row := L3)
            | (with_reducible refine wpl_blk_int .i64 (y : Int) int_one (.tmp 32) (.tmp 30) rfl rfl L4 (1 + j) (by rw [Lay.row_length HOK.out]; omega) rfl rfl _ (Lay.row_setAt HOK.out HJ.out y) ?_; intro w5 L5 g5 e5))
          have hszw : w.heap.size ≤ (w3.drewN k4).heap.size := Nat.le_trans HC.out.size g3.size
          have R5 := (HR.out.grown g3 (by simpa using hsz0.out)).grown (w := w3.drewN k4) g5 (by simp)
          have hgl : g < (w3.drewN k4).heap.size := Nat.lt_of_lt_of_le HG.out hszw
          have hql : q < (w3.drewN k4).heap.size := Nat.lt_of_lt_of_le HH.out hszw
          have Q5 := Q3.keep (w' := w5) (g5.block g hgl (by simp; have := HG.out; omega)) (g5.block q hql (by simp; have := HH.out; omega))
          have C5 : Chg w w5 (fun k => k = g ∨ w.heap.size ≤ k) := ((HC.out.trans (Chg.of_grown g3 (fun k e => .inl (Option.some.inj e)))).trans (Chg.of_below (drewN_below w3 k4))).trans (Chg.of_grown g5 (fun k e => .inr (by rw [Option.some.inj e]; omega)))
          exact ⟨⟨j + 1, by omega, by go_num, l.setAt j y, rest.tail, bad3, Lay.setAt_ok HOK.out j y, HN.out, L5, R5, Q5, C5, by rw [HT2.out]; simp⟩, by simp [intOf]; omega⟩
        | false =>
          have hs00 := segSet_all (HL0.out.trans HL0.out.symm)
          go_wp2_with (first
            | ((with_reducible refine k1.mono ?_); rintro e w3 ⟨rfl, ⟨bad3, Q3⟩, g3⟩; have s3 := k2 w3 g3; have R3 := HR.out.grown g3 (by simpa using hsz0.out))
            | ((with_reducible refine s3.mono ?_); rintro e w4 ⟨rfl, k4, rfl⟩; have R4 : Blk (w3.drewN k4) w.heap.size 103 (Lay.of 0).row := R3)
            | (with_reducible refine wpl_seg_store sizeLay (.tmp 4) (.tmp 28) rfl rfl R4 0 (Lay.of 0).row HL0.out (by rw [HL0.out]; exact Nat.le_refl _) (Lay.one _) rfl rfl _ hs00 ?_; intro w5 R5 g5 e5))
          have hp : Lay.parse x bs = none := by
            unfold Lay.parse
            rw [← HX.out, if_pos rfl, HT2.out]
            simp
          refine bodyPost_ret (lay_ret2 rfl _ R5 HL0.out rfl) rfl ?_
          rw [hp]
          exact ⟨rfl, (((HC.out.trans (Chg.of_grown g3 (fun k e => .inl (Option.some.inj e)))).trans (Chg.of_below (drewN_below w3 k4))).trans (Chg.of_grown g5 (fun k e => .inr (by rw [Option.some.inj e]; exact Nat.le_refl _)))).more (fun k hk h => by omega)⟩
      · obtain rfl : j = x - 6 := by omega
        have hT2 : Lay.parse x bs = Lay.takeLost l rest := by
          unfold Lay.parse
          rw [← HX.out, if_pos rfl, HT.out, Nat.sub_self]
          rfl
        have HT2 := Lib.hid hT2
        have d1 : decide (((x - 6 : Nat) : Int) < ((x - 6 : Nat) : Int)) = false := by simp
        obtain ⟨W3, hW3⟩ : ∃ W3, W3 = wr := ⟨_, rfl⟩
        subst hW3
        clear hT2 HT
        go_wp2_with fail
        go_loopw [] (fun wr => ∃ (l : Lay) (rest : List UInt8) (bd : Bool), l.ok ∧ Blk wr (w.heap.size + 1) 103 l.row ∧ Blk wr w.heap.size 103 (Lay.of 0).row ∧ Rd wr g q rest bd ∧ Chg w wr (fun k => k = g ∨ w.heap.size ≤ k) ∧ Lay.parse x bs = Lay.takeLost l rest) (fun wr => match wr.cell? ⟨g, 0, none⟩ with | some (.slice _ n _) => n | _ => 0)
        case atStart => exact ⟨_, _, _, HOK.out, HL.out, HR.out, HQ.out, HC.out, HT2.out⟩
        case round =>
          rename_i wr
          obtain ⟨l, rest, bd, hok, hL, hR, hQ, hC, hT⟩ := hrel
          have hcell : ∃ A c, wr.cell? ⟨g, 0, none⟩ = some (.slice A rest.length c) := by
            obtain ⟨_, A, m, c, rfl, _, _, hblk, _⟩ := hQ
            exact ⟨A, c, by rw [blk_cell hblk]; rfl⟩
          obtain ⟨A0, cc0, hcell⟩ := hcell
          have HCL := Lib.hid hcell
          have HL := Lib.hid hL
          have HR := Lib.hid hR
          have HQ := Lib.hid hQ
          have HC := Lib.hid hC
          have HT := Lib.hid hT
          have HOK := Lib.hid hok
          have kl := left_any g q rest bd wr HQ.out
          clear hL hR hQ hC hT hok hcell
          cases rest with
          | nil =>
            have d2 : decide ((0 : Int) < (([] : List UInt8).length : Int)) = false := by simp
            have L0 := HL.out
            have R0 := HR.out
            have hs1 := segSet_all (HL0.out.trans (Lay.row_length HOK.out).symm)
            have hag := aggLay
            go_wp2_with (first
              | ((with_reducible refine kl.mono ?_); rintro e w3 ⟨rfl, rfl⟩)
              | (with_reducible refine wpl_seg_load aggLay sizeLay (.tmp 6) rfl rfl L0 0 l.row (by rw [List.drop_zero, List.take_of_length_le (by rw [Lay.row_length HOK.out]; exact Nat.le_refl _)]) (Lay.row_length HOK.out) rfl ?_)
              | (with_reducible refine wpl_seg_store sizeLay (.tmp 4) (.tmp 47) rfl rfl R0 0 l.row (Lay.row_length HOK.out) (by rw [HL0.out]; exact Nat.le_refl _) (Lay.one _) rfl rfl _ hs1 ?_; intro w5 R5 g5 e5))
            refine bodyPost_ret (lay_ret2 rfl _ R5 (Lay.row_length HOK.out) rfl) rfl ?_
            rw [HT.out]
            exact ⟨rfl, (HC.out.trans (Chg.of_grown g5 (fun k e => .inr (by rw [Option.some.inj e]; exact Nat.le_refl _)))).more (fun k hk h => by omega)⟩
          | cons b tl =>
            have d2 : decide ((0 : Int) < ((b :: tl).length : Int)) = true := by simp
            have k1 := rnum1 g q (b :: tl) bd wr HQ.out
            have hb : ((b :: tl).headD 0).toNat = b.toNat := rfl
            have htl : (b :: tl).tail = tl := rfl
            rw [hb, htl] at k1
            have hT2 : Lay.parse x bs = if l.isSpare (b.toNat : Nat) then Lay.takeLost (l.setLost b.toNat) tl else none := HT.out
            obtain ⟨y, hy⟩ : ∃ y, y = b.toNat := ⟨_, rfl⟩
            rw [← hy] at k1 hT2
            have hy256 : y < 256 := by rw [hy]; exact b.toNat_lt
            have hk2 : ∀ w3, wr.grownBy w3 (some g) → LayAt w3 (w.heap.size + 1) 0 l := fun w3 g3 => (HL.out.grown g3 (by simpa using hsz1.out)).lay HOK.out (by rw [List.drop_zero, List.take_of_length_le (by rw [Lay.row_length HOK.out]; exact Nat.le_refl _)])
            obtain ⟨t, ht⟩ : ∃ t, t = l.isSpare (y : Int) := ⟨_, rfl⟩
            have k2 : ∀ w3, wr.grownBy w3 (some g) → _ := fun w3 g3 => isSpare_any (w.heap.size + 1) 0 l (y : Int) w3 (hk2 w3 g3)
            rw [← ht] at hT2
            simp only [← ht] at k2
            have HT2 := Lib.hid hT2
            have HTT := Lib.hid ht
            clear hT2 ht hy hk2 hb htl
            cases t with
            | true =>
              have hlt2 := Lay.isSpare_lt HTT.out.symm
              have hn40 := HOK.out.n2
              have hj' : (y : Int) < 40 := by omega
              have hyn : Hid (y < 40) := Lib.hid (by omega)
              clear hlt2 hn40
              go_wp2_with (first
                | ((with_reducible refine kl.mono ?_); rintro e w3 ⟨rfl, rfl⟩)
                | ((with_reducible refine k1.mono ?_); rintro e w3 ⟨rfl, ⟨bad3, Q3⟩, g3⟩; have s3 := k2 w3 g3; have L3 := HL.out.grown g3 (by simpa using hsz1.out))
                | ((with_reducible refine s3.mono ?_); rintro e w4 ⟨rfl, k4, rfl⟩; have L4 : Blk (w3.drewN k4) (w.heap.size + 1) 103 l.row := L3)
                | (with_reducible refine wpl_blk_bool true bool_one (.tmp 46) (.const (.bool true)) rfl rfl L4 (35 + y) (by rw [Lay.row_length HOK.out]; have := hyn.out; omega) rfl rfl _ (Lay.row_setLost HOK.out y) ?_; intro w5 L5 g5 e5; simp only [Act.put]))
              have hszw : w.heap.size ≤ (w3.drewN k4).heap.size := Nat.le_trans HC.out.size g3.size
              have R5 := (HR.out.grown g3 (by simpa using hsz0.out)).grown (w := w3.drewN k4) g5 (by simp)
              have hgl : g < (w3.drewN k4).heap.size := Nat.lt_of_lt_of_le HG.out hszw
              have hql : q < (w3.drewN k4).heap.size := Nat.lt_of_lt_of_le HH.out hszw
              have Q5 := Q3.keep (w' := w5) (g5.block g hgl (by simp; have := HG.out; omega)) (g5.block q hql (by simp; have := HH.out; omega))
              have C5 : Chg w w5 (fun k => k = g ∨ w.heap.size ≤ k) := ((HC.out.trans (Chg.of_grown g3 (fun k e => .inl (Option.some.inj e)))).trans (Chg.of_below (drewN_below w3 k4))).trans (Chg.of_grown g5 (fun k e => .inr (by rw [Option.some.inj e]; omega)))
              have hc5 : ∃ A c, w5.cell? ⟨g, 0, none⟩ = some (.slice A tl.length c) := by
                obtain ⟨_, A, m, c, rfl, _, _, hblk, _⟩ := Q5
                exact ⟨A, c, by rw [blk_cell hblk]; rfl⟩
              obtain ⟨A5, cc5, hc5⟩ := hc5
              exact ⟨⟨l.setLost y, tl, bad3, Lay.setLost_ok HOK.out y, L5, R5, Q5, C5, by rw [HT2.out]; simp⟩, by rw [hc5, HCL.out]; simp⟩
            | false =>
              have hs00 := segSet_all (HL0.out.trans HL0.out.symm)
              go_wp2_with (first
                | ((with_reducible refine kl.mono ?_); rintro e w3 ⟨rfl, rfl⟩)
                | ((with_reducible refine k1.mono ?_); rintro e w3 ⟨rfl, ⟨bad3, Q3⟩, g3⟩; have s3 := k2 w3 g3; have R3 := HR.out.grown g3 (by simpa using hsz0.out))
                | ((with_reducible refine s3.mono ?_); rintro e w4 ⟨rfl, k4, rfl⟩; have R4 : Blk (w3.drewN k4) w.heap.size 103 (Lay.of 0).row := R3)
                | (with_reducible refine wpl_seg_store sizeLay (.tmp 4) (.tmp 43) rfl rfl R4 0 (Lay.of 0).row HL0.out (by rw [HL0.out]; exact Nat.le_refl _) (Lay.one _) rfl rfl _ hs00 ?_; intro w5 R5 g5 e5))
              have hp : Lay.parse x bs = none := by
                rw [HT2.out]
                simp
              refine bodyPost_ret (lay_ret2 rfl _ R5 HL0.out rfl) rfl ?_
              rw [hp]
              exact ⟨rfl, (((HC.out.trans (Chg.of_grown g3 (fun k e => .inl (Option.some.inj e)))).trans (Chg.of_below (drewN_below w3 k4))).trans (Chg.of_grown g5 (fun k e => .inr (by rw [Option.some.inj e]; exact Nat.le_refl _)))).more (fun k hk h => by omega)⟩
  · have d1 : ((x : Int) != (n : Int)) = true := by simp; omega
    have R2' := R2.out
    have hs00 := segSet_all (HL0.out.trans HL0.out.symm)
    have hp : Lay.parse n bs = none := by unfold Lay.parse; rw [← HX.out, if_neg hxn]
    have HP := Lib.hid hp
    clear hxn hp
    go_wp2_with (with_reducible refine wpl_seg_store sizeLay (.tmp 4) (.tmp 17) rfl rfl R2' 0 (Lay.of 0).row HL0.out (by rw [HL0.out]; exact Nat.le_refl _) (Lay.one _) rfl rfl _ hs00 ?_; intro w3 R3 g3 e3)
    refine bodyPost_ret (lay_ret2 rfl _ R3 HL0.out rfl) rfl ?_
    rw [HP.out]
    exact ⟨rfl, (C2.out.trans (Chg.of_grown g3 (fun k e => .inr (by rw [Option.some.inj e]; exact Nat.le_refl _)))).more (fun k hk h => by omega)⟩
end Go.Proofs.YtaafelhjcmgkdaaGreatDoor

