/- Layer 12: the document's Grow; the tie. Condition: the tie is there. -/
import Derived.Test.YticigjkaangkmaaQViewR
namespace Go.Proofs.Yticigjkaangkmaa
open Go Go.RowKit
theorem VV.grow_bad {v : VV} {b : Nat} (h : ¬ (v.right = true ∧ v.n ≠ 9223372036854775808)) : v.grow b = (VV.zero, 1) := by
  unfold VV.grow
  split
  · rfl
  · exact VV.next_no h
theorem both_three {v : VV} (h : v.right = true) : (v.has 0 = true ∧ v.has 1 = true) ↔ v.m = 3 := by
  have := VV.right_n h
  rw [has_zero, has_one]
  simp only [decide_eq_true_eq]
  omega
set_option maxRecDepth 100000 in
set_option maxHeartbeats 4000000 in
theorem refgrow_any (v : VV) (b : Nat) (w : World) :
    Calls Try.prog 16 #[va v, .int .u64 (b : Int)] w fun e w' => e = .returned (.tuple #[va (v.grow b).1, .int .i64 (v.grow b).2]) ∧ Below w.heap.size w w' := by
  obtain ⟨b1, P1, R1⟩ := boxes w v
  have b1 := Lib.hid b1
  have P1 := Lib.hid P1
  have R1 := Lib.hid R1
  have hgr := Lib.hid R1.out.lt
  obtain ⟨W, hW⟩ : ∃ W, W = (w.alloc (.cells #[.int .u64 (v.n : Int), .int .i64 v.m, .int .u64 (v.b : Int)] 24)).alloc (.cells #[.int .u64 0, .int .i64 0, .int .u64 0] 24) := ⟨_, rfl⟩
  have HW := Lib.hid hW
  rw [← hW] at b1 P1 R1 hgr
  clear hW
  have kr := fun w => refright_any v w
  cases hr : v.right
  · rw [hr] at kr
    have HN := Lib.hid (VV.grow_bad (v := v) (b := b) (by rw [hr]; simp))
    clear hr
    go_enter Try.func16, Try.ntmps16
    go_wp2_with fail
    rw [← HW.out]
    ((with_reducible refine (kr _).mono ?_); rintro e w2 ⟨rfl, b2⟩)
    have T2 := Lib.hid (b1.out.trans (b2.mono b1.out.size))
    have R2 := Lib.hid (R1.out.after b2)
    have P2 := Lib.hid (P1.out.after b2)
    clear b2
    go_wp2_with ((with_reducible refine wpl_vstore (.tmp 4) (.tmp 19) rfl rfl R2.out rfl rfl rfl rfl rfl ?_); intro w9 R9 g9 e9; have T9 := Lib.hid (T2.out.grown g9 T2.out.size (fun k e => by cases e; exact Nat.le_succ _)); have S9 := Lib.hid R9; clear R9 g9 e9)
    refine bodyPost_ret (vret2 rfl _ S9.out rfl) rfl ?_
    rw [HN.out]
    exact ⟨rfl, T9.out⟩
  · rw [hr] at kr
    have c0 : Hid (∀ w' : World, Blk w' w.heap.size 24 [.int .u64 (v.n : Int), .int .i64 v.m, .int .u64 (v.b : Int)] → w'.cell? ⟨w.heap.size, 0, none⟩ = some (.int .u64 (v.n : Int)) ∧ w'.cell? ⟨w.heap.size, 1, none⟩ = some (.int .i64 v.m)) := Lib.hid (fun w' h => ⟨h.cell 0, h.cell 1⟩)
    by_cases hn : v.n = 9223372036854775808
    · have HN := Lib.hid (VV.grow_bad (v := v) (b := b) (by rintro ⟨_, q⟩; exact q hn))
      have HD := Lib.hid (show ((v.n : Int) == 9223372036854775808) = true by simp; omega)
      clear hr hn
      go_enter Try.func16, Try.ntmps16
      go_wp2_with fail
      rw [← HW.out]
      ((with_reducible refine (kr _).mono ?_); rintro e w2 ⟨rfl, b2⟩)
      have T2 := Lib.hid (b1.out.trans (b2.mono b1.out.size))
      have R2 := Lib.hid (R1.out.after b2)
      have P2 := Lib.hid (P1.out.after b2)
      clear b2
      obtain ⟨x0, x1⟩ := c0.out _ P2.out
      have d1 := HD.out
      go_wp2_with ((with_reducible refine wpl_vstore (.tmp 4) (.tmp 19) rfl rfl R2.out rfl rfl rfl rfl rfl ?_); intro w9 R9 g9 e9; have T9 := Lib.hid (T2.out.grown g9 T2.out.size (fun k e => by cases e; exact Nat.le_succ _)); have S9 := Lib.hid R9; clear R9 g9 e9)
      refine bodyPost_ret (vret2 rfl _ S9.out rfl) rfl ?_
      rw [HN.out]
      exact ⟨rfl, T9.out⟩
    · have d1 : ((v.n : Int) == 9223372036854775808) = false := by simp; omega
      by_cases h3 : v.m = 3
      · have HN := Lib.hid (VV.grow_no (v := v) (b := b) (by have := (both_three hr).2 h3; simp [this]))
        have HD := Lib.hid (show (v.m == 3) = true by simp [h3])
        clear hr hn h3
        go_enter Try.func16, Try.ntmps16
        go_wp2_with fail
        rw [← HW.out]
        ((with_reducible refine (kr _).mono ?_); rintro e w2 ⟨rfl, b2⟩)
        have T2 := Lib.hid (b1.out.trans (b2.mono b1.out.size))
        have R2 := Lib.hid (R1.out.after b2)
        have P2 := Lib.hid (P1.out.after b2)
        clear b2
        obtain ⟨x0, x1⟩ := c0.out _ P2.out
        have d3 := HD.out
        go_wp2_with ((with_reducible refine wpl_vstore (.tmp 4) (.tmp 19) rfl rfl R2.out rfl rfl rfl rfl rfl ?_); intro w9 R9 g9 e9; have T9 := Lib.hid (T2.out.grown g9 T2.out.size (fun k e => by cases e; exact Nat.le_succ _)); have S9 := Lib.hid R9; clear R9 g9 e9)
        refine bodyPost_ret (vret2 rfl _ S9.out rfl) rfl ?_
        rw [HN.out]
        exact ⟨rfl, T9.out⟩
      · have HN := Lib.hid ((VV.grow_yes (v := v) (b := b) (by have := mt (both_three hr).1 h3; rw [Bool.eq_false_iff]; simpa using this)).trans (VV.next_yes hr hn))
        have d3 := beqI h3
        have hb := (VV.right_n hr).2.1
        have hw : IntKind.u64.wrap ((v.n : Int) + 1) = (((v.n + 1 : Nat)) : Int) := by rw [IntKind.wrap_u64]; omega
        clear hr hn h3
        go_enter Try.func16, Try.ntmps16
        go_wp2_with fail
        rw [← HW.out]
        ((with_reducible refine (kr _).mono ?_); rintro e w2 ⟨rfl, b2⟩)
        have T2 := Lib.hid (b1.out.trans (b2.mono b1.out.size))
        have R2 := Lib.hid (R1.out.after b2)
        have P2 := Lib.hid (P1.out.after b2)
        clear b2
        obtain ⟨x0, x1⟩ := c0.out _ P2.out
        go_wp2_with ((with_reducible refine wpl_vstore (.tmp 4) (.tmp 24) rfl rfl R2.out rfl rfl rfl rfl rfl ?_); intro w9 R9 g9 e9; have T9 := Lib.hid (T2.out.grown g9 T2.out.size (fun k e => by cases e; exact Nat.le_succ _)); have S9 := Lib.hid R9; clear R9 g9 e9)
        refine bodyPost_ret (vret2 rfl _ S9.out rfl) rfl ?_
        rw [HN.out]
        exact ⟨rfl, T9.out⟩
theorem yields_c {ops : Array Oper} {o : Oper} {a : Act} {S : World → Prop} {ty : TypeId} {p : Addr} {v : Value} (hag : ∀ w, (isAgg ty).run Try.prog w = .ok false w) (x : Operand) (ho : o.op = .load ty x) (hgd : Region.wanted o (yielded ops a.tmps) = true)
    (hx : a.eval x = .pointer (some p)) (hS : ∀ w, S w → w.cell? p = some v) : YieldsIf Try.prog ops S o v a :=
  .inl ⟨hgd, fun w hw => by
    have hs : (loadVar ty p).run Try.prog w = .ok v w := by
      simp [loadVar, Sem.run_bind, hag, run_load, hS w hw]
    unfold execOp
    simp only [ho, hx, Instr.loadAt, Instr.sureAddr, Sem.run_bind, Sem.run_pure, Result.andThen_ok, hs]⟩
/-- in block g lies a tie that knows a view -/
abbrev VTie (w : World) (g : Nat) (v : VV) : Prop := Blk w g 64 [.int .u64 (v.n : Int), .int .i64 v.m, .int .u64 (v.b : Int)]
theorem newTie_any (w : World) : Calls Try.prog 17 #[] w fun e w' => e = .returned (.pointer (some ⟨w.heap.size, 0, none⟩)) ∧ VTie w' w.heap.size VV.zero ∧ Below w.heap.size w w' := by
  go_enter Try.func17, Try.ntmps17
  go_wp2
  go_ret
  exact ⟨rfl, Blk.new w _ [.int .u64 0, .int .i64 0, .int .u64 0], (Below.refl _ _).alloc (Nat.le_refl _) _⟩
set_option maxRecDepth 100000 in
theorem tget_any {w : World} {g : Nat} {v : VV} (h : VTie w g v) : Calls Try.prog 18 #[.pointer (some ⟨g, 0, none⟩)] w fun e w' => e = .returned (va v) ∧ Below w.heap.size w w' := by
  have H1 := Lib.hid (h.alloc (.cells #[.int .u64 0, .int .i64 0, .int .u64 0] 24))
  have N1 := Lib.hid (Blk.new w 24 [.int .u64 0, .int .i64 0, .int .u64 0])
  have b1 := Lib.hid ((Below.refl w.heap.size w).alloc (Nat.le_refl _) (.cells #[.int .u64 0, .int .i64 0, .int .u64 0] 24))
  clear h
  go_enter Try.func18, Try.ntmps18
  go_wp2_with (first
    | (with_reducible refine wpl_vload (.tmp 5) rfl rfl H1.out rfl ?_)
    | ((with_reducible refine wpl_vstore (.tmp 2) (.tmp 6) rfl rfl N1.out rfl rfl rfl rfl rfl ?_); intro w9 R9 g9 e9; have T9 := Lib.hid (b1.out.grown g9 b1.out.size (fun k e => by cases e; exact Nat.le_refl _)); have S9 := Lib.hid R9; clear R9 g9 e9))
  refine bodyPost_ret (vret1 rfl _ S9.out rfl) rfl ?_
  exact ⟨rfl, T9.out⟩
/-- what Set leaves, and tells -/
def VV.set (k v : VV) : VV := if v.right = true ∧ k.n < v.n then v else k
def VV.setE (k v : VV) : Int := if v.right = true ∧ k.n < v.n then 0 else 1
set_option maxRecDepth 100000 in
set_option maxHeartbeats 600000 in
theorem tset_any {w : World} {g : Nat} {k : VV} (h : VTie w g k) (v : VV) : Calls Try.prog 19 #[.pointer (some ⟨g, 0, none⟩), va v] w fun e w' => e = .returned (.int .i64 (k.setE v)) ∧ VTie w' g (k.set v) ∧ Below g w w' ∧ ∀ (g' : Nat) (t : TypeId) (cs : List Value), g' ≠ g → Blk w g' t cs → Blk w' g' t cs := by
  have b1 := Lib.hid ((Below.refl w.heap.size w).alloc (Nat.le_refl _) (.cells #[.int .u64 (v.n : Int), .int .i64 v.m, .int .u64 (v.b : Int)] 24))
  have P1 := Lib.hid (Blk.new w 24 [.int .u64 (v.n : Int), .int .i64 v.m, .int .u64 (v.b : Int)])
  have HG := Lib.hid h.lt
  have H1 := Lib.hid (h.alloc (.cells #[.int .u64 (v.n : Int), .int .i64 v.m, .int .u64 (v.b : Int)] 24))
  obtain ⟨W, hW⟩ : ∃ W, W = w.alloc (.cells #[.int .u64 (v.n : Int), .int .i64 v.m, .int .u64 (v.b : Int)] 24) := ⟨_, rfl⟩
  have HW := Lib.hid hW
  have kr := fun w => right_any v w
  rw [← hW] at H1
  have hb1 : Hid (Below w.heap.size w W) := Lib.hid (by rw [hW]; exact b1.out)
  have hP1 : Hid (Blk W w.heap.size 24 [.int .u64 (v.n : Int), .int .i64 v.m, .int .u64 (v.b : Int)]) := Lib.hid (by rw [hW]; exact P1.out)
  clear h hW b1 P1
  have b1 := hb1
  have P1 := hP1
  clear hb1 hP1
  cases hr : v.right
  · rw [hr] at kr
    have HE := Lib.hid (show k.setE v = 1 by unfold VV.setE; rw [hr]; rfl)
    have HS := Lib.hid (show k.set v = k by unfold VV.set; rw [hr]; rfl)
    clear hr
    go_enter Try.func19, Try.ntmps19
    go_wp2_with fail
    rw [← HW.out]
    have S0 : Below W.heap.size W W.drew := (Below.refl _ _).drew
    refine wp_region_held_drew (S := (fun w' => Below W.heap.size W w')) (by kernel_rfl) S0 (fun _ => ?_)
    refine wpAnyH_take (i := 0) (v := va v) rfl (by kernel_rfl) (by kernel_rfl) (by kernel_rfl) (fun _ _ _ h => h) (yields_vload (g := w.heap.size) (.tmp 3) (by kernel_rfl) (by kernel_rfl) (by kernel_rfl) (fun w h => P1.out.after h)) S0 ?_
    refine wpAnyH_ready (rs := [1]) (by kernel_rfl) (by simp) (AllReadyH.cons rfl (fun K hK => ?_) AllReadyH.nil)
    go_simp
    ((with_reducible refine (kr _).mono ?_); rintro x3 w3 ⟨rfl, b3⟩)
    have S1 := S0.trans (b3.mono S0.size)
    refine hK.out _ _ S1 (fun _ => ?_)
    clear hK K b3
    refine wpAnyH_take (i := 2) (v := .bool true) rfl (by kernel_rfl) (by kernel_rfl) (by kernel_rfl) (fun _ _ _ h => h) (Or.inl ⟨by kernel_rfl, fun w _ => by go_simp⟩) S1 ?_
    refine wpAnyH_take (i := 3) (v := .bool true) rfl (by kernel_rfl) (by kernel_rfl) (by kernel_rfl) (fun _ _ _ h => h) (Or.inl ⟨by kernel_rfl, fun w _ => by go_simp⟩) S1 ?_
    refine wpAnyH_take (i := 4) (v := undef) rfl (by kernel_rfl) (by kernel_rfl) (by kernel_rfl) (fun _ _ _ h => h) (Or.inr ⟨by kernel_rfl, rfl⟩) S1 ?_
    refine wpAnyH_take (i := 5) (v := undef) rfl (by kernel_rfl) (by kernel_rfl) (by kernel_rfl) (fun _ _ _ h => h) (Or.inr ⟨by kernel_rfl, rfl⟩) S1 ?_
    refine wpAnyH_take (i := 6) (v := undef) rfl (by kernel_rfl) (by kernel_rfl) (by kernel_rfl) (fun _ _ _ h => h) (Or.inr ⟨by kernel_rfl, rfl⟩) S1 ?_
    refine wpAnyH_take (i := 7) (v := undef) rfl (by kernel_rfl) (by kernel_rfl) (by kernel_rfl) (fun _ _ _ h => h) (Or.inr ⟨by kernel_rfl, rfl⟩) S1 ?_
    refine wpAnyH_take (i := 8) (v := undef) rfl (by kernel_rfl) (by kernel_rfl) (by kernel_rfl) (fun _ _ _ h => h) (Or.inr ⟨by kernel_rfl, rfl⟩) S1 ?_
    refine wpAnyH_take (i := 9) (v := undef) rfl (by kernel_rfl) (by kernel_rfl) (by kernel_rfl) (fun _ _ _ h => h) (Or.inr ⟨by kernel_rfl, rfl⟩) S1 ?_
    refine wpAnyH_take (i := 10) (v := undef) rfl (by kernel_rfl) (by kernel_rfl) (by kernel_rfl) (fun _ _ _ h => h) (Or.inr ⟨by kernel_rfl, rfl⟩) S1 ?_
    refine wpAnyH_take (i := 11) (v := undef) rfl (by kernel_rfl) (by kernel_rfl) (by kernel_rfl) (fun _ _ _ h => h) (Or.inr ⟨by kernel_rfl, rfl⟩) S1 ?_
    refine wpAnyH_take (i := 12) (v := .bool true) rfl (by kernel_rfl) (by kernel_rfl) (by kernel_rfl) (fun _ _ _ h => h) (Or.inl ⟨by kernel_rfl, fun w _ => by go_simp⟩) S1 ?_
    refine wpAnyH_done (by kernel_rfl) ?_ _
    go_simp
    go_wp2_with fail
    go_ret
    have T3 := b1.out.trans (S1.mono b1.out.size)
    exact ⟨by rw [HE.out]; rfl, by rw [HS.out]; exact H1.out.after S1, ⟨T3.os, T3.tape, T3.output, T3.size, fun j hj => T3.block j (Nat.lt_trans hj HG.out)⟩, fun g' t cs _ hB => hB.after T3⟩
  · rw [hr] at kr
    by_cases hn : k.n < v.n
    · have HE := Lib.hid (show k.setE v = 0 by unfold VV.setE; rw [if_pos ⟨hr, hn⟩])
      have HS := Lib.hid (show k.set v = v by unfold VV.set; rw [if_pos ⟨hr, hn⟩])
      have d1 : decide ((v.n : Int) ≤ (k.n : Int)) = false := by simp; omega
      clear hr
      go_enter Try.func19, Try.ntmps19
      go_wp2_with fail
      rw [← HW.out]
      have S0 : Below W.heap.size W W.drew := (Below.refl _ _).drew
      refine wp_region_held_drew (S := (fun w' => Below W.heap.size W w')) (by kernel_rfl) S0 (fun _ => ?_)
      refine wpAnyH_take (i := 0) (v := va v) rfl (by kernel_rfl) (by kernel_rfl) (by kernel_rfl) (fun _ _ _ h => h) (yields_vload (g := w.heap.size) (.tmp 3) (by kernel_rfl) (by kernel_rfl) (by kernel_rfl) (fun w h => P1.out.after h)) S0 ?_
      refine wpAnyH_ready (rs := [1]) (by kernel_rfl) (by simp) (AllReadyH.cons rfl (fun K hK => ?_) AllReadyH.nil)
      go_simp
      ((with_reducible refine (kr _).mono ?_); rintro x3 w3 ⟨rfl, b3⟩)
      have S1 := S0.trans (b3.mono S0.size)
      refine hK.out _ _ S1 (fun _ => ?_)
      clear hK K b3
      refine wpAnyH_take (i := 2) (v := .bool false) rfl (by kernel_rfl) (by kernel_rfl) (by kernel_rfl) (fun _ _ _ h => h) (Or.inl ⟨by kernel_rfl, fun w _ => by go_simp⟩) S1 ?_
      refine wpAnyH_take (i := 3) (v := .bool false) rfl (by kernel_rfl) (by kernel_rfl) (by kernel_rfl) (fun _ _ _ h => h) (Or.inl ⟨by kernel_rfl, fun w _ => by go_simp⟩) S1 ?_
      refine wpAnyH_take (i := 4) (v := .pointer (some ⟨w.heap.size, 0, none⟩)) rfl (by kernel_rfl) (by kernel_rfl) (by kernel_rfl) (fun _ _ _ h => h) (Or.inl ⟨by kernel_rfl, fun w _ => by go_simp⟩) S1 ?_
      refine wpAnyH_take (i := 5) (v := .int .u64 (v.n : Int)) rfl (by kernel_rfl) (by kernel_rfl) (by kernel_rfl) (fun _ _ _ h => h) (yields_c (ty := 22) (fun w => by kernel_rfl) (p := ⟨w.heap.size, 0, none⟩) (.tmp 9) (by kernel_rfl) (by kernel_rfl) (by kernel_rfl) (fun w h => (P1.out.after h).cell 0)) S1 ?_
      refine wpAnyH_take (i := 6) (v := .pointer (some ⟨g, 0, none⟩)) rfl (by kernel_rfl) (by kernel_rfl) (by kernel_rfl) (fun _ _ _ h => h) (Or.inl ⟨by kernel_rfl, fun w _ => by go_simp⟩) S1 ?_
      refine wpAnyH_take (i := 7) (v := .pointer (some ⟨g, 0, none⟩)) rfl (by kernel_rfl) (by kernel_rfl) (by kernel_rfl) (fun _ _ _ h => h) (Or.inl ⟨by kernel_rfl, fun w _ => by go_simp⟩) S1 ?_
      refine wpAnyH_take (i := 8) (v := .pointer (some ⟨g, 0, none⟩)) rfl (by kernel_rfl) (by kernel_rfl) (by kernel_rfl) (fun _ _ _ h => h) (Or.inl ⟨by kernel_rfl, fun w _ => by go_simp⟩) S1 ?_
      refine wpAnyH_take (i := 9) (v := .pointer (some ⟨g, 0, none⟩)) rfl (by kernel_rfl) (by kernel_rfl) (by kernel_rfl) (fun _ _ _ h => h) (Or.inl ⟨by kernel_rfl, fun w _ => by go_simp⟩) S1 ?_
      refine wpAnyH_take (i := 10) (v := .int .u64 (k.n : Int)) rfl (by kernel_rfl) (by kernel_rfl) (by kernel_rfl) (fun _ _ _ h => h) (yields_c (ty := 22) (fun w => by kernel_rfl) (p := ⟨g, 0, none⟩) (.tmp 14) (by kernel_rfl) (by kernel_rfl) (by kernel_rfl) (fun w h => (H1.out.after h).cell 0)) S1 ?_
      refine wpAnyH_take (i := 11) (v := .bool false) rfl (by kernel_rfl) (by kernel_rfl) (by kernel_rfl) (fun _ _ _ h => h) (Or.inl ⟨by kernel_rfl, fun w _ => by go_simp⟩) S1 ?_
      refine wpAnyH_take (i := 12) (v := .bool false) rfl (by kernel_rfl) (by kernel_rfl) (by kernel_rfl) (fun _ _ _ h => h) (Or.inl ⟨by kernel_rfl, fun w _ => by go_simp⟩) S1 ?_
      refine wpAnyH_done (by kernel_rfl) ?_ _
      go_simp
      have P3 := Lib.hid (P1.out.after S1)
      have H3 := Lib.hid (H1.out.after S1)
      have T3 := Lib.hid (b1.out.trans (S1.mono b1.out.size))
      clear d1
      go_wp2_with (first
        | (with_reducible refine wpl_vload (.tmp 3) rfl rfl P3.out rfl ?_)
        | ((with_reducible refine wpl_vstore (.tmp 21) (.tmp 19) rfl rfl H3.out rfl rfl rfl rfl rfl ?_); intro w9 R9 g9 e9; have S9 := Lib.hid R9; have G9 := Lib.hid g9; clear R9 g9 e9))
      go_ret
      have T9 : Below g w w9 := (T3.out.mono (Nat.le_of_lt HG.out)).grown G9.out (Nat.le_trans (Nat.le_of_lt HG.out) T3.out.size) (fun q e => by cases e; exact Nat.le_refl _)
      exact ⟨by rw [HE.out]; rfl, by rw [HS.out]; exact S9.out, T9, fun g' t cs hne hB => (hB.after T3.out).grown G9.out (by simpa using hne)⟩
    · have HE := Lib.hid (show k.setE v = 1 by unfold VV.setE; rw [if_neg (fun q => hn q.2)])
      have HS := Lib.hid (show k.set v = k by unfold VV.set; rw [if_neg (fun q => hn q.2)])
      have d1 : v.n ≤ k.n := by omega
      clear hr
      go_enter Try.func19, Try.ntmps19
      go_wp2_with fail
      rw [← HW.out]
      have S0 : Below W.heap.size W W.drew := (Below.refl _ _).drew
      refine wp_region_held_drew (S := (fun w' => Below W.heap.size W w')) (by kernel_rfl) S0 (fun _ => ?_)
      refine wpAnyH_take (i := 0) (v := va v) rfl (by kernel_rfl) (by kernel_rfl) (by kernel_rfl) (fun _ _ _ h => h) (yields_vload (g := w.heap.size) (.tmp 3) (by kernel_rfl) (by kernel_rfl) (by kernel_rfl) (fun w h => P1.out.after h)) S0 ?_
      refine wpAnyH_ready (rs := [1]) (by kernel_rfl) (by simp) (AllReadyH.cons rfl (fun K hK => ?_) AllReadyH.nil)
      go_simp
      ((with_reducible refine (kr _).mono ?_); rintro x3 w3 ⟨rfl, b3⟩)
      have S1 := S0.trans (b3.mono S0.size)
      refine hK.out _ _ S1 (fun _ => ?_)
      clear hK K b3
      refine wpAnyH_take (i := 2) (v := .bool false) rfl (by kernel_rfl) (by kernel_rfl) (by kernel_rfl) (fun _ _ _ h => h) (Or.inl ⟨by kernel_rfl, fun w _ => by go_simp⟩) S1 ?_
      refine wpAnyH_take (i := 3) (v := .bool false) rfl (by kernel_rfl) (by kernel_rfl) (by kernel_rfl) (fun _ _ _ h => h) (Or.inl ⟨by kernel_rfl, fun w _ => by go_simp⟩) S1 ?_
      refine wpAnyH_take (i := 4) (v := .pointer (some ⟨w.heap.size, 0, none⟩)) rfl (by kernel_rfl) (by kernel_rfl) (by kernel_rfl) (fun _ _ _ h => h) (Or.inl ⟨by kernel_rfl, fun w _ => by go_simp⟩) S1 ?_
      refine wpAnyH_take (i := 5) (v := .int .u64 (v.n : Int)) rfl (by kernel_rfl) (by kernel_rfl) (by kernel_rfl) (fun _ _ _ h => h) (yields_c (ty := 22) (fun w => by kernel_rfl) (p := ⟨w.heap.size, 0, none⟩) (.tmp 9) (by kernel_rfl) (by kernel_rfl) (by kernel_rfl) (fun w h => (P1.out.after h).cell 0)) S1 ?_
      refine wpAnyH_take (i := 6) (v := .pointer (some ⟨g, 0, none⟩)) rfl (by kernel_rfl) (by kernel_rfl) (by kernel_rfl) (fun _ _ _ h => h) (Or.inl ⟨by kernel_rfl, fun w _ => by go_simp⟩) S1 ?_
      refine wpAnyH_take (i := 7) (v := .pointer (some ⟨g, 0, none⟩)) rfl (by kernel_rfl) (by kernel_rfl) (by kernel_rfl) (fun _ _ _ h => h) (Or.inl ⟨by kernel_rfl, fun w _ => by go_simp⟩) S1 ?_
      refine wpAnyH_take (i := 8) (v := .pointer (some ⟨g, 0, none⟩)) rfl (by kernel_rfl) (by kernel_rfl) (by kernel_rfl) (fun _ _ _ h => h) (Or.inl ⟨by kernel_rfl, fun w _ => by go_simp⟩) S1 ?_
      refine wpAnyH_take (i := 9) (v := .pointer (some ⟨g, 0, none⟩)) rfl (by kernel_rfl) (by kernel_rfl) (by kernel_rfl) (fun _ _ _ h => h) (Or.inl ⟨by kernel_rfl, fun w _ => by go_simp⟩) S1 ?_
      refine wpAnyH_take (i := 10) (v := .int .u64 (k.n : Int)) rfl (by kernel_rfl) (by kernel_rfl) (by kernel_rfl) (fun _ _ _ h => h) (yields_c (ty := 22) (fun w => by kernel_rfl) (p := ⟨g, 0, none⟩) (.tmp 14) (by kernel_rfl) (by kernel_rfl) (by kernel_rfl) (fun w h => (H1.out.after h).cell 0)) S1 ?_
      refine wpAnyH_take (i := 11) (v := .bool true) rfl (by kernel_rfl) (by kernel_rfl) (by kernel_rfl) (fun _ _ _ h => h) (Or.inl ⟨by kernel_rfl, fun w _ => by go_simp⟩) S1 ?_
      refine wpAnyH_take (i := 12) (v := .bool true) rfl (by kernel_rfl) (by kernel_rfl) (by kernel_rfl) (fun _ _ _ h => h) (Or.inl ⟨by kernel_rfl, fun w _ => by go_simp⟩) S1 ?_
      refine wpAnyH_done (by kernel_rfl) ?_ _
      go_simp
      go_wp2_with fail
      go_ret
      have T3 := b1.out.trans (S1.mono b1.out.size)
      exact ⟨by rw [HE.out]; rfl, by rw [HS.out]; exact H1.out.after S1, ⟨T3.os, T3.tape, T3.output, T3.size, fun j hj => T3.block j (Nat.lt_trans hj HG.out)⟩, fun g' t cs _ hB => hB.after T3⟩
end Go.Proofs.Yticigjkaangkmaa

