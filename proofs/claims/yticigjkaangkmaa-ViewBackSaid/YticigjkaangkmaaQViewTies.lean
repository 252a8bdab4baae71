/- The walk of ViewTies: it answers true, and changes nothing that was there. No condition. -/
import Derived.Test.YticigjkaangkmaaQViewS
import Derived.Test.YticigjkaangkmaaQViewOpen
namespace Go.Proofs.Yticigjkaangkmaa
open Go Go.RowKit
theorem wpl_vcells {w : World} {q : Addr} {x0 x1 x2 : Value} {ops : Array Oper} {rest : List Oper} {o : Oper} {a : Act} {Q : Exit → Act → World → Prop} (x : Operand) (ho : o.op = .load 24 x) (hgd : Region.wanted o (yielded ops a.tmps) = true) (hx : a.eval x = .pointer (some q)) (hc : ∀ j u, ([x0, x1, x2] : List Value)[j]? = some u → w.cell? (q.add j) = some u)
    (h : wpList Try.prog ops Q rest (a.put o.dst (.agg #[x0, x1, x2])) w) : wpList Try.prog ops Q (o :: rest) a w :=
  wpl_cells (row := [x0, x1, x2]) aggV sizeV x ho hgd hx rfl hc h
set_option maxRecDepth 100000 in
set_option maxHeartbeats 2000000 in
theorem viewTies_any (u : Value) (w : World) (hn : ∃ L, IsViews w w.heap.size u L) :
    Calls Try.prog 4 #[u] w fun e w' => e = .returned (.bool true) ∧ Below w.heap.size w w' := by
  obtain ⟨L, A, c, rfl, hr, _⟩ := hn
  have HR := Lib.hid hr
  clear hr
  by_cases hl : 100 < L.length
  · have d1 : decide ((100 : Int) < (L.length : Int)) = true := by simp; omega
    go_enter Try.func4, Try.ntmps4
    go_wp2_with fail
    refine (vspeaks_any _).mono ?_
    rintro e' w2 ⟨rfl, hb2⟩
    go_wp2
    go_ret
    exact ⟨rfl, hb2⟩
  · have d1 : decide ((100 : Int) < (L.length : Int)) = false := by simp; omega
    go_enter Try.func4, Try.ntmps4
    go_wp2_with fail
    refine (vspeaks_any _).mono ?_
    rintro e' w1 ⟨rfl, h1⟩
    have T1 := Lib.hid h1
    clear h1
    go_wp2_with fail
    ((with_reducible refine (newTie_any _).mono ?_); rintro e' w2 ⟨rfl, hT, h2⟩)
    obtain ⟨g, hg⟩ : ∃ g, g = w1.heap.size := ⟨_, rfl⟩
    rw [← hg] at hT ⊢
    have HG := Lib.hid (show w.heap.size ≤ g by rw [hg]; exact T1.out.size)
    have T2 := Lib.hid (T1.out.trans (h2.mono T1.out.size))
    have HT := Lib.hid hT
    clear h2 hT hg
    have t3 := Lib.hid (T2.out.alloc T2.out.size (.cells #[.int .u64 0, .int .i64 0, .int .u64 0] 24))
    have L3 := Lib.hid (Blk.new w2 24 [.int .u64 0, .int .i64 0, .int .u64 0])
    have T3 := Lib.hid (HT.out.alloc (.cells #[.int .u64 0, .int .i64 0, .int .u64 0] 24))
    have HGL := Lib.hid (show g < w2.heap.size from HT.out.lt)
    go_wp2
    obtain ⟨W, hW⟩ : ∃ W, W = w2.alloc (.cells #[.int .u64 0, .int .i64 0, .int .u64 0] 24) := ⟨_, rfl⟩
    obtain ⟨gl, hgl⟩ : ∃ gl, gl = w2.heap.size := ⟨_, rfl⟩
    rw [← hW] at t3 L3 T3 ⊢
    rw [← hgl] at L3 HGL ⊢
    clear hW
    have HL := Lib.hid (show w.heap.size ≤ gl by rw [hgl]; exact T2.out.size)
    clear hgl T2 HT
    have KG : Hid (∀ w', Below W.heap.size W w' → Calls Try.prog 18 #[.pointer (some ⟨g, 0, none⟩)] w' fun e w'' => e = .returned (.agg #[.int .u64 0, .int .i64 0, .int .u64 0]) ∧ Below w'.heap.size w' w'') := Lib.hid (fun w' h => tget_any (v := VV.zero) (T3.out.after h))
    have S0 : Below W.heap.size W W.drew := (Below.refl _ _).drew
    refine wp_region_held_drew (S := (fun w' => Below W.heap.size W w')) (by kernel_rfl) S0 (fun _ => ?_)
    refine wpAnyH_take (i := 0) (v := .pointer (some ⟨g, 0, none⟩)) rfl (by kernel_rfl) (by kernel_rfl) (by kernel_rfl) (fun _ _ _ h => h) (Or.inl ⟨by kernel_rfl, fun w _ => by go_simp⟩) S0 ?_
    refine wpAnyH_take (i := 1) (v := .bool false) rfl (by kernel_rfl) (by kernel_rfl) (by kernel_rfl) (fun _ _ _ h => h) (Or.inl ⟨by kernel_rfl, fun w _ => by go_simp⟩) S0 ?_
    refine wpAnyH_take (i := 2) (v := .bool false) rfl (by kernel_rfl) (by kernel_rfl) (by kernel_rfl) (fun _ _ _ h => h) (Or.inl ⟨by kernel_rfl, fun w _ => by go_simp⟩) S0 ?_
    refine wpAnyH_take (i := 3) (v := .pointer (some ⟨g, 0, none⟩)) rfl (by kernel_rfl) (by kernel_rfl) (by kernel_rfl) (fun _ _ _ h => h) (Or.inl ⟨by kernel_rfl, fun w _ => by go_simp⟩) S0 ?_
    refine wpAnyH_take (i := 5) (v := .agg #[.int .u64 0, .int .i64 0, .int .u64 0]) rfl (by kernel_rfl) (by kernel_rfl) (by kernel_rfl) (fun _ _ _ h => h) (yields_vload (g := gl) (.tmp 4) (by kernel_rfl) (by kernel_rfl) (by kernel_rfl) (fun w h => L3.out.after h)) S0 ?_
    refine wpAnyH_ready (rs := [4]) (by kernel_rfl) (by simp) (AllReadyH.cons rfl (fun K hK => ?_) AllReadyH.nil)
    go_simp
    ((with_reducible refine (KG.out _ S0).mono ?_); rintro x4 w4 ⟨rfl, b4⟩)
    have S1 := S0.trans (b4.mono S0.size)
    refine hK.out _ _ S1 (fun _ => ?_)
    clear hK K b4
    refine wpAnyH_take (i := 6) (v := .bool false) rfl (by kernel_rfl) (by kernel_rfl) (by kernel_rfl) (fun _ _ _ h => h) (Or.inl ⟨by kernel_rfl, fun w _ => by go_simp⟩) S1 ?_
    refine wpAnyH_take (i := 7) (v := .bool false) rfl (by kernel_rfl) (by kernel_rfl) (by kernel_rfl) (fun _ _ _ h => h) (Or.inl ⟨by kernel_rfl, fun w _ => by go_simp⟩) S1 ?_
    refine wpAnyH_done (by kernel_rfl) ?_ _
    go_simp
    have T5 : Hid (VTie w4 g VV.zero) := Lib.hid (T3.out.after S1)
    have L5 : Hid (Blk w4 gl 24 [.int .u64 ((VV.zero.n : Nat) : Int), .int .i64 VV.zero.m, .int .u64 ((VV.zero.b : Nat) : Int)]) := Lib.hid (L3.out.after S1)
    have t5 := Lib.hid (t3.out.trans (S1.mono t3.out.size))
    clear S1 S0 KG T3 L3 t3 T1
    go_wp2_with fail
    go_loopw [6, 7, 8, 26] (fun _ _ _ i wr => ∃ k : Nat, k ≤ L.length ∧ i = .int .i64 k ∧ ∃ l : VV, Hid (VTie wr g l) ∧ Hid (Blk wr gl 24 [.int .u64 (l.n : Int), .int .i64 l.m, .int .u64 (l.b : Int)]) ∧ Hid (Below w.heap.size w wr)) (fun _ _ _ i _ => L.length - (intOf i).toNat)
    case atStart => exact ⟨0, Nat.zero_le _, rfl, VV.zero, T5, L5, t5⟩
    case round =>
      clear T5 L5 t5
      obtain ⟨k, hk, rfl, l, hT, hL, hb⟩ := hrel
      by_cases hlt : k < L.length
      · obtain ⟨a, rfl, hab, hck⟩ := HR.out k _ (List.getElem?_eq_getElem hlt)
        obtain ⟨v, hv⟩ : ∃ v, v = L[k] := ⟨_, rfl⟩
        rw [← hv] at hck
        have HC := Lib.hid (show ∀ j x, ([.int .u64 (v.n : Int), .int .i64 v.m, .int .u64 (v.b : Int)] : List Value)[j]? = some x → wr.cell? ((a.add (k * 3)).add j) = some x from fun j x hx => by rw [add_twice]; exact (hb.out.cell (p := a.add (k * 3 + j)) (by rw [add_block]; exact hab)).trans (hck j x hx))
        clear hck hv
        go_wp2_with (with_reducible refine wpl_vcells (.tmp 28) rfl rfl rfl HC.out ?_)
        have b1 := Lib.hid (hb.out.alloc hb.out.size (.cells #[.int .u64 (v.n : Int), .int .i64 v.m, .int .u64 (v.b : Int)] 24))
        have V1 := Lib.hid (Blk.new wr 24 [.int .u64 (v.n : Int), .int .i64 v.m, .int .u64 (v.b : Int)])
        have T1 := Lib.hid (hT.out.alloc (.cells #[.int .u64 (v.n : Int), .int .i64 v.m, .int .u64 (v.b : Int)] 24))
        have L1 := Lib.hid (hL.out.alloc (.cells #[.int .u64 (v.n : Int), .int .i64 v.m, .int .u64 (v.b : Int)] 24))
        have HGV := Lib.hid (show gl < wr.heap.size from hL.out.lt)
        obtain ⟨W2, hW2⟩ : ∃ W2, W2 = wr.alloc (.cells #[.int .u64 (v.n : Int), .int .i64 v.m, .int .u64 (v.b : Int)] 24) := ⟨_, rfl⟩
        obtain ⟨gv, hgv⟩ : ∃ gv, gv = wr.heap.size := ⟨_, rfl⟩
        rw [← hW2] at b1 V1 T1 L1 ⊢
        rw [← hgv] at V1 HGV ⊢
        clear hW2 hgv HC hT hL hb
        have KS := tset_any T1.out v
        have kr := fun w => refright_any v w
        by_cases hok : v.right = true ∧ l.n < v.n
        · have e1 : l.setE v = 0 := by unfold VV.setE; rw [if_pos hok]
          have e2 : l.set v = v := by unfold VV.set; rw [if_pos hok]
          rw [e1, e2] at KS
          rw [hok.1] at kr
          have hlt2 : l.n < v.n := hok.2
          clear e1 e2 hok
          ((with_reducible refine KS.mono ?_); rintro e5 w5 ⟨rfl, hT5, b5, hO5⟩)
          have T5 := Lib.hid hT5
          have V5 := Lib.hid (hO5 gv _ _ (by have := HGL.out; have := HGV.out; omega) V1.out)
          have L5 := Lib.hid (hO5 gl _ _ (by have := HGL.out; omega) L1.out)
          have t5 := Lib.hid (b1.out.trans (b5.mono HG.out))
          clear hT5 b5 hO5 KS
          go_wp2_with (with_reducible refine wpl_vload (.tmp 6) rfl rfl V5.out rfl ?_)
          ((with_reducible refine (kr _).mono ?_); rintro e6 w6 ⟨rfl, b6⟩)
          have T6 := Lib.hid (T5.out.after b6)
          have V6 := Lib.hid (V5.out.after b6)
          have L6 := Lib.hid (L5.out.after b6)
          have t6 := Lib.hid (t5.out.trans (b6.mono t5.out.size))
          have x0 := V6.out.cell 0
          have y0 := L6.out.cell 0
          simp only [List.getElem?_cons_zero] at x0 y0
          clear b6
          go_wp2_with (first
            | (with_reducible refine wpl_vload (.tmp 6) rfl rfl V6.out rfl ?_)
            | ((with_reducible refine wpl_vstore (.tmp 4) (.tmp 43) rfl rfl L6.out rfl rfl rfl rfl rfl ?_); intro w8 R8 g8 e8; have L8 := Lib.hid R8; have T8 := Lib.hid (T6.out.grown g8 (by have := HGL.out; simp; omega)); have t8 := Lib.hid (t6.out.grown g8 t6.out.size (fun k e => by cases e; exact HL.out)); clear R8 g8 e8))
          clear T6 L6 t6 x0 y0 hlt2
          obtain ⟨w6, rfl⟩ : ∃ w6, w6 = w8 := ⟨_, rfl⟩
          have T6 := T8
          have L6 := L8
          have t6 := t8
          clear T8 L8 t8
          have S0 : Below w6.heap.size w6 w6.drew := (Below.refl _ _).drew
          refine wp_region_held_drew (S := (fun w' => Below w6.heap.size w6 w')) (by kernel_rfl) S0 (fun _ => ?_)
          refine wpAnyH_take (i := 0) (v := .bool true) rfl (by kernel_rfl) (by kernel_rfl) (by kernel_rfl) (fun _ _ _ h => h) (Or.inl ⟨by kernel_rfl, fun w _ => by go_simp⟩) S0 ?_
          refine wpAnyH_take (i := 1) (v := .int .i64 0) rfl (by kernel_rfl) (by kernel_rfl) (by kernel_rfl) (fun _ _ _ h => h) (Or.inl ⟨by kernel_rfl, fun w _ => by go_simp⟩) S0 ?_
          refine wpAnyH_take (i := 2) (v := .bool true) rfl (by kernel_rfl) (by kernel_rfl) (by kernel_rfl) (fun _ _ _ h => h) (Or.inl ⟨by kernel_rfl, fun w _ => by go_simp⟩) S0 ?_
          refine wpAnyH_take (i := 3) (v := .bool false) rfl (by kernel_rfl) (by kernel_rfl) (by kernel_rfl) (fun _ _ _ h => h) (Or.inl ⟨by kernel_rfl, fun w _ => by go_simp⟩) S0 ?_
          refine wpAnyH_take (i := 4) (v := .bool false) rfl (by kernel_rfl) (by kernel_rfl) (by kernel_rfl) (fun _ _ _ h => h) (Or.inl ⟨by kernel_rfl, fun w _ => by go_simp⟩) S0 ?_
          refine wpAnyH_take (i := 5) (v := .bool true) rfl (by kernel_rfl) (by kernel_rfl) (by kernel_rfl) (fun _ _ _ h => h) (Or.inl ⟨by kernel_rfl, fun w _ => by go_simp⟩) S0 ?_
          refine wpAnyH_take (i := 6) (v := .bool false) rfl (by kernel_rfl) (by kernel_rfl) (by kernel_rfl) (fun _ _ _ h => h) (Or.inl ⟨by kernel_rfl, fun w _ => by go_simp⟩) S0 ?_
          refine wpAnyH_take (i := 7) (v := .bool false) rfl (by kernel_rfl) (by kernel_rfl) (by kernel_rfl) (fun _ _ _ h => h) (Or.inl ⟨by kernel_rfl, fun w _ => by go_simp⟩) S0 ?_
          refine wpAnyH_take (i := 8) (v := undef) rfl (by kernel_rfl) (by kernel_rfl) (by kernel_rfl) (fun _ _ _ h => h) (Or.inr ⟨by kernel_rfl, rfl⟩) S0 ?_
          refine wpAnyH_take (i := 9) (v := undef) rfl (by kernel_rfl) (by kernel_rfl) (by kernel_rfl) (fun _ _ _ h => h) (Or.inr ⟨by kernel_rfl, rfl⟩) S0 ?_
          refine wpAnyH_take (i := 10) (v := .bool false) rfl (by kernel_rfl) (by kernel_rfl) (by kernel_rfl) (fun _ _ _ h => h) (Or.inl ⟨by kernel_rfl, fun w _ => by go_simp⟩) S0 ?_
          refine wpAnyH_take (i := 11) (v := .bool false) rfl (by kernel_rfl) (by kernel_rfl) (by kernel_rfl) (fun _ _ _ h => h) (Or.inl ⟨by kernel_rfl, fun w _ => by go_simp⟩) S0 ?_
          refine wpAnyH_take (i := 12) (v := .bool false) rfl (by kernel_rfl) (by kernel_rfl) (by kernel_rfl) (fun _ _ _ h => h) (Or.inl ⟨by kernel_rfl, fun w _ => by go_simp⟩) S0 ?_
          refine wpAnyH_take (i := 13) (v := .pointer (some ⟨g, 0, none⟩)) rfl (by kernel_rfl) (by kernel_rfl) (by kernel_rfl) (fun _ _ _ h => h) (Or.inl ⟨by kernel_rfl, fun w _ => by go_simp⟩) S0 ?_
          refine wpAnyH_take (i := 15) (v := .agg #[.int .u64 (v.n : Int), .int .i64 v.m, .int .u64 (v.b : Int)]) rfl (by kernel_rfl) (by kernel_rfl) (by kernel_rfl) (fun _ _ _ h => h) (yields_vload (g := gl) (.tmp 4) (by kernel_rfl) (by kernel_rfl) (by kernel_rfl) (fun w h => L6.out.after h)) S0 ?_
          refine wpAnyH_ready (rs := [14]) (by kernel_rfl) (by simp) (AllReadyH.cons rfl (fun K hK => ?_) AllReadyH.nil)
          go_simp
          ((with_reducible refine (tget_any (T6.out.after S0)).mono ?_); rintro x7 w7 ⟨rfl, b7⟩)
          have S1 := S0.trans (b7.mono S0.size)
          refine hK.out _ _ S1 (fun _ => ?_)
          clear hK K b7
          refine wpAnyH_take (i := 16) (v := .bool false) rfl (by kernel_rfl) (by kernel_rfl) (by kernel_rfl) (fun _ _ _ h => h) (Or.inl ⟨by kernel_rfl, fun w _ => by go_simp⟩) S1 ?_
          refine wpAnyH_take (i := 17) (v := .bool false) rfl (by kernel_rfl) (by kernel_rfl) (by kernel_rfl) (fun _ _ _ h => h) (Or.inl ⟨by kernel_rfl, fun w _ => by go_simp⟩) S1 ?_
          refine wpAnyH_done (by kernel_rfl) ?_ _
          go_simp
          have T7 := Lib.hid (T6.out.after S1)
          have L7 := Lib.hid (L6.out.after S1)
          have t7 := Lib.hid (t6.out.trans (S1.mono t6.out.size))
          clear S0 S1
          go_wp2_with fail
          go_roundw
          case rel => exact ⟨k + 1, by omega, by go_num, v, T7, L7, t7⟩
          case measure => simp [intOf]; omega
        · have e1 : l.setE v = 1 := by unfold VV.setE; rw [if_neg hok]
          have e2 : l.set v = l := by unfold VV.set; rw [if_neg hok]
          rw [e1, e2] at KS
          clear e1 e2
          ((with_reducible refine KS.mono ?_); rintro e5 w5 ⟨rfl, hT5, b5, hO5⟩)
          have T5 := Lib.hid hT5
          have V5 := Lib.hid (hO5 gv _ _ (by have := HGL.out; have := HGV.out; omega) V1.out)
          have L5 := Lib.hid (hO5 gl _ _ (by have := HGL.out; omega) L1.out)
          have t5 := Lib.hid (b1.out.trans (b5.mono HG.out))
          clear hT5 b5 hO5 KS
          cases hr : v.right
          · rw [hr] at kr
            clear hok hr
            go_wp2_with (with_reducible refine wpl_vload (.tmp 6) rfl rfl V5.out rfl ?_)
            ((with_reducible refine (kr _).mono ?_); rintro e6 w6 ⟨rfl, b6⟩)
            have T6 := Lib.hid (T5.out.after b6)
            have L6 := Lib.hid (L5.out.after b6)
            have t6 := Lib.hid (t5.out.trans (b6.mono t5.out.size))
            clear b6
            go_wp2_with fail
            have S0 : Below w6.heap.size w6 w6.drew := (Below.refl _ _).drew
            refine wp_region_held_drew (S := (fun w' => Below w6.heap.size w6 w')) (by kernel_rfl) S0 (fun _ => ?_)
            refine wpAnyH_take (i := 0) (v := .bool false) rfl (by kernel_rfl) (by kernel_rfl) (by kernel_rfl) (fun _ _ _ h => h) (Or.inl ⟨by kernel_rfl, fun w _ => by go_simp⟩) S0 ?_
            refine wpAnyH_take (i := 1) (v := .int .i64 1) rfl (by kernel_rfl) (by kernel_rfl) (by kernel_rfl) (fun _ _ _ h => h) (Or.inl ⟨by kernel_rfl, fun w _ => by go_simp⟩) S0 ?_
            refine wpAnyH_take (i := 2) (v := .bool false) rfl (by kernel_rfl) (by kernel_rfl) (by kernel_rfl) (fun _ _ _ h => h) (Or.inl ⟨by kernel_rfl, fun w _ => by go_simp⟩) S0 ?_
            refine wpAnyH_take (i := 3) (v := .bool false) rfl (by kernel_rfl) (by kernel_rfl) (by kernel_rfl) (fun _ _ _ h => h) (Or.inl ⟨by kernel_rfl, fun w _ => by go_simp⟩) S0 ?_
            refine wpAnyH_take (i := 4) (v := .bool false) rfl (by kernel_rfl) (by kernel_rfl) (by kernel_rfl) (fun _ _ _ h => h) (Or.inl ⟨by kernel_rfl, fun w _ => by go_simp⟩) S0 ?_
            refine wpAnyH_take (i := 5) (v := .bool false) rfl (by kernel_rfl) (by kernel_rfl) (by kernel_rfl) (fun _ _ _ h => h) (Or.inl ⟨by kernel_rfl, fun w _ => by go_simp⟩) S0 ?_
            refine wpAnyH_take (i := 6) (v := .bool true) rfl (by kernel_rfl) (by kernel_rfl) (by kernel_rfl) (fun _ _ _ h => h) (Or.inl ⟨by kernel_rfl, fun w _ => by go_simp⟩) S0 ?_
            refine wpAnyH_take (i := 7) (v := .bool true) rfl (by kernel_rfl) (by kernel_rfl) (by kernel_rfl) (fun _ _ _ h => h) (Or.inl ⟨by kernel_rfl, fun w _ => by go_simp⟩) S0 ?_
            refine wpAnyH_take (i := 8) (v := .int .i64 1) rfl (by kernel_rfl) (by kernel_rfl) (by kernel_rfl) (fun _ _ _ h => h) (Or.inl ⟨by kernel_rfl, fun w _ => by go_simp⟩) S0 ?_
            refine wpAnyH_take (i := 9) (v := .bool false) rfl (by kernel_rfl) (by kernel_rfl) (by kernel_rfl) (fun _ _ _ h => h) (Or.inl ⟨by kernel_rfl, fun w _ => by go_simp⟩) S0 ?_
            refine wpAnyH_take (i := 10) (v := .bool false) rfl (by kernel_rfl) (by kernel_rfl) (by kernel_rfl) (fun _ _ _ h => h) (Or.inl ⟨by kernel_rfl, fun w _ => by go_simp⟩) S0 ?_
            refine wpAnyH_take (i := 11) (v := .bool false) rfl (by kernel_rfl) (by kernel_rfl) (by kernel_rfl) (fun _ _ _ h => h) (Or.inl ⟨by kernel_rfl, fun w _ => by go_simp⟩) S0 ?_
            refine wpAnyH_take (i := 12) (v := .bool false) rfl (by kernel_rfl) (by kernel_rfl) (by kernel_rfl) (fun _ _ _ h => h) (Or.inl ⟨by kernel_rfl, fun w _ => by go_simp⟩) S0 ?_
            refine wpAnyH_take (i := 13) (v := .pointer (some ⟨g, 0, none⟩)) rfl (by kernel_rfl) (by kernel_rfl) (by kernel_rfl) (fun _ _ _ h => h) (Or.inl ⟨by kernel_rfl, fun w _ => by go_simp⟩) S0 ?_
            refine wpAnyH_take (i := 15) (v := .agg #[.int .u64 (l.n : Int), .int .i64 l.m, .int .u64 (l.b : Int)]) rfl (by kernel_rfl) (by kernel_rfl) (by kernel_rfl) (fun _ _ _ h => h) (yields_vload (g := gl) (.tmp 4) (by kernel_rfl) (by kernel_rfl) (by kernel_rfl) (fun w h => L6.out.after h)) S0 ?_
            refine wpAnyH_ready (rs := [14]) (by kernel_rfl) (by simp) (AllReadyH.cons rfl (fun K hK => ?_) AllReadyH.nil)
            go_simp
            ((with_reducible refine (tget_any (T6.out.after S0)).mono ?_); rintro x7 w7 ⟨rfl, b7⟩)
            have S1 := S0.trans (b7.mono S0.size)
            refine hK.out _ _ S1 (fun _ => ?_)
            clear hK K b7
            refine wpAnyH_take (i := 16) (v := .bool false) rfl (by kernel_rfl) (by kernel_rfl) (by kernel_rfl) (fun _ _ _ h => h) (Or.inl ⟨by kernel_rfl, fun w _ => by go_simp⟩) S1 ?_
            refine wpAnyH_take (i := 17) (v := .bool false) rfl (by kernel_rfl) (by kernel_rfl) (by kernel_rfl) (fun _ _ _ h => h) (Or.inl ⟨by kernel_rfl, fun w _ => by go_simp⟩) S1 ?_
            refine wpAnyH_done (by kernel_rfl) ?_ _
            go_simp
            have T7 := Lib.hid (T6.out.after S1)
            have L7 := Lib.hid (L6.out.after S1)
            have t7 := Lib.hid (t6.out.trans (S1.mono t6.out.size))
            clear S0 S1
            go_wp2_with fail
            go_roundw
            case rel => exact ⟨k + 1, by omega, by go_num, l, T7, L7, t7⟩
            case measure => simp [intOf]; omega
          · rw [hr] at kr
            have hge : ¬ l.n < v.n := fun q => hok ⟨hr, q⟩
            clear hok hr
            go_wp2_with (with_reducible refine wpl_vload (.tmp 6) rfl rfl V5.out rfl ?_)
            ((with_reducible refine (kr _).mono ?_); rintro e6 w6 ⟨rfl, b6⟩)
            have T6 := Lib.hid (T5.out.after b6)
            have V6 := Lib.hid (V5.out.after b6)
            have L6 := Lib.hid (L5.out.after b6)
            have t6 := Lib.hid (t5.out.trans (b6.mono t5.out.size))
            have x0 := V6.out.cell 0
            have y0 := L6.out.cell 0
            simp only [List.getElem?_cons_zero] at x0 y0
            clear b6
            go_wp2_with fail
            clear x0 y0 hge
            have S0 : Below w6.heap.size w6 w6.drew := (Below.refl _ _).drew
            refine wp_region_held_drew (S := (fun w' => Below w6.heap.size w6 w')) (by kernel_rfl) S0 (fun _ => ?_)
            refine wpAnyH_take (i := 0) (v := .bool false) rfl (by kernel_rfl) (by kernel_rfl) (by kernel_rfl) (fun _ _ _ h => h) (Or.inl ⟨by kernel_rfl, fun w _ => by go_simp⟩) S0 ?_
            refine wpAnyH_take (i := 1) (v := .int .i64 1) rfl (by kernel_rfl) (by kernel_rfl) (by kernel_rfl) (fun _ _ _ h => h) (Or.inl ⟨by kernel_rfl, fun w _ => by go_simp⟩) S0 ?_
            refine wpAnyH_take (i := 2) (v := .bool false) rfl (by kernel_rfl) (by kernel_rfl) (by kernel_rfl) (fun _ _ _ h => h) (Or.inl ⟨by kernel_rfl, fun w _ => by go_simp⟩) S0 ?_
            refine wpAnyH_take (i := 3) (v := .bool false) rfl (by kernel_rfl) (by kernel_rfl) (by kernel_rfl) (fun _ _ _ h => h) (Or.inl ⟨by kernel_rfl, fun w _ => by go_simp⟩) S0 ?_
            refine wpAnyH_take (i := 4) (v := .bool false) rfl (by kernel_rfl) (by kernel_rfl) (by kernel_rfl) (fun _ _ _ h => h) (Or.inl ⟨by kernel_rfl, fun w _ => by go_simp⟩) S0 ?_
            refine wpAnyH_take (i := 5) (v := .bool false) rfl (by kernel_rfl) (by kernel_rfl) (by kernel_rfl) (fun _ _ _ h => h) (Or.inl ⟨by kernel_rfl, fun w _ => by go_simp⟩) S0 ?_
            refine wpAnyH_take (i := 6) (v := .bool true) rfl (by kernel_rfl) (by kernel_rfl) (by kernel_rfl) (fun _ _ _ h => h) (Or.inl ⟨by kernel_rfl, fun w _ => by go_simp⟩) S0 ?_
            refine wpAnyH_take (i := 7) (v := .bool true) rfl (by kernel_rfl) (by kernel_rfl) (by kernel_rfl) (fun _ _ _ h => h) (Or.inl ⟨by kernel_rfl, fun w _ => by go_simp⟩) S0 ?_
            refine wpAnyH_take (i := 8) (v := .int .i64 1) rfl (by kernel_rfl) (by kernel_rfl) (by kernel_rfl) (fun _ _ _ h => h) (Or.inl ⟨by kernel_rfl, fun w _ => by go_simp⟩) S0 ?_
            refine wpAnyH_take (i := 9) (v := .bool false) rfl (by kernel_rfl) (by kernel_rfl) (by kernel_rfl) (fun _ _ _ h => h) (Or.inl ⟨by kernel_rfl, fun w _ => by go_simp⟩) S0 ?_
            refine wpAnyH_take (i := 10) (v := .bool false) rfl (by kernel_rfl) (by kernel_rfl) (by kernel_rfl) (fun _ _ _ h => h) (Or.inl ⟨by kernel_rfl, fun w _ => by go_simp⟩) S0 ?_
            refine wpAnyH_take (i := 11) (v := .bool false) rfl (by kernel_rfl) (by kernel_rfl) (by kernel_rfl) (fun _ _ _ h => h) (Or.inl ⟨by kernel_rfl, fun w _ => by go_simp⟩) S0 ?_
            refine wpAnyH_take (i := 12) (v := .bool false) rfl (by kernel_rfl) (by kernel_rfl) (by kernel_rfl) (fun _ _ _ h => h) (Or.inl ⟨by kernel_rfl, fun w _ => by go_simp⟩) S0 ?_
            refine wpAnyH_take (i := 13) (v := .pointer (some ⟨g, 0, none⟩)) rfl (by kernel_rfl) (by kernel_rfl) (by kernel_rfl) (fun _ _ _ h => h) (Or.inl ⟨by kernel_rfl, fun w _ => by go_simp⟩) S0 ?_
            refine wpAnyH_take (i := 15) (v := .agg #[.int .u64 (l.n : Int), .int .i64 l.m, .int .u64 (l.b : Int)]) rfl (by kernel_rfl) (by kernel_rfl) (by kernel_rfl) (fun _ _ _ h => h) (yields_vload (g := gl) (.tmp 4) (by kernel_rfl) (by kernel_rfl) (by kernel_rfl) (fun w h => L6.out.after h)) S0 ?_
            refine wpAnyH_ready (rs := [14]) (by kernel_rfl) (by simp) (AllReadyH.cons rfl (fun K hK => ?_) AllReadyH.nil)
            go_simp
            ((with_reducible refine (tget_any (T6.out.after S0)).mono ?_); rintro x7 w7 ⟨rfl, b7⟩)
            have S1 := S0.trans (b7.mono S0.size)
            refine hK.out _ _ S1 (fun _ => ?_)
            clear hK K b7
            refine wpAnyH_take (i := 16) (v := .bool false) rfl (by kernel_rfl) (by kernel_rfl) (by kernel_rfl) (fun _ _ _ h => h) (Or.inl ⟨by kernel_rfl, fun w _ => by go_simp⟩) S1 ?_
            refine wpAnyH_take (i := 17) (v := .bool false) rfl (by kernel_rfl) (by kernel_rfl) (by kernel_rfl) (fun _ _ _ h => h) (Or.inl ⟨by kernel_rfl, fun w _ => by go_simp⟩) S1 ?_
            refine wpAnyH_done (by kernel_rfl) ?_ _
            go_simp
            have T7 := Lib.hid (T6.out.after S1)
            have L7 := Lib.hid (L6.out.after S1)
            have t7 := Lib.hid (t6.out.trans (S1.mono t6.out.size))
            clear S0 S1
            go_wp2_with fail
            go_roundw
            case rel => exact ⟨k + 1, by omega, by go_num, l, T7, L7, t7⟩
            case measure => simp [intOf]; omega
      · obtain rfl : k = L.length := by omega
        go_wp2
        go_ret
        exact ⟨rfl, hb.out⟩
end Go.Proofs.Yticigjkaangkmaa

