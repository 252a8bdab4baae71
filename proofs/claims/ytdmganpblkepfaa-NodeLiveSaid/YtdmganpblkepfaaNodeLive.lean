/- The walk of NodeLive: it answers true, and changes nothing that was there. No condition. (written by gen_nlive.py) -/
import Derived.Test.YtdmganpblkepfaaLiveSt
import Derived.Test.YtdmganpblkepfaaNodeSpeaks
import Derived.Test.YtdmganpblkepfaaLiveEq
import Derived.Test.YtdmganpblkepfaaOpen
namespace Go.Proofs.Ytdmganpblkepfaa
open Go.RowKit
/-- append at a step of a region that draws its order -/
theorem step_appI {P : Program} {w : World} {base : Nat} {t e : TypeId} {z : Value} {bytes : Nat} {v : Value} {xs : List Value} {ops : Array Oper} {o : Oper} {a : Act} {K : Act → World → Prop} {Q : Exit → Act → World → Prop} {E : Prop} (hT : OneCell P t e z bytes) (hgd : Region.wanted o (yielded ops a.tmps) = true) (s x : Operand)
    (ho : o.op = .call { callee := .builtin .append, args := #[s, x], argTypes := #[t, t] })
    (n : Nat) (hs : a.eval s = v) (hown : w.ownsRow base e 1 v n xs) (B : Nat) (A : Option Addr) (c : Nat) (news : List Value) (m : Nat) (hm : news.length = m) (hx : a.eval x = .slice A m c) (hr : Row w B A news)
    (h1 : ∀ u ∈ news, u.oneCell' = true) (hb : (n + m) * bytes ≤ 140737488355328) (h63 : n + m ≤ maxLen) (hbase : base ≤ w.heap.size) (k : Nat) (hk : n + m = k)
    (h : ∀ A' c' w', w'.ownsRow base e 1 (.slice A' k c') k (xs ++ news) → w.grownBy w' v.ownBlock → K (a.put o.dst (.slice A' k c')) w') :
    if Region.wanted o (yielded ops a.tmps) = true then Oper.wp P o a w K Q else E := by
  rw [if_pos hgd]
  obtain ⟨v', w', hrun, h2, h3, h4⟩ := run_append_row hT o.type n hown B A c news m hm hr h1 h63 hb hbase
  obtain ⟨A', c', rfl, _, _⟩ := ownsRow_shape h2
  subst hk
  unfold Oper.wp execOp
  simp only [ho, resolve, invoke, builtin, Sem.run_bind, Sem.run_pure, Result.andThen_ok, List.map_toArray, List.map_cons, List.map_nil, hs, hx, hrun]
  exact h A' c' w' h2 h3
theorem keys_here {X : List UInt8} {z : Int} (h : lhas X z = true) : ∃ k : Nat, z = k ∧ k < 256 ∧ hasB X k = true := by
  unfold lhas at h
  rw [Bool.and_eq_true, decide_eq_true_iff] at h
  exact ⟨z.toNat, by omega, by omega, h.2⟩
theorem keys_step {X : List UInt8} {z : Int} (h1 : -1 ≤ z) (h2 : z ≤ 256) (h : lhas X z = false) : (keysTo X (min (z + 1).toNat 256)).length = (keysTo X (min z.toNat 256)).length := by
  by_cases hz : 0 ≤ z ∧ z < 256
  · unfold lhas at h
    rw [decide_eq_true hz, Bool.true_and] at h
    rw [show min (z + 1).toNat 256 = z.toNat + 1 by omega, show min z.toNat 256 = z.toNat by omega, keysTo_succ, if_neg (by rw [h]; decide), List.append_nil]
  · rw [show min (z + 1).toNat 256 = min z.toNat 256 by omega]
theorem kv_get {zs : List Nat} {i k : Nat} (h : zs[i]? = some k) : (kv zs)[i]? = some (.int .i64 (k : Int)) := by
  unfold kv
  rw [List.getElem?_map, h]
  rfl
theorem bt_of {l : Array Bool} {j : Nat} (h : l.getD j false = true) : bt l j := by
  unfold bt
  rw [Array.getD_eq_getD_getElem?] at h ⊢
  cases hq : l[j]? with
  | none => rw [hq] at h; cases h
  | some b => rw [hq] at h; exact h
theorem not_bt {l : Array Bool} {j : Nat} (h : l.getD j true = false) : ¬ bt l j := by
  unfold bt
  rw [h]
  decide
theorem upd_self (s : Nat → Value) {i : Nat} {v : Value} (h : s i = v) : upd s i v = s := by
  funext j
  unfold upd
  split
  · rename_i e; rw [e, h]
  · rfl
theorem one_ints (zs : List Int) : ∀ u ∈ zs.map (Value.int .i64), u.oneCell' = true := by
  intro u hu
  obtain ⟨z, _, rfl⟩ := List.mem_map.1 hu
  rfl
theorem NoInts.made {w0 w : World} (hb : w0.heap.size ≤ w.heap.size) : NoInts (w.alloc (.cells #[] 3)) w0.heap.size (.slice (some ⟨w.heap.size, 0, none⟩) 0 0) :=
  ⟨World.ownsRow_made (base := w0.heap.size) (e := 3) (size := 1) w #[] 0 hb (by simp [maxLen]) rfl, _, rfl, hb, by rw [World.size_alloc]; exact Nat.lt_succ_self _⟩
theorem Var32.made {w0 w : World} (hb : w0.heap.size ≤ w.heap.size) : Var32 (w.alloc (.cells (cl lzeros) 40)) w0.heap.size (.pointer (some ⟨w.heap.size, 0, none⟩)) lzeros :=
  ⟨_, rfl, hb, LArr.new w lzeros_length⟩
theorem alloc_below (w : World) (o : Obj) : Below w.heap.size w (w.alloc o) := (Below.refl _ _).alloc (Nat.le_refl _) o
set_option maxRecDepth 100000 in
set_option maxHeartbeats 16000000 in
theorem nodeLive_any (u v1 v2 : Value) (w : World) (hl : ∃ L, u = .agg (cl L) ∧ L.length = 32) (h1 : ∃ zs, Nums w w.heap.size .i64 v1 zs) (h2 : ∃ zs, Nums w w.heap.size .i64 v2 zs) :
    Calls Try.prog 6 #[u, v1, v2] w fun e w' => e = .returned (.bool true) ∧ Below w.heap.size w w' := by
  obtain ⟨L, rfl, hL⟩ := hl
  obtain ⟨xs, A1, c1, rfl, _, _, hr1, _⟩ := h1
  obtain ⟨ys, A2, c2, rfl, _, _, hr2, _⟩ := h2
  have HR1 := Lib.hid hr1
  have HR2 := Lib.hid hr2
  have HL := Lib.hid hL
  have A0 := Lib.hid (LArr.new w hL)
  have B0 := Lib.hid ((Below.refl w.heap.size w).alloc (Nat.le_refl _) (.cells (cl L) 40))
  have z0 := zeroLive
  clear hr1 hr2 hL
  by_cases hlx : 300 < xs.length
  · have d1 : decide ((300 : Int) < (xs.length : Int)) = true := by simp; omega
    go_enter Try.func6, Try.ntmps6
    go_wp2_with fail
    refine (nodespeaks_any _).mono ?_
    rintro e' w1 ⟨rfl, b1⟩
    go_wp2
    go_ret
    exact ⟨rfl, B0.out.trans (b1.mono B0.out.size)⟩
  · have d1 : decide ((300 : Int) < (xs.length : Int)) = false := by simp; omega
    by_cases hly : 300 < ys.length
    · have d2 : decide ((300 : Int) < (ys.length : Int)) = true := by simp; omega
      go_enter Try.func6, Try.ntmps6
      go_wp2_with fail
      refine (nodespeaks_any _).mono ?_
      rintro e' w1 ⟨rfl, b1⟩
      go_wp2
      go_ret
      exact ⟨rfl, B0.out.trans (b1.mono B0.out.size)⟩
    · have d2 : decide ((300 : Int) < (ys.length : Int)) = false := by simp; omega
      go_enter Try.func6, Try.ntmps6
      go_wp2_with fail
      refine (nodespeaks_any _).mono ?_
      rintro e' w1 ⟨rfl, b1⟩
      have HA := Lib.hid (A0.out.after b1)
      have HB := Lib.hid (B0.out.trans (b1.mono B0.out.size))
      have hx3 : Hid (xs.length ≤ 300) := Lib.hid (by omega)
      have hy3 : Hid (ys.length ≤ 300) := Lib.hid (by omega)
      clear b1 A0 B0
      go_wp2_with fail
      clear d1 d2 hlx hly
      have S0 : LArr w1.drew w.heap.size L := HA.out.drew
      refine wp_region_held_drew (S := fun w' => LArr w' w.heap.size L) (by kernel_rfl) S0 (fun _ => ?_)
      refine wpAnyH_take (i := 0) (v := .agg (cl L)) rfl (by kernel_rfl) (by kernel_rfl) (by kernel_rfl) (fun _ _ _ h => h) (yields_lload (g := w.heap.size) (.tmp 3) (by kernel_rfl) (by kernel_rfl) (by kernel_rfl) (fun _ h => h)) S0 ?_
      refine wpAnyH_take (i := 2) (v := .slice A1 xs.length c1) rfl (by kernel_rfl) (by kernel_rfl) (by kernel_rfl) (fun _ _ _ h => h) (Or.inl ⟨by kernel_rfl, fun w _ => by go_simp⟩) S0 ?_
      refine wpAnyH_take (i := 5) (v := .agg (cl L)) rfl (by kernel_rfl) (by kernel_rfl) (by kernel_rfl) (fun _ _ _ h => h) (yields_lload (g := w.heap.size) (.tmp 3) (by kernel_rfl) (by kernel_rfl) (by kernel_rfl) (fun _ h => h)) S0 ?_
      refine wpAnyH_take (i := 7) (v := .slice A2 ys.length c2) rfl (by kernel_rfl) (by kernel_rfl) (by kernel_rfl) (fun _ _ _ h => h) (Or.inl ⟨by kernel_rfl, fun w _ => by go_simp⟩) S0 ?_
      obtain ⟨X, hX⟩ : ∃ X, X = lputs L true xs := ⟨_, rfl⟩
      obtain ⟨Y, hY⟩ : ∃ Y, Y = lputs L false ys := ⟨_, rfl⟩
      have KW : Hid (∀ (A : Option Addr) (c : Nat) (w : World), Row w w.heap.size A (xs.map (Value.int .i64)) → Calls Try.prog 21 #[.agg (cl L), .slice A xs.length c] w fun e w' => e = .returned (.agg (cl X)) ∧ Below w.heap.size w w') := Lib.hid (fun A c w h => by rw [hX]; exact with_any L HL.out A c xs w h (by have := hx3.out; omega))
      have KO : Hid (∀ (A : Option Addr) (c : Nat) (w : World), Row w w.heap.size A (ys.map (Value.int .i64)) → Calls Try.prog 22 #[.agg (cl L), .slice A ys.length c] w fun e w' => e = .returned (.agg (cl Y)) ∧ Below w.heap.size w w') := Lib.hid (fun A c w h => by rw [hY]; exact without_any L HL.out A c ys w h (by have := hy3.out; omega))
      have HX := Lib.hid hX
      have HY := Lib.hid hY
      have XL : Hid (X.length = 32) := Lib.hid (by rw [hX, lputs_length]; exact HL.out)
      have YL : Hid (Y.length = 32) := Lib.hid (by rw [hY, lputs_length]; exact HL.out)
      have HD : Hid (Below w1.heap.size w1 w1.drew) := Lib.hid (Below.refl _ _).drew
      clear hX hY
      refine wpAnyH_inv (fun l a w' => ∃ s : Nat → Value, a = { tmps := #[.agg (cl L), .slice A1 xs.length c1, .slice A2 ys.length c2, .pointer (some ⟨w.heap.size, 0, none⟩), undef, undef, .bool false, s 7, s 8, undef, undef, undef, undef, undef, undef, undef, undef, undef, undef, undef, .bool true, .bool false, .slice A1 xs.length c1, .int .i64 (xs.length : Int), .bool false, .bool false, .slice A2 ys.length c2, .int .i64 (ys.length : Int), .bool false, .bool false, .agg (cl L), s 31, .slice A1 xs.length c1, s 33, s 34, .agg (cl L), s 36, .slice A2 ys.length c2, s 38, s 39, undef, undef, undef, undef, undef, undef, undef, undef, undef, undef, undef, undef, undef, undef, undef, undef, undef, undef, undef, undef, undef, undef, undef, undef, undef, undef, undef, undef, undef, undef, undef, undef, undef, undef, undef, undef, undef, undef, undef, undef, undef, undef, undef, undef, undef, undef, undef, undef, undef, undef, undef, undef, undef, undef, undef, undef, undef, undef, undef, undef, undef, undef, undef, undef, undef, undef, undef, undef, undef, undef, undef, undef, undef, undef, undef, undef, undef, undef, undef, undef, undef, undef, undef, undef, undef, undef, undef], defers := [] } ∧ L5 w1 w.heap.size L X Y xs ys l s w') (by decide +kernel) ?_ ?_ _ _ _ _ (by kernel_rfl) (by decide) ⟨fun _ => undef, rfl, ?_⟩
      · intro l a w2 i hi hsz h0 hd hI
        obtain ⟨s, rfl, h⟩ := hI
        have hi' : i < 14 := hi
        have hn := not_bt h0
        have hbW : Hid (Below w.heap.size w w2) := Lib.hid (HB.out.trans (h.hb.mono HB.out.size))
        have hsw := h.hb.size
        clear hi h0
        have hc : i = 0 ∨ i = 1 ∨ i = 2 ∨ i = 3 ∨ i = 4 ∨ i = 5 ∨ i = 6 ∨ i = 7 ∨ i = 8 ∨ i = 9 ∨ i = 10 ∨ i = 11 ∨ i = 12 ∨ i = 13 := by omega
        clear hi'
        rcases hc with rfl | rfl | rfl | rfl | rfl | rfl | rfl | rfl | rfl | rfl | rfl | rfl | rfl | rfl
        · exact absurd h.t0 hn
        · clear hd
          refine wpOp_step (i := 1) rfl (fun K hK => ?_)
          have HK := Lib.hid hK
          clear hK
          go_simp
          exact HK.out _ _ ⟨h.a0.alloc _, upd s 31 _, rfl, (h.after (alloc_below w2 _)).op1 (NoInts.made hsw) (fun b6 n8 => h.fresh6 b6 n8)⟩
        · exact absurd h.t2 hn
        · have bb := (bt_of (hd 1 (of_decide_eq_true (by kernel_rfl))))
          have hni := h.i1 bb hn
          clear hd
          refine wpOp_step (i := 3) rfl (fun K hK => ?_)
          have HK := Lib.hid hK
          clear hK
          have hlen := hx3.out
          refine step_appI (xs := []) kintTy (by rfl) (.tmp 31) (.tmp 32) (by rfl) 0 (by rfl) hni.1 _ A1 c1 (xs.map (Value.int .i64)) xs.length (by simp) (by rfl) (HR1.out.below hbW.out) (one_ints _) (by omega) (by simp only [maxLen]; omega) hsw xs.length (by omega) ?_
          intro A' c' w3 O3 g3
          rw [List.nil_append] at O3
          have h5 := h.op3 bb hn g3 ⟨A', c', rfl, ownsRow_row O3⟩
          exact HK.out _ _ ⟨h5.a0, _, rfl, h5⟩
        · have bb := (bt_of (hd 3 (of_decide_eq_true (by kernel_rfl))))
          obtain ⟨A, c, e3, hr⟩ := h.i3 bb hn
          clear hd
          have es := upd_self s e3
          have HE := Lib.hid es
          clear es
          refine wpOp_step (i := 4) rfl (fun K hK => ?_)
          have HK := Lib.hid hK
          clear hK
          go_simp
          ((with_reducible refine (KW.out A c _ hr).mono ?_); rintro x w3 ⟨rfl, h3⟩)
          have h5 := (h.after h3).op4 bb
          rw [← HE.out] at h5
          exact HK.out _ _ ⟨h5.a0, _, rfl, h5⟩
        · exact absurd h.t5 hn
        · clear hd
          refine wpOp_step (i := 6) rfl (fun K hK => ?_)
          have HK := Lib.hid hK
          clear hK
          go_simp
          exact HK.out _ _ ⟨h.a0.alloc _, upd s 36 _, rfl, (h.after (alloc_below w2 _)).op6 (NoInts.made hsw) (fun b1 n3 => h.fresh1 b1 n3)⟩
        · exact absurd h.t7 hn
        · have bb := (bt_of (hd 6 (of_decide_eq_true (by kernel_rfl))))
          have b4 := (bt_of (hd 4 (of_decide_eq_true (by kernel_rfl))))
          have hni := h.i6 bb hn
          clear hd
          refine wpOp_step (i := 8) rfl (fun K hK => ?_)
          have HK := Lib.hid hK
          clear hK
          have hlen := hy3.out
          refine step_appI (xs := []) kintTy (by rfl) (.tmp 36) (.tmp 37) (by rfl) 0 (by rfl) hni.1 _ A2 c2 (ys.map (Value.int .i64)) ys.length (by simp) (by rfl) (HR2.out.below hbW.out) (one_ints _) (by omega) (by simp only [maxLen]; omega) hsw ys.length (by omega) ?_
          intro A' c' w3 O3 g3
          rw [List.nil_append] at O3
          have h5 := h.op8 b4 bb hn g3 ⟨A', c', rfl, ownsRow_row O3⟩
          exact HK.out _ _ ⟨h5.a0, _, rfl, h5⟩
        · have bb := (bt_of (hd 8 (of_decide_eq_true (by kernel_rfl))))
          obtain ⟨A, c, e3, hr⟩ := h.i8 bb hn
          clear hd
          have es := upd_self s e3
          have HE := Lib.hid es
          clear es
          refine wpOp_step (i := 9) rfl (fun K hK => ?_)
          have HK := Lib.hid hK
          clear hK
          go_simp
          ((with_reducible refine (KO.out A c _ hr).mono ?_); rintro x w3 ⟨rfl, h3⟩)
          have h5 := (h.after h3).op9 bb
          rw [← HE.out] at h5
          exact HK.out _ _ ⟨h5.a0, _, rfl, h5⟩
        · clear hd
          refine wpOp_step (i := 10) rfl (fun K hK => ?_)
          have HK := Lib.hid hK
          clear hK
          go_simp
          exact HK.out _ _ ⟨h.a0.alloc _, upd s 7 _, rfl, (h.after (alloc_below w2 _)).op10 (fun q => hn (h.d1210 q)) (Var32.made hsw) (fun b => h.fresh11 b)⟩
        · clear hd
          refine wpOp_step (i := 11) rfl (fun K hK => ?_)
          have HK := Lib.hid hK
          clear hK
          go_simp
          exact HK.out _ _ ⟨h.a0.alloc _, upd s 8 _, rfl, (h.after (alloc_below w2 _)).op11 (fun q => hn (h.d1311 q)) (Var32.made hsw) (fun b => h.fresh10 b)⟩
        · have b10 := (bt_of (hd 10 (of_decide_eq_true (by kernel_rfl))))
          have b11 := (bt_of (hd 11 (of_decide_eq_true (by kernel_rfl))))
          have b9 := (bt_of (hd 9 (of_decide_eq_true (by kernel_rfl))))
          have ev := h.i4 (bt_of (hd 4 (of_decide_eq_true (by kernel_rfl))))
          obtain ⟨p, hp, hBp, hAp⟩ := h.i10 b10 hn
          clear hd
          refine wpOp_step (i := 12) rfl (fun K hK => ?_)
          have HK := Lib.hid hK
          clear hK
          rw [if_pos (by kernel_rfl)]
          refine op_lstore (.tmp 7) (.tmp 34) (by kernel_rfl) hAp hp XL.out ev ?_
          intro w3 hA3 g3
          have h5 := h.op12 b9 b10 b11 hn hp hBp g3 hA3
          exact HK.out _ _ ⟨h5.a0, s, rfl, h5⟩
        · have b10 := (bt_of (hd 10 (of_decide_eq_true (by kernel_rfl))))
          have b11 := (bt_of (hd 11 (of_decide_eq_true (by kernel_rfl))))
          have b12 := (bt_of (hd 12 (of_decide_eq_true (by kernel_rfl))))
          have ev := h.i9 (bt_of (hd 9 (of_decide_eq_true (by kernel_rfl))))
          obtain ⟨p, hp, hBp, hAp⟩ := h.i11 b11 hn
          clear hd
          refine wpOp_step (i := 13) rfl (fun K hK => ?_)
          have HK := Lib.hid hK
          clear hK
          rw [if_pos (by kernel_rfl)]
          refine op_lstore (.tmp 8) (.tmp 39) (by kernel_rfl) hAp hp YL.out ev ?_
          intro w3 hA3 g3
          have h5 := h.op13 b12 b10 b11 hp hBp g3 hA3
          exact HK.out _ _ ⟨h5.a0, s, rfl, h5⟩
      · intro l a w2 hsz hall hI
        obtain ⟨s, rfl, h⟩ := hI
        have b12 : bt l 12 := hall 12 (by decide)
        have b13 : bt l 13 := hall 13 (by decide)
        obtain ⟨p, hp, hBp, P2⟩ := h.i12 b12
        obtain ⟨q, hq, hBq, Q2⟩ := h.i13 b13
        have PX := Lib.hid P2
        have QY := Lib.hid Q2
        have A3 := Lib.hid h.a0
        have B3 := Lib.hid (HB.out.trans (h.hb.mono HB.out.size))
        rw [hp, hq]
        generalize s 31 = t31
        generalize s 33 = t33
        generalize s 34 = t34
        generalize s 36 = t36
        generalize s 38 = t38
        generalize s 39 = t39
        clear hp hq h hall b12 b13 P2 Q2 hsz HA HB HD KW KO hBp hBq
        dsimp only
        go_wp2_with fail
        have S1 : LArr w2.drew w.heap.size L := A3.out.drew
        refine wp_region_held_drew (S := fun w' => LArr w' w.heap.size L) (by kernel_rfl) S1 (fun _ => ?_)
        refine wpAnyH_take (i := 0) (v := .agg (cl L)) rfl (by kernel_rfl) (by kernel_rfl) (by kernel_rfl) (fun _ _ _ h => h) (yields_lload (g := w.heap.size) (.tmp 3) (by kernel_rfl) (by kernel_rfl) (by kernel_rfl) (fun _ h => h)) S1 ?_
        refine wpAnyH_take (i := 1) (v := .agg (cl L)) rfl (by kernel_rfl) (by kernel_rfl) (by kernel_rfl) (fun _ _ _ h => h) (yields_lload (g := w.heap.size) (.tmp 3) (by kernel_rfl) (by kernel_rfl) (by kernel_rfl) (fun _ h => h)) S1 ?_
        have HD2 : Hid (Below w2.heap.size w2 w2.drew) := Lib.hid (Below.refl _ _).drew
        refine wpAnyH_inv (fun l a w' => ∃ s : Nat → Value, a = { tmps := #[.agg (cl L), .slice A1 xs.length c1, .slice A2 ys.length c2, .pointer (some ⟨w.heap.size, 0, none⟩), undef, undef, .bool false, .pointer (some ⟨p, 0, none⟩), .pointer (some ⟨q, 0, none⟩), s 9, s 10, undef, undef, undef, undef, undef, undef, undef, undef, undef, .bool true, .bool false, .slice A1 xs.length c1, .int .i64 (xs.length : Int), .bool false, .bool false, .slice A2 ys.length c2, .int .i64 (ys.length : Int), .bool false, .bool false, .agg (cl L), t31, .slice A1 xs.length c1, t33, t34, .agg (cl L), t36, .slice A2 ys.length c2, t38, t39, .agg (cl L), .agg (cl L), undef, undef, undef, undef, undef, undef, undef, undef, undef, undef, undef, undef, undef, undef, undef, undef, undef, undef, undef, undef, undef, undef, undef, undef, undef, undef, undef, undef, undef, undef, undef, undef, undef, undef, undef, undef, undef, undef, undef, undef, undef, undef, undef, undef, undef, undef, undef, undef, undef, undef, undef, undef, undef, undef, undef, undef, undef, undef, undef, undef, undef, undef, undef, undef, undef, undef, undef, undef, undef, undef, undef, undef, undef, undef, undef, undef, undef, undef, undef, undef, undef, undef, undef, undef, undef], defers := [] } ∧ L6 w2 L l s w') (by decide +kernel) ?_ ?_ _ _ _ _ (by kernel_rfl) (by decide) ⟨fun _ => undef, rfl, ?_⟩
        · intro l a w3 i hi hsz h0 hd hI
          obtain ⟨s, rfl, h⟩ := hI
          have hi' : i < 6 := hi
          have hn := not_bt h0
          have hsw := h.hb.size
          have hS3 := A3.out.after h.hb
          clear hi h0
          have hc : i = 0 ∨ i = 1 ∨ i = 2 ∨ i = 3 ∨ i = 4 ∨ i = 5 := by omega
          clear hi'
          rcases hc with rfl | rfl | rfl | rfl | rfl | rfl
          · exact absurd h.t0 hn
          · exact absurd h.t1 hn
          · clear hd
            refine wpOp_step (i := 2) rfl (fun K hK => ?_)
            have HK := Lib.hid hK
            clear hK
            go_simp
            exact HK.out _ _ ⟨hS3.alloc _, upd s 9 _, rfl, (h.after (alloc_below w3 _)).op2 (fun q => hn (h.d42 q)) (Var32.made hsw) (fun b e => h.fresh10 b e.symm)⟩
          · clear hd
            refine wpOp_step (i := 3) rfl (fun K hK => ?_)
            have HK := Lib.hid hK
            clear hK
            go_simp
            exact HK.out _ _ ⟨hS3.alloc _, upd s 10 _, rfl, (h.after (alloc_below w3 _)).op3 (fun q => hn (h.d53 q)) (Var32.made hsw) (fun b => h.fresh9 b)⟩
          · have b2 := (bt_of (hd 2 (of_decide_eq_true (by kernel_rfl))))
            have b3 := (bt_of (hd 3 (of_decide_eq_true (by kernel_rfl))))
            obtain ⟨pp, hp, hBp, hAp⟩ := h.i2 b2 hn
            clear hd
            refine wpOp_step (i := 4) rfl (fun K hK => ?_)
            have HK := Lib.hid hK
            clear hK
            rw [if_pos (by kernel_rfl)]
            refine op_lstore (.tmp 9) (.tmp 40) (by kernel_rfl) hAp hp HL.out (by kernel_rfl) ?_
            intro w4 hA4 g4
            have h5 := h.op4 b2 b3 hn hp hBp g4 hA4
            exact HK.out _ _ ⟨A3.out.after h5.hb, s, rfl, h5⟩
          · have b2 := (bt_of (hd 2 (of_decide_eq_true (by kernel_rfl))))
            have b3 := (bt_of (hd 3 (of_decide_eq_true (by kernel_rfl))))
            have b4 := (bt_of (hd 4 (of_decide_eq_true (by kernel_rfl))))
            obtain ⟨pp, hp, hBp, hAp⟩ := h.i3 b3 hn
            clear hd
            refine wpOp_step (i := 5) rfl (fun K hK => ?_)
            have HK := Lib.hid hK
            clear hK
            rw [if_pos (by kernel_rfl)]
            refine op_lstore (.tmp 10) (.tmp 41) (by kernel_rfl) hAp hp HL.out (by kernel_rfl) ?_
            intro w4 hA4 g4
            have h5 := h.op5 b2 b3 b4 hp hBp g4 hA4
            exact HK.out _ _ ⟨A3.out.after h5.hb, s, rfl, h5⟩
        · intro l a w3 hsz hall hI
          obtain ⟨s, rfl, h⟩ := hI
          have b4 : bt l 4 := hall 4 (by decide)
          have b5 : bt l 5 := hall 5 (by decide)
          have hxy := h.pq (h.d42 b4) (h.d53 b5)
          obtain ⟨x, hx, hBx, X2⟩ := h.i4 b4
          obtain ⟨y, hy, hBy, Y2⟩ := h.i5 b5
          have RX := Lib.hid X2
          have RY := Lib.hid Y2
          have A4 := Lib.hid (A3.out.after h.hb)
          have PX4 := Lib.hid (PX.out.after h.hb)
          have QY4 := Lib.hid (QY.out.after h.hb)
          have B4 := Lib.hid (B3.out.trans (h.hb.mono B3.out.size))
          have FX : Hid (p < x ∧ q < x ∧ w.heap.size < x ∧ p < y ∧ q < y ∧ w.heap.size < y ∧ x ≠ y) := Lib.hid ⟨Nat.lt_of_lt_of_le PX.out.lt hBx, Nat.lt_of_lt_of_le QY.out.lt hBx, Nat.lt_of_lt_of_le A3.out.lt hBx, Nat.lt_of_lt_of_le PX.out.lt hBy, Nat.lt_of_lt_of_le QY.out.lt hBy, Nat.lt_of_lt_of_le A3.out.lt hBy, fun e => hxy (by rw [hx, hy, e])⟩
          rw [hx, hy]
          clear hx hy hxy h hall b4 b5 X2 Y2 hsz A3 B3 PX QY HD2 S1 hBx hBy
          dsimp only
          go_wp2_with fail
          have H4 : Hid (LS w w3 w.heap.size p q L X Y) := Lib.hid ⟨A4.out, PX4.out, QY4.out, B4.out⟩
          clear A4 PX4 QY4 B4
          go_loopw [44] (fun i wr => ∃ k : Nat, k ≤ xs.length ∧ i = .int .i64 k ∧ Hid (LArr wr x (lputs L true (xs.take k))) ∧ Hid (LArr wr y L) ∧ Hid (LS w wr w.heap.size p q L X Y)) (fun i _ => xs.length - (intOf i).toNat)
          case atStart => exact ⟨0, Nat.zero_le _, rfl, RX, RY, H4⟩
          case round =>
            clear RX RY H4
            obtain ⟨k, hk, rfl, hV, hO, hS⟩ := hrel
            by_cases hlt : k < xs.length
            · obtain ⟨a, rfl, hab, hcz⟩ := HR1.out.at_ (k := k) (by simpa using hlt)
              have hz3 := hx3.out
              rw [List.getElem_map] at hcz
              have HT := Lib.hid (lputs_take L true xs hlt)
              obtain ⟨z, hzq⟩ : ∃ z, z = xs[k] := ⟨_, rfl⟩
              rw [← hzq] at hcz HT
              have hc2 := (hS.out.b.cell (p := a.add k) (by rw [add_block]; exact hab)).trans hcz
              clear hzq hcz
              obtain ⟨M, hM⟩ : ∃ M, M = lputs L true (xs.take k) := ⟨_, rfl⟩
              have HM : Hid (M.length = 32) := Lib.hid (by rw [hM, lputs_length]; exact HL.out)
              rw [← hM] at HT hV
              clear hM
              have hput : Hid ((lput M true z).length = 32) := Lib.hid (by rw [lput_length]; exact HM.out)
              have KS := Lib.hid (fun w => set_any M HM.out z true w)
              go_wp2_with (with_reducible refine wpl_lload (.tmp 9) rfl rfl hV.out rfl ?_)
              ((with_reducible refine (KS.out _).mono ?_); rintro e w5 ⟨rfl, b5⟩)
              have V5 := Lib.hid (hV.out.after b5)
              have O5 := Lib.hid (hO.out.after b5)
              have S5 := Lib.hid (hS.out.after b5)
              clear b5 hV hO hS hc2
              go_wp2_with (with_reducible refine wpl_lstore (.tmp 9) (.tmp 50) rfl rfl V5.out rfl hput.out rfl ?_; intro w6 R6 g6 e6)
              have O6 := Lib.hid (O5.out.grown g6 (by have := FX.out; omega))
              have S6 := Lib.hid (S5.out.grown g6 (by have := FX.out; omega) (by have := FX.out; omega) (by have := FX.out; omega) (Nat.le_refl _))
              have R7 := Lib.hid R6
              clear g6 e6 R6
              go_roundw
              case rel => exact ⟨k + 1, by omega, by go_num, Lib.hid (by rw [HT.out]; exact R7.out), O6, S6⟩
              case measure => simp [intOf]; omega
            · obtain rfl : k = xs.length := by omega
              rw [List.take_length, ← HX.out] at hV
              go_wp2_with fail
              obtain ⟨W, hW⟩ : ∃ W, W = wr := ⟨_, rfl⟩
              subst hW
              have H4 := hS
              clear hS
              go_loopw [54] (fun i wr => ∃ k : Nat, k ≤ ys.length ∧ i = .int .i64 k ∧ Hid (LArr wr y (lputs L false (ys.take k))) ∧ Hid (LArr wr x X) ∧ Hid (LS w wr w.heap.size p q L X Y)) (fun i _ => ys.length - (intOf i).toNat)
              case atStart => exact ⟨0, Nat.zero_le _, rfl, hO, hV, H4⟩
              case round =>
                clear hO hV H4
                obtain ⟨k, hk, rfl, hV, hO, hS⟩ := hrel
                by_cases hlt : k < ys.length
                · obtain ⟨a, rfl, hab, hcz⟩ := HR2.out.at_ (k := k) (by simpa using hlt)
                  have hz3 := hy3.out
                  rw [List.getElem_map] at hcz
                  have HT := Lib.hid (lputs_take L false ys hlt)
                  obtain ⟨z, hzq⟩ : ∃ z, z = ys[k] := ⟨_, rfl⟩
                  rw [← hzq] at hcz HT
                  have hc2 := (hS.out.b.cell (p := a.add k) (by rw [add_block]; exact hab)).trans hcz
                  clear hzq hcz
                  obtain ⟨M, hM⟩ : ∃ M, M = lputs L false (ys.take k) := ⟨_, rfl⟩
                  have HM : Hid (M.length = 32) := Lib.hid (by rw [hM, lputs_length]; exact HL.out)
                  rw [← hM] at HT hV
                  clear hM
                  have hput : Hid ((lput M false z).length = 32) := Lib.hid (by rw [lput_length]; exact HM.out)
                  have KS := Lib.hid (fun w => set_any M HM.out z false w)
                  go_wp2_with (with_reducible refine wpl_lload (.tmp 10) rfl rfl hV.out rfl ?_)
                  ((with_reducible refine (KS.out _).mono ?_); rintro e w5 ⟨rfl, b5⟩)
                  have V5 := Lib.hid (hV.out.after b5)
                  have O5 := Lib.hid (hO.out.after b5)
                  have S5 := Lib.hid (hS.out.after b5)
                  clear b5 hV hO hS hc2
                  go_wp2_with (with_reducible refine wpl_lstore (.tmp 10) (.tmp 60) rfl rfl V5.out rfl hput.out rfl ?_; intro w6 R6 g6 e6)
                  have O6 := Lib.hid (O5.out.grown g6 (by have := FX.out; omega))
                  have S6 := Lib.hid (S5.out.grown g6 (by have := FX.out; omega) (by have := FX.out; omega) (by have := FX.out; omega) (Nat.le_refl _))
                  have R7 := Lib.hid R6
                  clear g6 e6 R6
                  go_roundw
                  case rel => exact ⟨k + 1, by omega, by go_num, Lib.hid (by rw [HT.out]; exact R7.out), O6, S6⟩
                  case measure => simp [intOf]; omega
                · obtain rfl : k = ys.length := by omega
                  rw [List.take_length, ← HY.out] at hV
                  have HEQ : Hid (∀ (M : List UInt8), M.length = 32 → ∀ w, (Op.equalIn 10000 40 (.agg (cl M)) (.agg (cl M))).run Try.prog w = .ok true w) := Lib.hid (fun M hM w => by rw [equalIn_lcl hM hM w, decide_eq_true rfl])
                  have hEX := HEQ.out X XL.out
                  have hEY := HEQ.out Y YL.out
                  have hEL := HEQ.out L HL.out
                  have KN : Hid (∀ w, Calls Try.prog 21 #[.agg (cl L), .slice none 0 0] w fun e w' => e = .returned (.agg (cl L)) ∧ Below w.heap.size w w') := Lib.hid (fun w => with_any L HL.out none 0 [] w (fun j u hu => by simp at hu) (by simp))
                  go_wp2_with fail
                  have S3 : Below wr.heap.size wr wr.drew := (Below.refl _ _).drew
                  refine wp_region_held_drew (S := (fun w' => Below wr.heap.size wr w')) (by kernel_rfl) S3 (fun _ => ?_)
                  refine wpAnyH_take (i := 0) (v := .agg (cl X)) rfl (by kernel_rfl) (by kernel_rfl) (by kernel_rfl) (fun _ _ _ h => h) (yields_lload (g := p) (.tmp 7) (by kernel_rfl) (by kernel_rfl) (by kernel_rfl) (fun _ h => hS.out.p.after h)) S3 ?_
                  refine wpAnyH_take (i := 1) (v := .agg (cl X)) rfl (by kernel_rfl) (by kernel_rfl) (by kernel_rfl) (fun _ _ _ h => h) (yields_lload (g := x) (.tmp 9) (by kernel_rfl) (by kernel_rfl) (by kernel_rfl) (fun _ h => hO.out.after h)) S3 ?_
                  refine wpAnyH_take (i := 2) (v := .bool false) rfl (by kernel_rfl) (by kernel_rfl) (by kernel_rfl) (fun _ _ _ h => h) (Or.inl ⟨by kernel_rfl, fun w _ => by go_simp⟩) S3 ?_
                  refine wpAnyH_take (i := 3) (v := .bool false) rfl (by kernel_rfl) (by kernel_rfl) (by kernel_rfl) (fun _ _ _ h => h) (Or.inl ⟨by kernel_rfl, fun w _ => by go_simp⟩) S3 ?_
                  refine wpAnyH_take (i := 4) (v := .agg (cl Y)) rfl (by kernel_rfl) (by kernel_rfl) (by kernel_rfl) (fun _ _ _ h => h) (yields_lload (g := q) (.tmp 8) (by kernel_rfl) (by kernel_rfl) (by kernel_rfl) (fun _ h => hS.out.q.after h)) S3 ?_
                  refine wpAnyH_take (i := 5) (v := .agg (cl Y)) rfl (by kernel_rfl) (by kernel_rfl) (by kernel_rfl) (fun _ _ _ h => h) (yields_lload (g := y) (.tmp 10) (by kernel_rfl) (by kernel_rfl) (by kernel_rfl) (fun _ h => hV.out.after h)) S3 ?_
                  refine wpAnyH_take (i := 6) (v := .bool false) rfl (by kernel_rfl) (by kernel_rfl) (by kernel_rfl) (fun _ _ _ h => h) (Or.inl ⟨by kernel_rfl, fun w _ => by go_simp⟩) S3 ?_
                  refine wpAnyH_take (i := 7) (v := .bool false) rfl (by kernel_rfl) (by kernel_rfl) (by kernel_rfl) (fun _ _ _ h => h) (Or.inl ⟨by kernel_rfl, fun w _ => by go_simp⟩) S3 ?_
                  refine wpAnyH_take (i := 8) (v := .bool false) rfl (by kernel_rfl) (by kernel_rfl) (by kernel_rfl) (fun _ _ _ h => h) (Or.inl ⟨by kernel_rfl, fun w _ => by go_simp⟩) S3 ?_
                  refine wpAnyH_take (i := 9) (v := .agg (cl L)) rfl (by kernel_rfl) (by kernel_rfl) (by kernel_rfl) (fun _ _ _ h => h) (yields_lload (g := w.heap.size) (.tmp 3) (by kernel_rfl) (by kernel_rfl) (by kernel_rfl) (fun _ h => hS.out.a.after h)) S3 ?_
                  refine wpAnyH_take (i := 11) (v := .agg (cl L)) rfl (by kernel_rfl) (by kernel_rfl) (by kernel_rfl) (fun _ _ _ h => h) (yields_lload (g := w.heap.size) (.tmp 3) (by kernel_rfl) (by kernel_rfl) (by kernel_rfl) (fun _ h => hS.out.a.after h)) S3 ?_
                  refine wpAnyH_ready (rs := [10]) (by kernel_rfl) (by simp) (AllReadyH.cons rfl (fun K hK => ?_) AllReadyH.nil)
                  go_simp
                  ((with_reducible refine (KN.out _).mono ?_); rintro e w5 ⟨rfl, b5⟩)
                  have S4 := S3.trans (b5.mono S3.size)
                  refine hK.out _ _ S4 (fun _ => ?_)
                  clear hK K b5
                  refine wpAnyH_take (i := 12) (v := .bool false) rfl (by kernel_rfl) (by kernel_rfl) (by kernel_rfl) (fun _ _ _ h => h) (Or.inl ⟨by kernel_rfl, fun w _ => by go_simp⟩) S4 ?_
                  refine wpAnyH_take (i := 13) (v := .bool false) rfl (by kernel_rfl) (by kernel_rfl) (by kernel_rfl) (fun _ _ _ h => h) (Or.inl ⟨by kernel_rfl, fun w _ => by go_simp⟩) S4 ?_
                  refine wpAnyH_done (by kernel_rfl) ?_ _
                  have LS5 := Lib.hid (hS.out.after S4)
                  have X5 := Lib.hid (hO.out.after S4)
                  clear hEX hEY hEL S3 S4 hS hO hV KN HEQ
                  go_wp2_with (with_reducible refine wpl_lload (.tmp 7) rfl rfl LS5.out.p rfl ?_)
                  ((with_reducible refine (keys_any X XL.out _).mono ?_); rintro e w6 ⟨K0, cK, rfl, O6, b6⟩)
                  have LS6 := Lib.hid (LS5.out.after b6)
                  have X6 := Lib.hid (X5.out.after b6)
                  obtain ⟨N, hN⟩ : ∃ N, N = (keysTo X 256).length := ⟨_, rfl⟩
                  rw [← hN] at O6 ⊢
                  have O7 := Lib.hid O6
                  have HN := Lib.hid hN
                  have hN3 : N ≤ 256 := by rw [hN]; exact keysTo_length_le X 256
                  obtain ⟨bs, hbs⟩ : ∃ bs, bs = w5.heap.size := ⟨_, rfl⟩
                  rw [← hbs] at O7
                  clear b6 O6 LS5 X5 hN hbs
                  go_wp2_with fail
                  obtain ⟨W2, hW2⟩ : ∃ W, W = wr := ⟨_, rfl⟩
                  subst hW2
                  go_loopw [16, 17] (fun n i wr => ∃ z : Int, -1 ≤ z ∧ z ≤ 257 ∧ i = .int .i64 z ∧ ∃ m : Nat, n = .int .i64 (m : Int) ∧ m ≤ 256 ∧ Hid (m = (keysTo X (min z.toNat 256)).length) ∧ Hid (LArr wr x X) ∧ Hid (wr.ownsRow bs 3 1 (.slice K0 N cK) N (kv (keysTo X 256))) ∧ Hid (LS w wr w.heap.size p q L X Y)) (fun _ i _ => (257 - intOf i).toNat)
                  case atStart => exact ⟨-1, by omega, by omega, rfl, 0, rfl, by omega, Lib.hid (by simp [keysTo]), X6, O7, LS6⟩
                  case round =>
                    clear X6 O7 LS6
                    obtain ⟨z, hz1, hz2, rfl, m, rfl, hm3, hm, hX, hO, hS⟩ := hrel
                    by_cases hlt : z ≤ 256
                    · obtain ⟨r, hr⟩ : ∃ r, r = lhas X z := ⟨_, rfl⟩
                      have KH := Lib.hid (fun w => has_any X XL.out z w)
                      have KR := Lib.hid (fun w => refhas_any X XL.out z w)
                      rw [← hr] at KH KR
                      have HR := Lib.hid hr
                      have hrr : (r != r) = false := by simp
                      clear hr
                      go_wp2_with fail
                      have S3 : Below wr.heap.size wr wr.drew := (Below.refl _ _).drew
                      refine wp_region_held_drew (S := (fun w' => Below wr.heap.size wr w')) (by kernel_rfl) S3 (fun _ => ?_)
                      refine wpAnyH_take (i := 0) (v := .agg (cl X)) rfl (by kernel_rfl) (by kernel_rfl) (by kernel_rfl) (fun _ _ _ h => h) (yields_lload (g := p) (.tmp 7) (by kernel_rfl) (by kernel_rfl) (by kernel_rfl) (fun _ h => hS.out.p.after h)) S3 ?_
                      refine wpAnyH_take (i := 1) (v := .int .i64 z) rfl (by kernel_rfl) (by kernel_rfl) (by kernel_rfl) (fun _ _ _ h => h) (Or.inl ⟨by kernel_rfl, fun w _ => by go_simp⟩) S3 ?_
                      refine wpAnyH_take (i := 3) (v := .agg (cl X)) rfl (by kernel_rfl) (by kernel_rfl) (by kernel_rfl) (fun _ _ _ h => h) (yields_lload (g := x) (.tmp 9) (by kernel_rfl) (by kernel_rfl) (by kernel_rfl) (fun _ h => hX.out.after h)) S3 ?_
                      refine wpAnyH_take (i := 4) (v := .int .i64 z) rfl (by kernel_rfl) (by kernel_rfl) (by kernel_rfl) (fun _ _ _ h => h) (Or.inl ⟨by kernel_rfl, fun w _ => by go_simp⟩) S3 ?_
                      refine wpAnyH_ready (rs := [2]) (by kernel_rfl) (by simp) (AllReadyH.cons rfl (fun K hK => ?_) AllReadyH.nil)
                      go_simp
                      ((with_reducible refine (KH.out _).mono ?_); rintro e w7 ⟨rfl, b7⟩)
                      have S4 := S3.trans (b7.mono S3.size)
                      refine hK.out _ _ S4 (fun _ => ?_)
                      clear hK K b7
                      refine wpAnyH_ready (rs := [5]) (by kernel_rfl) (by simp) (AllReadyH.cons rfl (fun K hK => ?_) AllReadyH.nil)
                      go_simp
                      ((with_reducible refine (KR.out _).mono ?_); rintro e w8 ⟨rfl, b8⟩)
                      have S5 := S4.trans (b8.mono S4.size)
                      refine hK.out _ _ S5 (fun _ => ?_)
                      clear hK K b8
                      refine wpAnyH_take (i := 6) (v := .bool false) rfl (by kernel_rfl) (by kernel_rfl) (by kernel_rfl) (fun _ _ _ h => h) (Or.inl ⟨by kernel_rfl, fun w _ => by go_simp⟩) S5 ?_
                      refine wpAnyH_done (by kernel_rfl) ?_ _
                      have X8 := Lib.hid (hX.out.after S5)
                      have LS8 := Lib.hid (hS.out.after S5)
                      have O8 := Lib.hid (World.ownsRow.kept hO.out (only_of_below S5 none) (by cases (Value.slice K0 N cK).ownBlock <;> simp))
                      clear hX hS hO S3 S4 S5 KH hrr
                      go_wp2_with (with_reducible refine wpl_lload (.tmp 9) rfl rfl X8.out rfl ?_)
                      ((with_reducible refine (KR.out _).mono ?_); rintro e w9 ⟨rfl, b9⟩)
                      have X9 := Lib.hid (X8.out.after b9)
                      have LS9 := Lib.hid (LS8.out.after b9)
                      have O9 := Lib.hid (World.ownsRow.kept O8.out (only_of_below b9 none) (by cases (Value.slice K0 N cK).ownBlock <;> simp))
                      clear b9 X8 LS8 O8 KR
                      cases r with
                      | true =>
                        obtain ⟨k, rfl, hk, hkb⟩ := keys_here HR.out.symm
                        have HK := Lib.hid hkb
                        clear hkb
                        have hmk : m = (keysTo X k).length := by rw [hm.out, show min ((k : Int)).toNat 256 = k by omega]
                        have hat := keysTo_at hk HK.out
                        rw [← HN.out, ← hmk] at hat
                        obtain ⟨hmN, hget⟩ := hat
                        have hrow := ownsRow_row O9.out
                        obtain ⟨a, rfl, hab, hcz⟩ := hrow.at_ (k := m) (by rw [kv_length, ← HN.out]; exact hmN)
                        have hg2 := kv_get hget
                        rw [List.getElem?_eq_getElem (by rw [kv_length, ← HN.out]; exact hmN)] at hg2
                        rw [Option.some.inj hg2] at hcz
                        have HMK := Lib.hid hmk
                        have dN : decide ((N : Int) ≤ (m : Int)) = false := by rw [decide_eq_false_iff_not]; omega
                        clear hg2 hrow hget hmk hab
                        go_wp2_with fail
                        go_roundw
                        case rel => exact ⟨(k : Int) + 1, by omega, by omega, by go_num, m + 1, by go_num, by omega, Lib.hid (by rw [show min ((k : Int) + 1).toNat 256 = k + 1 by omega, keysTo_succ, if_pos HK.out, List.length_append, ← HMK.out]; rfl), X9, O9, LS9⟩
                        case measure => simp [intOf]; omega
                      | false =>
                        have hst := Lib.hid (keys_step hz1 hlt HR.out.symm)
                        go_wp2_with fail
                        go_roundw
                        case rel => exact ⟨z + 1, by omega, by omega, by go_num, m, rfl, hm3, Lib.hid (by rw [hst.out]; exact hm.out), X9, O9, LS9⟩
                        case measure => simp [intOf]; omega
                    · obtain rfl : z = 257 := by omega
                      have hmN : m = N := by rw [hm.out, HN.out]; rfl
                      subst hmN
                      clear hm hX hO
                      go_wp2_with fail
                      obtain ⟨W3, hW3⟩ : ∃ W, W = wr := ⟨_, rfl⟩
                      subst hW3
                      go_loopw [108] (fun i wr => ∃ k : Nat, k ≤ xs.length ∧ i = .int .i64 k ∧ Hid (LS w wr w.heap.size p q L X Y)) (fun i _ => xs.length - (intOf i).toNat)
                      case atStart => exact ⟨0, Nat.zero_le _, rfl, hS⟩
                      case round =>
                        clear hS
                        obtain ⟨k, hk, rfl, hS⟩ := hrel
                        by_cases hlt4 : k < xs.length
                        · obtain ⟨a, rfl, hab, hcz⟩ := HR1.out.at_ (k := k) (by simpa using hlt4)
                          have hz3 := hx3.out
                          rw [List.getElem_map] at hcz
                          have hmem := Lib.hid (List.getElem_mem hlt4)
                          obtain ⟨z, hzq⟩ : ∃ z, z = xs[k] := ⟨_, rfl⟩
                          rw [← hzq] at hcz hmem
                          have hc2 := (hS.out.b.cell (p := a.add k) (by rw [add_block]; exact hab)).trans hcz
                          clear hzq hcz
                          have KH := Lib.hid (fun w => has_any X XL.out z w)
                          have hr : lhas X z = decide (0 ≤ z ∧ z < 256) := by rw [HX.out]; exact lhas_mem HL.out hmem.out
                          rw [hr] at KH
                          clear hr
                          by_cases hp0 : 0 ≤ z
                          · by_cases hp1 : z < 256
                            · have hq1 : z < 256 := hp1
                              have dv : decide (0 ≤ z ∧ z < 256) = true := by rw [decide_eq_true_iff]; exact ⟨hp0, hp1⟩
                              rw [dv] at KH
                              clear dv
                              go_wp2_with (with_reducible refine wpl_lload (.tmp 7) rfl rfl hS.out.p rfl ?_)
                              ((with_reducible refine (KH.out _).mono ?_); rintro e w9 ⟨rfl, b9⟩)
                              have LS9 := Lib.hid (hS.out.after b9)
                              clear b9 hS hc2
                              go_wp2_with fail
                              go_roundw
                              case rel => exact ⟨k + 1, by omega, by go_num, LS9⟩
                              case measure => simp [intOf]; omega
                            · have hq1 : ¬ z < 256 := hp1
                              have dv : decide (0 ≤ z ∧ z < 256) = false := by rw [decide_eq_false_iff_not]; omega
                              rw [dv] at KH
                              clear dv
                              go_wp2_with (with_reducible refine wpl_lload (.tmp 7) rfl rfl hS.out.p rfl ?_)
                              ((with_reducible refine (KH.out _).mono ?_); rintro e w9 ⟨rfl, b9⟩)
                              have LS9 := Lib.hid (hS.out.after b9)
                              clear b9 hS hc2
                              go_wp2_with fail
                              go_roundw
                              case rel => exact ⟨k + 1, by omega, by go_num, LS9⟩
                              case measure => simp [intOf]; omega
                          · have hq0 : ¬ 0 ≤ z := hp0
                            have dv : decide (0 ≤ z ∧ z < 256) = false := by rw [decide_eq_false_iff_not]; omega
                            rw [dv] at KH
                            clear dv
                            go_wp2_with (with_reducible refine wpl_lload (.tmp 7) rfl rfl hS.out.p rfl ?_)
                            ((with_reducible refine (KH.out _).mono ?_); rintro e w9 ⟨rfl, b9⟩)
                            have LS9 := Lib.hid (hS.out.after b9)
                            clear b9 hS hc2
                            go_wp2_with fail
                            go_roundw
                            case rel => exact ⟨k + 1, by omega, by go_num, LS9⟩
                            case measure => simp [intOf]; omega
                        · obtain rfl : k = xs.length := by omega
                          go_wp2_with fail
                          go_ret
                          exact ⟨rfl, hS.out.b⟩
        · exact ⟨by kernel_rfl, (show _ = true by kernel_rfl), (show _ = true by kernel_rfl), HD2.out, (fun h _ => absurd h (not_bt (by kernel_rfl))), (fun h _ => absurd h (not_bt (by kernel_rfl))), (fun h => absurd h (not_bt (by kernel_rfl))), (fun h => absurd h (not_bt (by kernel_rfl))), (fun h _ => absurd h (not_bt (by kernel_rfl))), (fun h => absurd h (not_bt (by kernel_rfl))), (fun h => absurd h (not_bt (by kernel_rfl))), (fun h => absurd h (not_bt (by kernel_rfl)))⟩
      · exact ⟨by kernel_rfl, (show _ = true by kernel_rfl), (show _ = true by kernel_rfl), (show _ = true by kernel_rfl), (show _ = true by kernel_rfl), S0, HA.out.lt, HD.out, (fun h _ => absurd h (not_bt (by kernel_rfl))), (fun h _ => absurd h (not_bt (by kernel_rfl))), (fun h _ _ _ => absurd h (not_bt (by kernel_rfl))), (fun h _ => absurd h (not_bt (by kernel_rfl))), (fun h _ => absurd h (not_bt (by kernel_rfl))), (fun h => absurd h (not_bt (by kernel_rfl))), (fun h => absurd h (not_bt (by kernel_rfl))), (fun h _ => absurd h (not_bt (by kernel_rfl))), (fun h _ => absurd h (not_bt (by kernel_rfl))), (fun h => absurd h (not_bt (by kernel_rfl))), (fun h => absurd h (not_bt (by kernel_rfl))), (fun h _ => absurd h (not_bt (by kernel_rfl))), (fun h => absurd h (not_bt (by kernel_rfl))), (fun h => absurd h (not_bt (by kernel_rfl))), (fun h => absurd h (not_bt (by kernel_rfl))), (fun h => absurd h (not_bt (by kernel_rfl))), (fun h => absurd h (not_bt (by kernel_rfl))), (fun h => absurd h (not_bt (by kernel_rfl))), (fun h => absurd h (not_bt (by kernel_rfl)))⟩
end Go.Proofs.Ytdmganpblkepfaa
