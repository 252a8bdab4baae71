/- What the document's Without of an inode answers. No condition but that the entries are there. -/
import Derived.Test.YtkpojlnfagonbaaQInoStep
import Derived.Test.YtkpojlnfagonbaaQInoRef
import Derived.Test.YtkpojlnfagonbaaQCore
namespace Go.Proofs.Ytkpojlnfagonbaa
open Go.RowKit Go.Shelf
/-- the entries but those of a name -/
def outL (es : List EN) (s : ByteArray) : List EN := es.filter fun e => e.n.toList != s.toList
theorem outL_next {es : List EN} {q : Nat} (h : q < es.length) (s : ByteArray) : outL (es.take (q + 1)) s = if (atE es q).n.toList = s.toList then outL (es.take q) s else outL (es.take q) s ++ [atE es q] := by
  unfold outL
  rw [take_snoc _ (atE_get h), List.filter_append]
  by_cases e : (atE es q).n.toList = s.toList
  · rw [if_pos e]
    simp [e]
  · rw [if_neg e]
    simp [e]
theorem outL_len (es : List EN) (s : ByteArray) : (outL es s).length ≤ es.length := List.length_filter_le _ _
set_option maxRecDepth 100000 in
set_option maxHeartbeats 8000000 in
theorem refWithout_any (n : IN) (v : Value) (s : ByteArray) (w : World) (hv : Ents w w.heap.size v n.es) (hl : n.es.length ≤ 1000) :
    Calls Try.prog 16 #[.agg #[.int .i64 n.k, .int .i64 n.z, v], .string s] w fun e w' => ∃ m, Hid (m = (outL n.es s).length) ∧ ∃ A c, e = .returned (.agg #[.int .i64 n.k, .int .i64 n.z, .slice A m c]) ∧ Hid (OwnE w' w.heap.size (.slice A m c) (outL n.es s)) ∧ Below w.heap.size w w' := by
  have HV := Lib.hid hv
  obtain ⟨A, c, rfl, hc, hm⟩ := hv.shape
  obtain ⟨ti, hi, hzz, hs, hby⟩ := infoE'
  have HB := Lib.hid ((Below.refl w.heap.size w).alloc (Nat.le_refl _) (.cells #[.int .i64 n.k, .int .i64 n.z, .slice A n.es.length c] 24))
  have BX := Lib.hid (fun w' => box3 w (.int .i64 n.k) (.int .i64 n.z) (.slice A n.es.length c) 24 (w' := w'))
  clear hv
  obtain ⟨k, z, es⟩ := n
  simp only at hc HB HV BX hl ⊢
  obtain ⟨N, hN⟩ : ∃ N, es.length = N := ⟨_, rfl⟩
  have HN := Lib.hid hN
  rw [hN] at hc HB HV BX hl ⊢
  clear hN
  have HBW := Lib.hid (HV.out.after HB.out)
  have b1 := (Below.refl (w.alloc (.cells #[.int .i64 k, .int .i64 z, .slice A N c] 24)).heap.size (w.alloc (.cells #[.int .i64 k, .int .i64 z, .slice A N c] 24))).alloc (Nat.le_refl _) (.cells #[.int .i64 0, .int .i64 0, .slice none 0 0] 24)
  have H3 : Hid (Below (w.alloc (.cells #[.int .i64 k, .int .i64 z, .slice A N c] 24)).heap.size (w.alloc (.cells #[.int .i64 k, .int .i64 z, .slice A N c] 24)) (((w.alloc (.cells #[.int .i64 k, .int .i64 z, .slice A N c] 24)).alloc (.cells #[.int .i64 0, .int .i64 0, .slice none 0 0] 24)).alloc (.cells #[.int .i64 k, .int .i64 z, .slice none 0 0] 24))) := Lib.hid (b1.alloc b1.size (.cells #[.int .i64 k, .int .i64 z, .slice none 0 0] 24))
  have B3 : Hid (Blk (((w.alloc (.cells #[.int .i64 k, .int .i64 z, .slice A N c] 24)).alloc (.cells #[.int .i64 0, .int .i64 0, .slice none 0 0] 24)).alloc (.cells #[.int .i64 k, .int .i64 z, .slice none 0 0] 24)) (w.heap.size + 1) 24 [.int .i64 0, .int .i64 0, .slice none 0 0]) := Lib.hid (by
    have h := (Blk.new (w.alloc (.cells #[.int .i64 k, .int .i64 z, .slice A N c] 24)) 24 [.int .i64 0, .int .i64 0, .slice none 0 0]).alloc (.cells #[.int .i64 k, .int .i64 z, .slice none 0 0] 24)
    rw [World.size_alloc] at h
    exact h)
  have N3 : Hid (Blk (((w.alloc (.cells #[.int .i64 k, .int .i64 z, .slice A N c] 24)).alloc (.cells #[.int .i64 0, .int .i64 0, .slice none 0 0] 24)).alloc (.cells #[.int .i64 k, .int .i64 z, .slice none 0 0] 24)) (w.heap.size + 2) 24 [.int .i64 k, .int .i64 z, .slice none 0 0]) := Lib.hid (by
    have h := Blk.new ((w.alloc (.cells #[.int .i64 k, .int .i64 z, .slice A N c] 24)).alloc (.cells #[.int .i64 0, .int .i64 0, .slice none 0 0] 24)) 24 [.int .i64 k, .int .i64 z, .slice none 0 0]
    rw [World.size_alloc, World.size_alloc] at h
    exact h)
  have SZ3 : Hid (w.heap.size + 3 ≤ (((w.alloc (.cells #[.int .i64 k, .int .i64 z, .slice A N c] 24)).alloc (.cells #[.int .i64 0, .int .i64 0, .slice none 0 0] 24)).alloc (.cells #[.int .i64 k, .int .i64 z, .slice none 0 0] 24)).heap.size) := Lib.hid (by simp)
  have SW1 : Hid ((w.alloc (.cells #[.int .i64 k, .int .i64 z, .slice A N c] 24)).heap.size = w.heap.size + 1) := Lib.hid (by simp)
  clear b1
  go_enter Try.func16, Try.ntmps16
  go_wp2_with fail
  generalize (((w.alloc (.cells #[.int .i64 k, .int .i64 z, .slice A N c] 24)).alloc (.cells #[.int .i64 0, .int .i64 0, .slice none 0 0] 24)).alloc (.cells #[.int .i64 k, .int .i64 z, .slice none 0 0] 24)) = W3 at H3 B3 N3 SZ3 ⊢
  generalize w.alloc (.cells #[.int .i64 k, .int .i64 z, .slice A N c] 24) = W1 at H3 HB HBW BX SW1 ⊢
  obtain ⟨g0, hg0⟩ : ∃ g0, w.heap.size = g0 := ⟨_, rfl⟩
  have HG0 := Lib.hid hg0
  rw [hg0] at B3 N3 SZ3 BX SW1 ⊢
  clear hg0
  go_loopg [6] N (fun g i wx => ∃ q : Nat, ∃ m A' c', ∃ L : List EN, q + g = N ∧ i = .int .i64 q ∧ Hid (L.length = m) ∧ Hid (m ≤ q) ∧ Hid (L = outL (es.take q) s) ∧ Hid (Blk wx (g0 + 1) 24 [.int .i64 0, .int .i64 0, .slice none 0 0]) ∧ Hid (Blk wx (g0 + 2) 24 [.int .i64 k, .int .i64 z, .slice A' m c']) ∧ Hid (OwnE wx (g0 + 3) (.slice A' m c') L) ∧ Hid (Below W1.heap.size W1 wx) ∧ Hid (g0 + 3 ≤ wx.heap.size))
  case atStart => exact ⟨0, 0, none, 0, [], by omega, rfl, Lib.hid rfl, Lib.hid (Nat.le_refl _), Lib.hid rfl, B3, N3, Lib.hid (OwnE.nil _ _), H3, SZ3⟩
  case round =>
    obtain ⟨q, m, A', c', L, hq, rfl, hLm, hmq, hL, hB, hN, hO, hW, hZ⟩ := hrel
    have x2 := (BX.out _ hW.out).2.2
    cases gk with
    | zero =>
      obtain rfl : q = N := by omega
      have i4 : ¬ (q : Int) < (q : Int) := by omega
      clear hq
      go_wp2_with (first
        | (with_reducible refine wpl_seg_load aggI sizeI (.tmp 5) rfl rfl hN.out 0 [.int .i64 k, .int .i64 z, .slice A' m c'] rfl rfl rfl ?_)
        | ((with_reducible refine wpl_seg_store sizeI (.tmp 4) (.tmp 37) rfl rfl hB.out 0 [.int .i64 k, .int .i64 z, .slice A' m c'] rfl (Nat.le_refl _) (by simp [Value.oneCell']) rfl rfl _ rfl ?_); intro w10 B10 g10 e10))
      refine bodyPost_ret (sret1 aggI sizeI rfl _ B10 (i := 0) (vs := [.int .i64 k, .int .i64 z, .slice A' m c']) rfl rfl rfl) rfl ?_
      have hLe : L = outL es s := by rw [hL.out, List.take_of_length_le (by rw [HN.out]; exact Nat.le_refl _)]
      have O10 := hO.out.grown (by omega) g10
      have H10 : Below W1.heap.size W1 w10 := hW.out.grown g10 hW.out.size (fun k e => by cases e; rw [SW1.out]; exact Nat.le_refl _)
      rw [hLe] at O10
      refine ⟨m, Lib.hid (by rw [← hLm.out, hLe]), A', c', rfl, Lib.hid (O10.lower (by have := HG0.out; omega)), HB.out.trans (H10.mono HB.out.size)⟩
    | succ g =>
      have hlt : q < es.length := by rw [HN.out]; omega
      have i4 : (q : Int) < (N : Int) := by omega
      have HNX := Lib.hid (outL_next hlt s)
      obtain ⟨a, rfl, _, hck⟩ := (HBW.out.below hW.out).elem (atE_get hlt)
      obtain ⟨E, hE⟩ : ∃ E, atE es q = E := ⟨_, rfl⟩
      have KS : Hid (∀ w', Below W1.heap.size W1 w' → w'.cell? ⟨g0, 2, none⟩ = some (.slice (some a) N c) ∧ ∀ (j : Nat) u, ([.string E.n, .int .i64 E.i] : List Value)[j]? = some u → w'.cell? ((a.add (q * 2)).add j) = some u) := Lib.hid fun w' hb => by
        obtain ⟨a', e', _, hck⟩ := (HBW.out.below hb).elem (atE_get hlt)
        cases e'
        rw [hE] at hck
        exact ⟨(BX.out _ hb).2.2, hck⟩
      rw [hE] at hck HNX
      have e1 := first_cell (hck 0 _ rfl)
      clear hE hck
      by_cases hs' : E.n.toList = s.toList
      · have i5 : (E.n.toList == s.toList) = true := by simp [hs']
        have hx := HNX.out
        rw [if_pos hs'] at hx
        have HX := Lib.hid (hL.out.trans hx.symm)
        clear hs' hx HNX
        go_wp2_with fail
        go_roundg g
        case measure => omega
        case rel => exact ⟨q + 1, m, A', c', L, by omega, by go_num, hLm, Lib.hid (by have := hmq.out; omega), HX, hB, hN, hO, hW, hZ⟩
      · have i5 : (E.n.toList == s.toList) = false := by simpa using hs'
        have hx := HNX.out
        rw [if_neg hs', ← hL.out] at hx
        have HX := Lib.hid hx.symm
        have c5 : wr.cell? ⟨g0 + 2, 2, none⟩ = some (.slice A' m c') := hN.out.cell 2
        have T1 := Lib.hid hW.out.drew
        have S1 := KS.out _ T1.out
        have hmN : m ≤ N := by have := hmq.out; omega
        clear hs' hx HNX
        go_wp2_with fail
        clear x2 e1
        refine wp_region_held_drew (S := (fun w' => w'.cell? ⟨g0, 2, none⟩ = some (.slice (some a) N c) ∧ ∀ (j : Nat) u, ([.string E.n, .int .i64 E.i] : List Value)[j]? = some u → w'.cell? ((a.add (q * 2)).add j) = some u)) (by kernel_rfl) S1 (fun _ => ?_)
        refine wpAnyH_take (i := 0) (v := .pointer (some ⟨g0 + 2, 2, none⟩)) rfl (by kernel_rfl) (by kernel_rfl) (by kernel_rfl) (fun _ _ _ h => h) (Or.inl ⟨by kernel_rfl, fun w _ => by go_simp⟩) S1 ?_
        simp only [Act.put, List.getElem_toArray, List.getElem_cons_zero, List.setIfInBounds_toArray, List.set_cons_zero, List.set_cons_succ]
        refine wpAnyH_take (i := 2) (v := .pointer (some ⟨g0, 2, none⟩)) rfl (by kernel_rfl) (by kernel_rfl) (by kernel_rfl) (fun _ _ _ h => h) (Or.inl ⟨by kernel_rfl, fun w _ => by go_simp⟩) S1 ?_
        simp only [Act.put, List.getElem_toArray, List.getElem_cons_zero, List.getElem_cons_succ, List.setIfInBounds_toArray, List.set_cons_zero, List.set_cons_succ]
        refine wpAnyH_take (i := 3) (v := .slice (some a) N c) rfl (by kernel_rfl) (by kernel_rfl) (by kernel_rfl) (fun _ _ _ h => h) (yields_one (ty := 22) (fun w => by kernel_rfl) (.tmp 29) (by kernel_rfl) (by kernel_rfl) (by kernel_rfl) (fun w h => h.1)) S1 ?_
        simp only [Act.put, List.getElem_toArray, List.getElem_cons_zero, List.getElem_cons_succ, List.setIfInBounds_toArray, List.set_cons_zero, List.set_cons_succ]
        refine wpAnyH_take (i := 4) (v := .int .i64 (q : Int)) rfl (by kernel_rfl) (by kernel_rfl) (by kernel_rfl) (fun _ _ _ h => h) (Or.inl ⟨by kernel_rfl, fun w _ => by go_simp⟩) S1 ?_
        simp only [Act.put, List.getElem_toArray, List.getElem_cons_zero, List.getElem_cons_succ, List.setIfInBounds_toArray, List.set_cons_zero, List.set_cons_succ]
        refine wpAnyH_take (i := 5) (v := .pointer (some (a.add (q * 2)))) rfl (by kernel_rfl) (by kernel_rfl) (by kernel_rfl) (fun _ _ _ h => h) (Or.inl ⟨by kernel_rfl, fun w _ => by go_simp⟩) S1 ?_
        simp only [Act.put, List.getElem_toArray, List.getElem_cons_zero, List.getElem_cons_succ, List.setIfInBounds_toArray, List.set_cons_zero, List.set_cons_succ]
        refine wpAnyH_take (i := 6) (v := .agg #[.string E.n, .int .i64 E.i]) rfl (by kernel_rfl) (by kernel_rfl) (by kernel_rfl) (fun _ _ _ h => h) (yields_cells (q := a.add (q * 2)) (row := [.string E.n, .int .i64 E.i]) aggE sizeE (.tmp 32) (by kernel_rfl) (by kernel_rfl) (by kernel_rfl) rfl (fun w h => h.2)) S1 ?_
        simp only [Act.put, List.getElem_toArray, List.getElem_cons_zero, List.getElem_cons_succ, List.setIfInBounds_toArray, List.set_cons_zero, List.set_cons_succ]
        refine wpAnyH_ready (rs := [1, 7]) (by kernel_rfl) (by simp) (AllReadyH.cons rfl (fun K hK => ?_) (AllReadyH.cons rfl (fun K hK => ?_) AllReadyH.nil))
        · go_simp
          refine hK _ _ S1 (fun _ => ?_)
          clear hK K
          refine wpAnyH_ready (rs := [7]) (by kernel_rfl) (by simp) (AllReadyH.cons rfl (fun K hK => ?_) AllReadyH.nil)
          go_simp
          have T2 := Lib.hid ((hW.out.alloc hW.out.size (.cells #[.string E.n, .int .i64 E.i] 32)).drew)
          have O2 : Hid (OwnE (wr.alloc (.cells #[.string E.n, .int .i64 E.i] 32)).drew (g0 + 3) (.slice A' m c') L) := Lib.hid (hO.out.kept (((Below.refl wr.heap.size wr).alloc (Nat.le_refl _) (.cells #[.string E.n, .int .i64 E.i] 32)).drew))
          have B2 : Hid (Blk (wr.alloc (.cells #[.string E.n, .int .i64 E.i] 32)).drew (g0 + 1) 24 [.int .i64 0, .int .i64 0, .slice none 0 0]) := Lib.hid (hB.out.alloc (.cells #[.string E.n, .int .i64 E.i] 32))
          have N2 : Hid (Blk (wr.alloc (.cells #[.string E.n, .int .i64 E.i] 32)).drew (g0 + 2) 24 [.int .i64 k, .int .i64 z, .slice A' m c']) := Lib.hid (hN.out.alloc (.cells #[.string E.n, .int .i64 E.i] 32))
          have D2 : Hid (Row (wr.alloc (.cells #[.string E.n, .int .i64 E.i] 32)).drew (wr.heap.size + 1) (some ⟨wr.heap.size, 0, none⟩) (erows [E])) := Lib.hid (Row.new wr #[.string E.n, .int .i64 E.i] 32 (0, 0) wr.heap.size rfl (Nat.lt_succ_self _))
          have Z2 : Hid (g0 + 3 ≤ (wr.alloc (.cells #[.string E.n, .int .i64 E.i] 32)).drew.heap.size) := Lib.hid (Nat.le_trans hZ.out (by simp))
          have S2 := KS.out _ T2.out
          obtain ⟨W2, hW2⟩ : ∃ W2, W2 = (wr.alloc (.cells #[.string E.n, .int .i64 E.i] 32)).drew := ⟨_, rfl⟩
          rw [← hW2] at T2 O2 B2 N2 D2 Z2 S2 ⊢
          obtain ⟨gx, hgx⟩ : ∃ gx, wr.heap.size = gx := ⟨_, rfl⟩
          rw [hgx] at D2 ⊢
          clear hW2 hgx
          refine hK _ _ S2 (fun _ => ?_)
          clear hK K
          refine wpAnyH_ready (rs := [8]) (by kernel_rfl) (by simp) (AllReadyH.cons rfl (fun K hK => ?_) AllReadyH.nil)
          refine step_append_ents hi hzz rfl hs hby (by kernel_rfl) (.tmp 28) (.tmp 34) (by kernel_rfl) hLm.out (by kernel_rfl) O2.out ⟨gx, 0, none⟩ 1 1 [E] rfl (by kernel_rfl) _ D2.out (by omega) Z2.out (m + 1) rfl ?_
          intro A9 c9 w9 O9 g9
          have hlo : ∀ q, (Value.slice A' m c').ownBlock = some q → g0 + 3 ≤ q := fun q e => (World.ownsRow.lt O2.out q e).1
          have HO9 := Lib.hid O9
          have B9 := Lib.hid (B2.out.grown g9 (fun e => by have := hlo (g0 + 1) e.symm; omega))
          have N9 := Lib.hid (N2.out.grown g9 (fun e => by have := hlo (g0 + 2) e.symm; omega))
          have H9 := Lib.hid (T2.out.grown g9 T2.out.size fun q e => by have := hlo q e; have := SW1.out; omega)
          have Z9 := Lib.hid (Nat.le_trans Z2.out g9.size)
          have S9 := KS.out _ H9.out
          have c9x : w9.cell? ⟨g0 + 2, 2, none⟩ = some (.slice A' m c') := N9.out.cell 2
          have f9x := N9.out.free 2
          clear O9 g9 hlo O2 B2 N2 D2 T2 Z2
          refine hK _ _ S9 (fun _ => ?_)
          clear hK K
          refine wpAnyH_take (i := 9) (v := .pointer (some ⟨g0 + 2, 2, none⟩)) rfl (by kernel_rfl) (by kernel_rfl) (by kernel_rfl) (fun _ _ _ h => h) (Or.inl ⟨by kernel_rfl, fun w _ => by go_simp⟩) S9 ?_
          simp only [Act.put, List.getElem_toArray, List.getElem_cons_zero, List.getElem_cons_succ, List.setIfInBounds_toArray, List.set_cons_zero, List.set_cons_succ]
          refine wpAnyH_ready (rs := [10]) (by kernel_rfl) (by simp) (AllReadyH.cons rfl (fun K hK => ?_) AllReadyH.nil)
          go_simp
          have s10 : w9.grownBy (w9.setCell ⟨g0 + 2, 2, none⟩ (.slice A9 (m + 1) c9)) (some (g0 + 2)) := only_set w9 ⟨g0 + 2, 2, none⟩ (.slice A9 (m + 1) c9)
          have N10 : Hid (Blk (w9.setCell ⟨g0 + 2, 2, none⟩ (.slice A9 (m + 1) c9)) (g0 + 2) 24 [.int .i64 k, .int .i64 z, .slice A9 (m + 1) c9]) := Lib.hid (N9.out.set 2 (.slice A9 (m + 1) c9))
          have B10 := Lib.hid (B9.out.grown s10 (by simp))
          have O10 := Lib.hid (HO9.out.grown (by omega) s10)
          have H10 := Lib.hid (H9.out.grown s10 H9.out.size fun q e => by cases e; have := SW1.out; omega)
          have Z10 := Lib.hid (Nat.le_trans Z9.out s10.size)
          have S10 := KS.out _ H10.out
          refine hK _ _ S10 (fun _ => ?_)
          clear hK K
          refine wpAnyH_done (by kernel_rfl) ?_ _
          generalize w9.setCell ⟨g0 + 2, 2, none⟩ (.slice A9 (m + 1) c9) = W10 at N10 B10 O10 H10 Z10 ⊢
          clear S10 S9 S1 s10 c9x f9x N9 B9 HO9 H9 Z9
          go_wp2_with fail
          go_roundg g
          case measure => omega
          case rel => exact ⟨q + 1, m + 1, A9, c9, _, by omega, by go_num, Lib.hid (by rw [List.length_append, hLm.out]; rfl), Lib.hid (by have := hmq.out; omega), HX, B10, N10, O10, H10, Z10⟩
        · go_simp
          have T2 := Lib.hid ((hW.out.alloc hW.out.size (.cells #[.string E.n, .int .i64 E.i] 32)).drew)
          have O2 : Hid (OwnE (wr.alloc (.cells #[.string E.n, .int .i64 E.i] 32)).drew (g0 + 3) (.slice A' m c') L) := Lib.hid (hO.out.kept (((Below.refl wr.heap.size wr).alloc (Nat.le_refl _) (.cells #[.string E.n, .int .i64 E.i] 32)).drew))
          have B2 : Hid (Blk (wr.alloc (.cells #[.string E.n, .int .i64 E.i] 32)).drew (g0 + 1) 24 [.int .i64 0, .int .i64 0, .slice none 0 0]) := Lib.hid (hB.out.alloc (.cells #[.string E.n, .int .i64 E.i] 32))
          have N2 : Hid (Blk (wr.alloc (.cells #[.string E.n, .int .i64 E.i] 32)).drew (g0 + 2) 24 [.int .i64 k, .int .i64 z, .slice A' m c']) := Lib.hid (hN.out.alloc (.cells #[.string E.n, .int .i64 E.i] 32))
          have D2 : Hid (Row (wr.alloc (.cells #[.string E.n, .int .i64 E.i] 32)).drew (wr.heap.size + 1) (some ⟨wr.heap.size, 0, none⟩) (erows [E])) := Lib.hid (Row.new wr #[.string E.n, .int .i64 E.i] 32 (0, 0) wr.heap.size rfl (Nat.lt_succ_self _))
          have Z2 : Hid (g0 + 3 ≤ (wr.alloc (.cells #[.string E.n, .int .i64 E.i] 32)).drew.heap.size) := Lib.hid (Nat.le_trans hZ.out (by simp))
          have S2 := KS.out _ T2.out
          obtain ⟨W2, hW2⟩ : ∃ W2, W2 = (wr.alloc (.cells #[.string E.n, .int .i64 E.i] 32)).drew := ⟨_, rfl⟩
          rw [← hW2] at T2 O2 B2 N2 D2 Z2 S2 ⊢
          obtain ⟨gx, hgx⟩ : ∃ gx, wr.heap.size = gx := ⟨_, rfl⟩
          rw [hgx] at D2 ⊢
          clear hW2 hgx
          refine hK _ _ S2 (fun _ => ?_)
          clear hK K
          have c52 : W2.cell? ⟨g0 + 2, 2, none⟩ = some (.slice A' m c') := N2.out.cell 2
          refine wpAnyH_ready (rs := [1]) (by kernel_rfl) (by simp) (AllReadyH.cons rfl (fun K hK => ?_) AllReadyH.nil)
          go_simp
          refine hK _ _ S2 (fun _ => ?_)
          clear hK K
          refine wpAnyH_ready (rs := [8]) (by kernel_rfl) (by simp) (AllReadyH.cons rfl (fun K hK => ?_) AllReadyH.nil)
          refine step_append_ents hi hzz rfl hs hby (by kernel_rfl) (.tmp 28) (.tmp 34) (by kernel_rfl) hLm.out (by kernel_rfl) O2.out ⟨gx, 0, none⟩ 1 1 [E] rfl (by kernel_rfl) _ D2.out (by omega) Z2.out (m + 1) rfl ?_
          intro A9 c9 w9 O9 g9
          have hlo : ∀ q, (Value.slice A' m c').ownBlock = some q → g0 + 3 ≤ q := fun q e => (World.ownsRow.lt O2.out q e).1
          have HO9 := Lib.hid O9
          have B9 := Lib.hid (B2.out.grown g9 (fun e => by have := hlo (g0 + 1) e.symm; omega))
          have N9 := Lib.hid (N2.out.grown g9 (fun e => by have := hlo (g0 + 2) e.symm; omega))
          have H9 := Lib.hid (T2.out.grown g9 T2.out.size fun q e => by have := hlo q e; have := SW1.out; omega)
          have Z9 := Lib.hid (Nat.le_trans Z2.out g9.size)
          have S9 := KS.out _ H9.out
          have c9x : w9.cell? ⟨g0 + 2, 2, none⟩ = some (.slice A' m c') := N9.out.cell 2
          have f9x := N9.out.free 2
          clear O9 g9 hlo O2 B2 N2 D2 T2 Z2
          refine hK _ _ S9 (fun _ => ?_)
          clear hK K
          refine wpAnyH_take (i := 9) (v := .pointer (some ⟨g0 + 2, 2, none⟩)) rfl (by kernel_rfl) (by kernel_rfl) (by kernel_rfl) (fun _ _ _ h => h) (Or.inl ⟨by kernel_rfl, fun w _ => by go_simp⟩) S9 ?_
          simp only [Act.put, List.getElem_toArray, List.getElem_cons_zero, List.getElem_cons_succ, List.setIfInBounds_toArray, List.set_cons_zero, List.set_cons_succ]
          refine wpAnyH_ready (rs := [10]) (by kernel_rfl) (by simp) (AllReadyH.cons rfl (fun K hK => ?_) AllReadyH.nil)
          go_simp
          have s10 : w9.grownBy (w9.setCell ⟨g0 + 2, 2, none⟩ (.slice A9 (m + 1) c9)) (some (g0 + 2)) := only_set w9 ⟨g0 + 2, 2, none⟩ (.slice A9 (m + 1) c9)
          have N10 : Hid (Blk (w9.setCell ⟨g0 + 2, 2, none⟩ (.slice A9 (m + 1) c9)) (g0 + 2) 24 [.int .i64 k, .int .i64 z, .slice A9 (m + 1) c9]) := Lib.hid (N9.out.set 2 (.slice A9 (m + 1) c9))
          have B10 := Lib.hid (B9.out.grown s10 (by simp))
          have O10 := Lib.hid (HO9.out.grown (by omega) s10)
          have H10 := Lib.hid (H9.out.grown s10 H9.out.size fun q e => by cases e; have := SW1.out; omega)
          have Z10 := Lib.hid (Nat.le_trans Z9.out s10.size)
          have S10 := KS.out _ H10.out
          refine hK _ _ S10 (fun _ => ?_)
          clear hK K
          refine wpAnyH_done (by kernel_rfl) ?_ _
          generalize w9.setCell ⟨g0 + 2, 2, none⟩ (.slice A9 (m + 1) c9) = W10 at N10 B10 O10 H10 Z10 ⊢
          clear S10 S9 S1 s10 c9x f9x N9 B9 HO9 H9 Z9
          go_wp2_with fail
          go_roundg g
          case measure => omega
          case rel => exact ⟨q + 1, m + 1, A9, c9, _, by omega, by go_num, Lib.hid (by rw [List.length_append, hLm.out]; rfl), Lib.hid (by have := hmq.out; omega), HX, B10, N10, O10, H10, Z10⟩
end Go.Proofs.Ytkpojlnfagonbaa

