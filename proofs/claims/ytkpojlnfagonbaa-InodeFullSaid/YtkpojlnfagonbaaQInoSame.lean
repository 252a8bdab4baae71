/- What the document's Same answers of two inodes that are one: true. No condition but that the entries are there. -/
import Derived.Test.YtkpojlnfagonbaaQInoCheck
import Derived.Laws.StructEq
namespace Go.Proofs.Ytkpojlnfagonbaa
open Go.RowKit Go.Shelf
theorem yields_eneq {ops : Array Oper} {o : Oper} {a : Act} {S : World → Prop} (s : ByteArray) (z : Int) (x y : Operand) (ho : o.op = .binOp .neq 32 x y 32) (hgd : Region.wanted o (yielded ops a.tmps) = true)
    (hx : a.eval x = .agg #[.string s, .int .i64 z]) (hy : a.eval y = .agg #[.string s, .int .i64 z]) : YieldsIf Try.prog ops S o (.bool false) a :=
  .inl ⟨hgd, fun w hw => by
    clear hw
    unfold execOp
    simp only [ho, hx, hy]
    clear hx hy ho hgd
    have e1 : (s.toList == s.toList) = true := by simp
    have e2 : (z == z) = true := by simp
    go_simp⟩
set_option maxHeartbeats 8000000 in
set_option maxRecDepth 100000 in
theorem same_yes (n : IN) (v v' : Value) (w : World) (hv : Ents w w.heap.size v n.es) (hv' : Ents w w.heap.size v' n.es) :
    Calls Try.prog 14 #[.agg #[.int .i64 n.k, .int .i64 n.z, v], .agg #[.int .i64 n.k, .int .i64 n.z, v']] w fun e w' => e = .returned (.bool true) ∧ Below w.heap.size w w' := by
  have HV := Lib.hid hv
  have HV' := Lib.hid hv'
  obtain ⟨A, c, rfl, hc, hm⟩ := hv.shape
  obtain ⟨A', c', rfl, hc', hm'⟩ := hv'.shape
  have hb1 := (Below.refl w.heap.size w).alloc (Nat.le_refl _) (.cells #[.int .i64 n.k, .int .i64 n.z, .slice A n.es.length c] 24)
  have HB := Lib.hid (hb1.alloc hb1.size (.cells #[.int .i64 n.k, .int .i64 n.z, .slice A' n.es.length c'] 24))
  clear hv hv' hb1
  have X1 := Lib.hid (show ∀ w', Below ((w.alloc (.cells #[.int .i64 n.k, .int .i64 n.z, .slice A n.es.length c] 24)).alloc (.cells #[.int .i64 n.k, .int .i64 n.z, .slice A' n.es.length c'] 24)).heap.size ((w.alloc (.cells #[.int .i64 n.k, .int .i64 n.z, .slice A n.es.length c] 24)).alloc (.cells #[.int .i64 n.k, .int .i64 n.z, .slice A' n.es.length c'] 24)) w' → w'.cell? ⟨w.heap.size, 2, none⟩ = some (.slice A n.es.length c) ∧ w'.cell? ⟨w.heap.size + 1, 2, none⟩ = some (.slice A' n.es.length c') from fun w' h => by
    have h2 := box3 (w.alloc (.cells #[.int .i64 n.k, .int .i64 n.z, .slice A n.es.length c] 24)) (.int .i64 n.k) (.int .i64 n.z) (.slice A' n.es.length c') 24 h
    have h1 := box3 w (.int .i64 n.k) (.int .i64 n.z) (.slice A n.es.length c) 24 (((Below.refl _ _).alloc (Nat.le_refl _) (.cells #[.int .i64 n.k, .int .i64 n.z, .slice A' n.es.length c'] 24)).trans (h.mono (by simp)))
    rw [World.size_alloc] at h2
    exact ⟨h1.2.2, h2.2.2⟩)
  obtain ⟨k, z, es⟩ := n
  simp only at hc hc' HB X1 HV HV' ⊢
  have i1 : (k == k) = true := by simp
  have i2 : (z == z) = true := by simp
  have i3 : ((es.length : Int) == (es.length : Int)) = true := by simp
  obtain ⟨W, hW⟩ : ∃ W, W = (w.alloc (.cells #[.int .i64 k, .int .i64 z, .slice A es.length c] 24)).alloc (.cells #[.int .i64 k, .int .i64 z, .slice A' es.length c'] 24) := ⟨_, rfl⟩
  have HBW := Lib.hid ((HV.out.below HB.out).more HB.out.size)
  have HBW' := Lib.hid ((HV'.out.below HB.out).more HB.out.size)
  go_enter Try.func14, Try.ntmps14
  go_wp2_with fail
  rw [← hW] at HB X1 HBW HBW' ⊢
  obtain ⟨g1, hg1⟩ : ∃ g1, w.heap.size = g1 := ⟨_, rfl⟩
  obtain ⟨g2, hg2⟩ : ∃ g2, w.heap.size + 1 = g2 := ⟨_, rfl⟩
  rw [hg2, hg1] at X1
  rw [hg2, hg1]
  clear hW hg1 hg2 HV HV'
  go_loopg [5] es.length (fun g i wx => ∃ q : Nat, q + g = es.length ∧ i = .int .i64 q ∧ Hid (Below W.heap.size W wx))
  case atStart => exact ⟨0, by omega, rfl, Lib.hid (Below.refl _ _)⟩
  case round =>
    obtain ⟨q, hq, rfl, hB⟩ := hrel
    obtain ⟨x1, x2⟩ := X1.out _ hB.out
    cases gk with
    | zero =>
      obtain rfl : q = es.length := by omega
      have i4 : ¬ (es.length : Int) < (es.length : Int) := by omega
      go_wp2_with fail
      go_ret
      exact ⟨rfl, HB.out.trans (hB.out.mono HB.out.size)⟩
    | succ g =>
      have hlt : q < es.length := by omega
      have i4 : (q : Int) < (es.length : Int) := by omega
      obtain ⟨a, rfl, _, _⟩ := (HBW.out.below hB.out).elem (atE_get hlt)
      obtain ⟨b, rfl, _, _⟩ := (HBW'.out.below hB.out).elem (atE_get hlt)
      obtain ⟨E, hE⟩ : ∃ E, atE es q = E := ⟨_, rfl⟩
      have T1 := Lib.hid (Below.refl wr.heap.size wr).drew
      have HS : Hid (∀ w', Below wr.heap.size wr w' → w'.cell? ⟨g1, 2, none⟩ = some (.slice (some a) es.length c) ∧ w'.cell? ⟨g2, 2, none⟩ = some (.slice (some b) es.length c') ∧ (∀ (j : Nat) u, ([.string E.n, .int .i64 E.i] : List Value)[j]? = some u → w'.cell? ((a.add (q * 2)).add j) = some u) ∧ (∀ (j : Nat) u, ([.string E.n, .int .i64 E.i] : List Value)[j]? = some u → w'.cell? ((b.add (q * 2)).add j) = some u)) := Lib.hid fun w' hb => by
        have hb2 := hB.out.trans (hb.mono hB.out.size)
        obtain ⟨y1, y2⟩ := X1.out _ hb2
        obtain ⟨a', e', _, hck⟩ := (HBW.out.below hb2).elem (atE_get hlt)
        cases e'
        obtain ⟨b', e', _, hck'⟩ := (HBW'.out.below hb2).elem (atE_get hlt)
        cases e'
        rw [hE] at hck hck'
        exact ⟨y1, y2, hck, hck'⟩
      have S1 := HS.out _ T1.out
      clear hE
      go_wp2_with fail
      clear x1 x2
      refine wp_region_held_drew (S := (fun w' => w'.cell? ⟨g1, 2, none⟩ = some (.slice (some a) es.length c) ∧ w'.cell? ⟨g2, 2, none⟩ = some (.slice (some b) es.length c') ∧ (∀ (j : Nat) u, ([.string E.n, .int .i64 E.i] : List Value)[j]? = some u → w'.cell? ((a.add (q * 2)).add j) = some u) ∧ (∀ (j : Nat) u, ([.string E.n, .int .i64 E.i] : List Value)[j]? = some u → w'.cell? ((b.add (q * 2)).add j) = some u))) (by kernel_rfl) S1 (fun _ => ?_)
      refine wpAnyH_take (i := 0) (v := .pointer (some ⟨g1, 2, none⟩)) rfl (by kernel_rfl) (by kernel_rfl) (by kernel_rfl) (fun _ _ _ h => h) (Or.inl ⟨by kernel_rfl, fun w _ => by go_simp⟩) S1 ?_
      simp only [Act.put, List.getElem_toArray, List.getElem_cons_zero, List.setIfInBounds_toArray, List.set_cons_zero, List.set_cons_succ]
      refine wpAnyH_take (i := 1) (v := .slice (some a) es.length c) rfl (by kernel_rfl) (by kernel_rfl) (by kernel_rfl) (fun _ _ _ h => h) (yields_one (ty := 22) (fun w => by kernel_rfl) (.tmp 34) (by kernel_rfl) (by kernel_rfl) (by kernel_rfl) (fun w h => h.1)) S1 ?_
      simp only [Act.put, List.getElem_toArray, List.getElem_cons_zero, List.getElem_cons_succ, List.setIfInBounds_toArray, List.set_cons_zero, List.set_cons_succ]
      refine wpAnyH_take (i := 2) (v := .int .i64 (q : Int)) rfl (by kernel_rfl) (by kernel_rfl) (by kernel_rfl) (fun _ _ _ h => h) (Or.inl ⟨by kernel_rfl, fun w _ => by go_simp⟩) S1 ?_
      simp only [Act.put, List.getElem_toArray, List.getElem_cons_zero, List.getElem_cons_succ, List.setIfInBounds_toArray, List.set_cons_zero, List.set_cons_succ]
      refine wpAnyH_take (i := 3) (v := .pointer (some (a.add (q * 2)))) rfl (by kernel_rfl) (by kernel_rfl) (by kernel_rfl) (fun _ _ _ h => h) (Or.inl ⟨by kernel_rfl, fun w _ => by go_simp⟩) S1 ?_
      simp only [Act.put, List.getElem_toArray, List.getElem_cons_zero, List.getElem_cons_succ, List.setIfInBounds_toArray, List.set_cons_zero, List.set_cons_succ]
      refine wpAnyH_take (i := 4) (v := .agg #[.string E.n, .int .i64 E.i]) rfl (by kernel_rfl) (by kernel_rfl) (by kernel_rfl) (fun _ _ _ h => h) (yields_cells (q := a.add (q * 2)) (row := [.string E.n, .int .i64 E.i]) aggE sizeE (.tmp 37) (by kernel_rfl) (by kernel_rfl) (by kernel_rfl) rfl (fun w h => h.2.2.1)) S1 ?_
      simp only [Act.put, List.getElem_toArray, List.getElem_cons_zero, List.getElem_cons_succ, List.setIfInBounds_toArray, List.set_cons_zero, List.set_cons_succ]
      refine wpAnyH_take (i := 5) (v := .pointer (some ⟨g2, 2, none⟩)) rfl (by kernel_rfl) (by kernel_rfl) (by kernel_rfl) (fun _ _ _ h => h) (Or.inl ⟨by kernel_rfl, fun w _ => by go_simp⟩) S1 ?_
      simp only [Act.put, List.getElem_toArray, List.getElem_cons_zero, List.getElem_cons_succ, List.setIfInBounds_toArray, List.set_cons_zero, List.set_cons_succ]
      refine wpAnyH_take (i := 6) (v := .slice (some b) es.length c') rfl (by kernel_rfl) (by kernel_rfl) (by kernel_rfl) (fun _ _ _ h => h) (yields_one (ty := 22) (fun w => by kernel_rfl) (.tmp 39) (by kernel_rfl) (by kernel_rfl) (by kernel_rfl) (fun w h => h.2.1)) S1 ?_
      simp only [Act.put, List.getElem_toArray, List.getElem_cons_zero, List.getElem_cons_succ, List.setIfInBounds_toArray, List.set_cons_zero, List.set_cons_succ]
      refine wpAnyH_take (i := 7) (v := .int .i64 (q : Int)) rfl (by kernel_rfl) (by kernel_rfl) (by kernel_rfl) (fun _ _ _ h => h) (Or.inl ⟨by kernel_rfl, fun w _ => by go_simp⟩) S1 ?_
      simp only [Act.put, List.getElem_toArray, List.getElem_cons_zero, List.getElem_cons_succ, List.setIfInBounds_toArray, List.set_cons_zero, List.set_cons_succ]
      refine wpAnyH_take (i := 8) (v := .pointer (some (b.add (q * 2)))) rfl (by kernel_rfl) (by kernel_rfl) (by kernel_rfl) (fun _ _ _ h => h) (Or.inl ⟨by kernel_rfl, fun w _ => by go_simp⟩) S1 ?_
      simp only [Act.put, List.getElem_toArray, List.getElem_cons_zero, List.getElem_cons_succ, List.setIfInBounds_toArray, List.set_cons_zero, List.set_cons_succ]
      refine wpAnyH_take (i := 9) (v := .agg #[.string E.n, .int .i64 E.i]) rfl (by kernel_rfl) (by kernel_rfl) (by kernel_rfl) (fun _ _ _ h => h) (yields_cells (q := b.add (q * 2)) (row := [.string E.n, .int .i64 E.i]) aggE sizeE (.tmp 42) (by kernel_rfl) (by kernel_rfl) (by kernel_rfl) rfl (fun w h => h.2.2.2)) S1 ?_
      simp only [Act.put, List.getElem_toArray, List.getElem_cons_zero, List.getElem_cons_succ, List.setIfInBounds_toArray, List.set_cons_zero, List.set_cons_succ]
      refine wpAnyH_take (i := 10) (v := .bool false) rfl (by kernel_rfl) (by kernel_rfl) (by kernel_rfl) (fun _ _ _ h => h) (yields_eneq E.n E.i (.tmp 38) (.tmp 43) (by kernel_rfl) (by kernel_rfl) (by kernel_rfl) (by kernel_rfl)) S1 ?_
      simp only [Act.put, List.getElem_toArray, List.getElem_cons_zero, List.getElem_cons_succ, List.setIfInBounds_toArray, List.set_cons_zero, List.set_cons_succ]
      refine wpAnyH_done (by kernel_rfl) ?_ _
      clear S1
      go_wp2_with fail
      go_roundg g
      case measure => omega
      case rel => exact ⟨q + 1, by omega, by go_num, Lib.hid (hB.out.trans (T1.out.mono hB.out.size))⟩
end Go.Proofs.Ytkpojlnfagonbaa

