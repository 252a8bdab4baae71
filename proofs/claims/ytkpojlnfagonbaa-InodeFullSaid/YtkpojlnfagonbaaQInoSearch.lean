/- What slices.BinarySearchFunc by names finds among entries that rise: the place of a name, and whether it is there. No condition but that the entries are there. -/
import Derived.Test.YtkpojlnfagonbaaQInoCheck
namespace Go.Proofs.Ytkpojlnfagonbaa
open Go.RowKit Go.Shelf
/-- i is the place of the name s among es -/
def PlaceOf (es : List EN) (s : ByteArray) (i : Nat) : Prop := i ≤ es.length ∧ (∀ j, j < i → less (atE es j).n s = true) ∧ (∀ j, i ≤ j → j < es.length → less (atE es j).n s = false)
theorem rise_lt {es : List EN} (h : GoodTo es es.length) : ∀ (d i : Nat), i + d + 1 < es.length + 0 → less (atE es i).n (atE es (i + d + 1)).n = true
  | 0, i, hd => by
    have := (h (i + 1) (by omega)).2 (by omega)
    simpa using this
  | d + 1, i, hd => by
    have h1 := rise_lt h d i (by omega)
    have h2 := (h (i + (d + 1) + 1) (by omega)).2 (by omega)
    rw [show i + (d + 1) + 1 - 1 = i + d + 1 by omega] at h2
    exact less_trans h1 h2
theorem rise_of {es : List EN} (h : GoodTo es es.length) {i j : Nat} (hij : i < j) (hj : j < es.length) : less (atE es i).n (atE es j).n = true := by
  have := rise_lt h (j - i - 1) i (by omega)
  rwa [show i + (j - i - 1) + 1 = j by omega] at this
theorem below_of {es : List EN} (h : GoodTo es es.length) {s : ByteArray} {i j : Nat} (hij : i ≤ j) (hj : j < es.length) (hl : less (atE es j).n s = true) : less (atE es i).n s = true := by
  rcases Nat.lt_or_ge i j with h1 | h1
  · exact less_trans (rise_of h h1 hj) hl
  · rwa [show i = j by omega]
theorem cmp_lt (a b : ByteArray) : decide (cmpS a b < 0) = less a b := by
  unfold cmpS
  cases h : less a b
  · rw [if_neg (by simp)]
    split <;> rfl
  · rfl
theorem cmp_eq (a b : ByteArray) : (cmpS a b == 0) = (!less a b && decide (a = b)) := by
  unfold cmpS
  cases h : less a b
  · rw [if_neg (by simp)]
    by_cases e : a = b
    · rw [if_pos e, decide_eq_true e]; rfl
    · rw [if_neg e, decide_eq_false e]; rfl
  · rfl
set_option maxRecDepth 100000 in
set_option maxHeartbeats 8000000 in
theorem search_any (v : Value) (es : List EN) (t : EN) (w : World) (hv : Ents w w.heap.size v es) (hg : GoodTo es es.length) (hl : es.length ≤ 1000) :
    Calls Try.prog 37 #[v, .agg #[.string t.n, .int .i64 t.i], .func (.func 38) #[] #[]] w fun e w' => ∃ i : Nat, PlaceOf es t.n i ∧ e = .returned (.tuple #[.int .i64 (i : Int), .bool (decide (i < es.length) && decide ((atE es i).n = t.n))]) ∧ Below w.heap.size w w' := by
  have HV := Lib.hid hv
  obtain ⟨A, c, rfl, hc, hm⟩ := hv.shape
  obtain ⟨N, hN⟩ : ∃ N, es.length = N := ⟨_, rfl⟩
  have HG := Lib.hid hg
  have HN := Lib.hid hN
  rw [hN] at hc HV hl ⊢
  have HB := Lib.hid ((Below.refl w.heap.size w).alloc (Nat.le_refl _) (.cells #[.string t.n, .int .i64 t.i] 32))
  have HVW := Lib.hid (HV.out.after HB.out)
  have B4 := Lib.hid (fun w' => box2 w (.string t.n) (.int .i64 t.i) 32 (w' := w'))
  obtain ⟨W, hW⟩ : ∃ W, W = w.alloc (.cells #[.string t.n, .int .i64 t.i] 32) := ⟨_, rfl⟩
  clear hv hg hN HV
  go_enter Try.func37, Try.ntmps37
  go_wp2_with fail
  rw [← hW] at HB HVW B4 ⊢
  obtain ⟨g4, hg4⟩ : ∃ g4, w.heap.size = g4 := ⟨_, rfl⟩
  rw [hg4] at B4 ⊢
  clear hW hg4
  go_loopg [9, 10, 11] N (fun g i j _ wx => ∃ p q : Nat, q ≤ p + g ∧ p ≤ q ∧ q ≤ N ∧ i = .int .i64 p ∧ j = .int .i64 q ∧ Hid (Below W.heap.size W wx) ∧ Hid (∀ k, k < p → less (atE es k).n t.n = true) ∧ Hid (∀ k, q ≤ k → k < N → less (atE es k).n t.n = false))
  case atStart => exact ⟨0, N, by omega, by omega, by omega, rfl, rfl, Lib.hid (Below.refl _ _), Lib.hid fun k h => by omega, Lib.hid fun k h1 h2 => by omega⟩
  case round =>
    obtain ⟨p, q, h1, h2, h3, rfl, rfl, hB, hlo, hhi⟩ := hrel
    by_cases hpq : p < q
    · rcases gk with _ | g
      · exact absurd h1 (by omega)
      have i4 : (p : Int) < (q : Int) := by omega
      obtain ⟨m, hm2⟩ : ∃ m, (p + q) / 2 = m := ⟨_, rfl⟩
      have m1 : p ≤ m := by omega
      have m2 : m < q := by omega
      have im : ((p : Int) + (q : Int)) / 2 = (m : Int) := by omega
      have hmN : m < es.length := by rw [HN.out]; omega
      obtain ⟨a, rfl, _, _⟩ := (HVW.out.below hB.out).elem (atE_get hmN)
      obtain ⟨E, hE⟩ : ∃ E, atE es m = E := ⟨_, rfl⟩
      have KS : Hid (∀ w', Below W.heap.size W w' → (∀ (j : Nat) u, ([.string E.n, .int .i64 E.i] : List Value)[j]? = some u → w'.cell? ((a.add (m * 2)).add j) = some u) ∧ (∀ (j : Nat) u, ([.string t.n, .int .i64 t.i] : List Value)[j]? = some u → w'.cell? ((⟨g4, 0, none⟩ : Addr).add j) = some u)) := Lib.hid fun w' hb => by
        obtain ⟨a', e', _, hck⟩ := (HVW.out.below hb).elem (atE_get hmN)
        cases e'
        rw [hE] at hck
        obtain ⟨b1, b2⟩ := B4.out _ hb
        exact ⟨hck, two_cells b1 b2⟩
      have KB := Lib.hid (byName_any E t)
      have T1 := Lib.hid hB.out.drew
      have S1 := KS.out _ T1.out
      have hcl := cmp_lt E.n t.n
      obtain ⟨C, hC⟩ : ∃ C, cmpS E.n t.n = C := ⟨_, rfl⟩
      rw [hC] at KB hcl
      have HCL := Lib.hid hcl
      have HE := Lib.hid hE
      clear hC hcl hE
      have hmN2 : m < N := by omega
      go_wp2_with fail
      refine wp_region_held_drew (S := (fun w' => (∀ (j : Nat) u, ([.string E.n, .int .i64 E.i] : List Value)[j]? = some u → w'.cell? ((a.add (m * 2)).add j) = some u) ∧ (∀ (j : Nat) u, ([.string t.n, .int .i64 t.i] : List Value)[j]? = some u → w'.cell? ((⟨g4, 0, none⟩ : Addr).add j) = some u))) (by kernel_rfl) S1 (fun _ => ?_)
      refine wpAnyH_take (i := 0) (v := .func (.func 38) #[] #[]) rfl (by kernel_rfl) (by kernel_rfl) (by kernel_rfl) (fun _ _ _ h => h) (Or.inl ⟨by kernel_rfl, fun w _ => by go_simp⟩) S1 ?_
      simp only [Act.put, List.getElem_toArray, List.getElem_cons_zero, List.setIfInBounds_toArray, List.set_cons_zero, List.set_cons_succ]
      refine wpAnyH_take (i := 1) (v := .slice (some a) N c) rfl (by kernel_rfl) (by kernel_rfl) (by kernel_rfl) (fun _ _ _ h => h) (Or.inl ⟨by kernel_rfl, fun w _ => by go_simp⟩) S1 ?_
      simp only [Act.put, List.getElem_toArray, List.getElem_cons_zero, List.getElem_cons_succ, List.setIfInBounds_toArray, List.set_cons_zero, List.set_cons_succ]
      refine wpAnyH_take (i := 2) (v := .int .i64 (m : Int)) rfl (by kernel_rfl) (by kernel_rfl) (by kernel_rfl) (fun _ _ _ h => h) (Or.inl ⟨by kernel_rfl, fun w _ => by go_simp⟩) S1 ?_
      simp only [Act.put, List.getElem_toArray, List.getElem_cons_zero, List.getElem_cons_succ, List.setIfInBounds_toArray, List.set_cons_zero, List.set_cons_succ]
      refine wpAnyH_take (i := 3) (v := .pointer (some (a.add (m * 2)))) rfl (by kernel_rfl) (by kernel_rfl) (by kernel_rfl) (fun _ _ _ h => h) (Or.inl ⟨by kernel_rfl, fun w _ => by go_simp⟩) S1 ?_
      simp only [Act.put, List.getElem_toArray, List.getElem_cons_zero, List.getElem_cons_succ, List.setIfInBounds_toArray, List.set_cons_zero, List.set_cons_succ]
      refine wpAnyH_take (i := 4) (v := .agg #[.string E.n, .int .i64 E.i]) rfl (by kernel_rfl) (by kernel_rfl) (by kernel_rfl) (fun _ _ _ h => h) (yields_cells (q := a.add (m * 2)) (row := [.string E.n, .int .i64 E.i]) aggE sizeE (.tmp 27) (by kernel_rfl) (by kernel_rfl) (by kernel_rfl) rfl (fun w h => h.1)) S1 ?_
      simp only [Act.put, List.getElem_toArray, List.getElem_cons_zero, List.getElem_cons_succ, List.setIfInBounds_toArray, List.set_cons_zero, List.set_cons_succ]
      refine wpAnyH_take (i := 5) (v := .agg #[.string t.n, .int .i64 t.i]) rfl (by kernel_rfl) (by kernel_rfl) (by kernel_rfl) (fun _ _ _ h => h) (yields_cells (q := ⟨g4, 0, none⟩) (row := [.string t.n, .int .i64 t.i]) aggE sizeE (.tmp 4) (by kernel_rfl) (by kernel_rfl) (by kernel_rfl) rfl (fun w h => h.2)) S1 ?_
      simp only [Act.put, List.getElem_toArray, List.getElem_cons_zero, List.getElem_cons_succ, List.setIfInBounds_toArray, List.set_cons_zero, List.set_cons_succ]
      refine wpAnyH_ready (rs := [6]) (by kernel_rfl) (by simp) (AllReadyH.cons rfl (fun K hK => ?_) AllReadyH.nil)
      go_simp
      refine (KB.out _).mono ?_
      rintro e w2 ⟨rfl, b2⟩
      have T2 := Lib.hid (T1.out.trans (b2.mono T1.out.size))
      have S2 := KS.out _ T2.out
      refine hK _ _ S2 (fun _ => ?_)
      clear hK K b2 S1
      cases hL : less E.n t.n with
      | true =>
        have hc0 : C < 0 := of_decide_eq_true (HCL.out.trans hL)
        refine wpAnyH_take (i := 7) (v := .bool true) rfl (by kernel_rfl) (by kernel_rfl) (by kernel_rfl) (fun _ _ _ h => h) (Or.inl ⟨by kernel_rfl, fun w _ => by go_simp⟩) S2 ?_
        simp only [Act.put, List.getElem_toArray, List.getElem_cons_zero, List.getElem_cons_succ, List.setIfInBounds_toArray, List.set_cons_zero, List.set_cons_succ]
        refine wpAnyH_done (by kernel_rfl) ?_ _
        clear S2
        go_wp2_with fail
        go_roundg g
        case measure => omega
        case rel => exact ⟨m + 1, q, by omega, by omega, by omega, by go_num, rfl, T2, Lib.hid fun k hk => below_of HG.out (by omega) hmN (by rw [HE.out]; exact hL), hhi⟩
      | false =>
        have hc0 : ¬ C < 0 := of_decide_eq_false (HCL.out.trans hL)
        refine wpAnyH_take (i := 7) (v := .bool false) rfl (by kernel_rfl) (by kernel_rfl) (by kernel_rfl) (fun _ _ _ h => h) (Or.inl ⟨by kernel_rfl, fun w _ => by go_simp⟩) S2 ?_
        simp only [Act.put, List.getElem_toArray, List.getElem_cons_zero, List.getElem_cons_succ, List.setIfInBounds_toArray, List.set_cons_zero, List.set_cons_succ]
        refine wpAnyH_done (by kernel_rfl) ?_ _
        clear S2
        go_wp2_with fail
        go_roundg g
        case measure => omega
        case rel => exact ⟨p, m, by omega, by omega, by omega, rfl, rfl, T2, hlo, Lib.hid fun k h5 h6 => by
          cases h7 : less (atE es k).n t.n with
          | false => rfl
          | true =>
            have h8 := below_of HG.out h5 (by rw [HN.out]; exact h6) h7
            rw [HE.out, hL] at h8
            cases h8⟩
    · obtain rfl : p = q := by omega
      have i4 : ¬ (p : Int) < (p : Int) := by omega
      have HPL : Hid (PlaceOf es t.n p) := Lib.hid ⟨by rw [HN.out]; exact h3, hlo.out, fun j h5 h6 => hhi.out j h5 (by rw [← HN.out]; exact h6)⟩
      have T1 := Lib.hid hB.out.drew
      by_cases hpN : p < N
      · have i5 : (p : Int) < (N : Int) := by omega
        have hmN : p < es.length := by rw [HN.out]; omega
        obtain ⟨a, rfl, _, _⟩ := (HVW.out.below hB.out).elem (atE_get hmN)
        obtain ⟨m, hpm⟩ : ∃ m, p = m := ⟨_, rfl⟩
        subst hpm
        have HNL : Hid (less (atE es p).n t.n = false) := Lib.hid (hhi.out p (Nat.le_refl _) hpN)
        obtain ⟨E, hE⟩ : ∃ E, atE es p = E := ⟨_, rfl⟩
        have KS : Hid (∀ w', Below W.heap.size W w' → (∀ (j : Nat) u, ([.string E.n, .int .i64 E.i] : List Value)[j]? = some u → w'.cell? ((a.add (p * 2)).add j) = some u) ∧ (∀ (j : Nat) u, ([.string t.n, .int .i64 t.i] : List Value)[j]? = some u → w'.cell? ((⟨g4, 0, none⟩ : Addr).add j) = some u)) := Lib.hid fun w' hb => by
          obtain ⟨a', e', _, hck⟩ := (HVW.out.below hb).elem (atE_get hmN)
          cases e'
          rw [hE] at hck
          obtain ⟨b1, b2⟩ := B4.out _ hb
          exact ⟨hck, two_cells b1 b2⟩
        have KB := Lib.hid (byName_any E t)
        have S1 := KS.out _ T1.out
        have hce := cmp_eq E.n t.n
        rw [hE] at HNL
        rw [HNL.out] at hce
        obtain ⟨C, hC⟩ : ∃ C, cmpS E.n t.n = C := ⟨_, rfl⟩
        rw [hC] at KB hce
        have HCE := Lib.hid hce
        have HE := Lib.hid hE
        obtain ⟨b, hb⟩ : ∃ b, (C == 0) = b := ⟨_, rfl⟩
        have HBB := Lib.hid hb
        clear hC hce hE h1 h2
        go_wp2_with fail
        refine wp_region_held_drew (S := (fun w' => (∀ (j : Nat) u, ([.string E.n, .int .i64 E.i] : List Value)[j]? = some u → w'.cell? ((a.add (p * 2)).add j) = some u) ∧ (∀ (j : Nat) u, ([.string t.n, .int .i64 t.i] : List Value)[j]? = some u → w'.cell? ((⟨g4, 0, none⟩ : Addr).add j) = some u))) (by kernel_rfl) S1 (fun _ => ?_)
        refine wpAnyH_take (i := 0) (v := .int .i64 (p : Int)) rfl (by kernel_rfl) (by kernel_rfl) (by kernel_rfl) (fun _ _ _ h => h) (Or.inl ⟨by kernel_rfl, fun w _ => by go_simp⟩) S1 ?_
        simp only [Act.put, List.getElem_toArray, List.getElem_cons_zero, List.setIfInBounds_toArray, List.set_cons_zero, List.set_cons_succ]
        refine wpAnyH_take (i := 1) (v := .int .i64 (p : Int)) rfl (by kernel_rfl) (by kernel_rfl) (by kernel_rfl) (fun _ _ _ h => h) (Or.inl ⟨by kernel_rfl, fun w _ => by go_simp⟩) S1 ?_
        simp only [Act.put, List.getElem_toArray, List.getElem_cons_zero, List.getElem_cons_succ, List.setIfInBounds_toArray, List.set_cons_zero, List.set_cons_succ]
        refine wpAnyH_take (i := 2) (v := .int .i64 (N : Int)) rfl (by kernel_rfl) (by kernel_rfl) (by kernel_rfl) (fun _ _ _ h => h) (Or.inl ⟨by kernel_rfl, fun w _ => by go_simp⟩) S1 ?_
        simp only [Act.put, List.getElem_toArray, List.getElem_cons_zero, List.getElem_cons_succ, List.setIfInBounds_toArray, List.set_cons_zero, List.set_cons_succ]
        refine wpAnyH_take (i := 3) (v := .bool true) rfl (by kernel_rfl) (by kernel_rfl) (by kernel_rfl) (fun _ _ _ h => h) (Or.inl ⟨by kernel_rfl, fun w _ => by go_simp⟩) S1 ?_
        simp only [Act.put, List.getElem_toArray, List.getElem_cons_zero, List.getElem_cons_succ, List.setIfInBounds_toArray, List.set_cons_zero, List.set_cons_succ]
        refine wpAnyH_take (i := 4) (v := .bool true) rfl (by kernel_rfl) (by kernel_rfl) (by kernel_rfl) (fun _ _ _ h => h) (Or.inl ⟨by kernel_rfl, fun w _ => by go_simp⟩) S1 ?_
        simp only [Act.put, List.getElem_toArray, List.getElem_cons_zero, List.getElem_cons_succ, List.setIfInBounds_toArray, List.set_cons_zero, List.set_cons_succ]
        refine wpAnyH_take (i := 5) (v := .func (.func 38) #[] #[]) rfl (by kernel_rfl) (by kernel_rfl) (by kernel_rfl) (fun _ _ _ h => h) (Or.inl ⟨by kernel_rfl, fun w _ => by go_simp⟩) S1 ?_
        simp only [Act.put, List.getElem_toArray, List.getElem_cons_zero, List.getElem_cons_succ, List.setIfInBounds_toArray, List.set_cons_zero, List.set_cons_succ]
        refine wpAnyH_take (i := 6) (v := .slice (some a) N c) rfl (by kernel_rfl) (by kernel_rfl) (by kernel_rfl) (fun _ _ _ h => h) (Or.inl ⟨by kernel_rfl, fun w _ => by go_simp⟩) S1 ?_
        simp only [Act.put, List.getElem_toArray, List.getElem_cons_zero, List.getElem_cons_succ, List.setIfInBounds_toArray, List.set_cons_zero, List.set_cons_succ]
        refine wpAnyH_take (i := 7) (v := .int .i64 (p : Int)) rfl (by kernel_rfl) (by kernel_rfl) (by kernel_rfl) (fun _ _ _ h => h) (Or.inl ⟨by kernel_rfl, fun w _ => by go_simp⟩) S1 ?_
        simp only [Act.put, List.getElem_toArray, List.getElem_cons_zero, List.getElem_cons_succ, List.setIfInBounds_toArray, List.set_cons_zero, List.set_cons_succ]
        refine wpAnyH_take (i := 8) (v := .pointer (some (a.add (p * 2)))) rfl (by kernel_rfl) (by kernel_rfl) (by kernel_rfl) (fun _ _ _ h => h) (Or.inl ⟨by kernel_rfl, fun w _ => by go_simp⟩) S1 ?_
        simp only [Act.put, List.getElem_toArray, List.getElem_cons_zero, List.getElem_cons_succ, List.setIfInBounds_toArray, List.set_cons_zero, List.set_cons_succ]
        refine wpAnyH_take (i := 9) (v := .agg #[.string E.n, .int .i64 E.i]) rfl (by kernel_rfl) (by kernel_rfl) (by kernel_rfl) (fun _ _ _ h => h) (yields_cells (q := a.add (p * 2)) (row := [.string E.n, .int .i64 E.i]) aggE sizeE (.tmp 43) (by kernel_rfl) (by kernel_rfl) (by kernel_rfl) rfl (fun w h => h.1)) S1 ?_
        simp only [Act.put, List.getElem_toArray, List.getElem_cons_zero, List.getElem_cons_succ, List.setIfInBounds_toArray, List.set_cons_zero, List.set_cons_succ]
        refine wpAnyH_take (i := 10) (v := .agg #[.string t.n, .int .i64 t.i]) rfl (by kernel_rfl) (by kernel_rfl) (by kernel_rfl) (fun _ _ _ h => h) (yields_cells (q := ⟨g4, 0, none⟩) (row := [.string t.n, .int .i64 t.i]) aggE sizeE (.tmp 4) (by kernel_rfl) (by kernel_rfl) (by kernel_rfl) rfl (fun w h => h.2)) S1 ?_
        simp only [Act.put, List.getElem_toArray, List.getElem_cons_zero, List.getElem_cons_succ, List.setIfInBounds_toArray, List.set_cons_zero, List.set_cons_succ]
        refine wpAnyH_ready (rs := [11]) (by kernel_rfl) (by simp) (AllReadyH.cons rfl (fun K hK => ?_) AllReadyH.nil)
        go_simp
        refine (KB.out _).mono ?_
        rintro e w2 ⟨rfl, b2⟩
        have T2 := Lib.hid (T1.out.trans (b2.mono T1.out.size))
        have S2 := KS.out _ T2.out
        refine hK _ _ S2 (fun _ => ?_)
        clear hK K b2 S1
        refine wpAnyH_take (i := 12) (v := .bool b) rfl (by kernel_rfl) (by kernel_rfl) (by kernel_rfl) (fun _ _ _ h => h) (Or.inl ⟨by kernel_rfl, fun w _ => by go_simp⟩) S2 ?_
        simp only [Act.put, List.getElem_toArray, List.getElem_cons_zero, List.getElem_cons_succ, List.setIfInBounds_toArray, List.set_cons_zero, List.set_cons_succ]
        refine wpAnyH_take (i := 13) (v := .bool b) rfl (by kernel_rfl) (by kernel_rfl) (by kernel_rfl) (fun _ _ _ h => h) (Or.inl ⟨by kernel_rfl, fun w _ => by go_simp⟩) S2 ?_
        simp only [Act.put, List.getElem_toArray, List.getElem_cons_zero, List.getElem_cons_succ, List.setIfInBounds_toArray, List.set_cons_zero, List.set_cons_succ]
        refine wpAnyH_take (i := 14) (v := .int .i64 (p : Int)) rfl (by kernel_rfl) (by kernel_rfl) (by kernel_rfl) (fun _ _ _ h => h) (Or.inl ⟨by kernel_rfl, fun w _ => by go_simp⟩) S2 ?_
        simp only [Act.put, List.getElem_toArray, List.getElem_cons_zero, List.getElem_cons_succ, List.setIfInBounds_toArray, List.set_cons_zero, List.set_cons_succ]
        refine wpAnyH_take (i := 15) (v := .bool b) rfl (by kernel_rfl) (by kernel_rfl) (by kernel_rfl) (fun _ _ _ h => h) (Or.inl ⟨by kernel_rfl, fun w _ => by go_simp⟩) S2 ?_
        simp only [Act.put, List.getElem_toArray, List.getElem_cons_zero, List.getElem_cons_succ, List.setIfInBounds_toArray, List.set_cons_zero, List.set_cons_succ]
        refine wpAnyH_done (by kernel_rfl) ?_ _
        clear S2
        go_wp2_with fail
        go_ret2
        refine ⟨p, HPL.out, ?_, HB.out.trans (T2.out.mono HB.out.size)⟩
        rw [HE.out, decide_eq_true hpN, Bool.true_and, ← HBB.out, HCE.out]
        rfl
      · obtain rfl : p = N := by omega
        have i5 : ¬ (p : Int) < (p : Int) := by omega
        have S1 : True := trivial
        clear h1 h2 hpN
        go_wp2_with fail
        refine wp_region_held_drew (S := (fun _ => True)) (by kernel_rfl) S1 (fun _ => ?_)
        refine wpAnyH_take (i := 0) (v := .int .i64 (p : Int)) rfl (by kernel_rfl) (by kernel_rfl) (by kernel_rfl) (fun _ _ _ h => h) (Or.inl ⟨by kernel_rfl, fun w _ => by go_simp⟩) S1 ?_
        simp only [Act.put, List.getElem_toArray, List.getElem_cons_zero, List.setIfInBounds_toArray, List.set_cons_zero, List.set_cons_succ]
        refine wpAnyH_take (i := 1) (v := .int .i64 (p : Int)) rfl (by kernel_rfl) (by kernel_rfl) (by kernel_rfl) (fun _ _ _ h => h) (Or.inl ⟨by kernel_rfl, fun w _ => by go_simp⟩) S1 ?_
        simp only [Act.put, List.getElem_toArray, List.getElem_cons_zero, List.getElem_cons_succ, List.setIfInBounds_toArray, List.set_cons_zero, List.set_cons_succ]
        refine wpAnyH_take (i := 2) (v := .int .i64 (p : Int)) rfl (by kernel_rfl) (by kernel_rfl) (by kernel_rfl) (fun _ _ _ h => h) (Or.inl ⟨by kernel_rfl, fun w _ => by go_simp⟩) S1 ?_
        simp only [Act.put, List.getElem_toArray, List.getElem_cons_zero, List.getElem_cons_succ, List.setIfInBounds_toArray, List.set_cons_zero, List.set_cons_succ]
        refine wpAnyH_take (i := 3) (v := .bool false) rfl (by kernel_rfl) (by kernel_rfl) (by kernel_rfl) (fun _ _ _ h => h) (Or.inl ⟨by kernel_rfl, fun w _ => by go_simp⟩) S1 ?_
        simp only [Act.put, List.getElem_toArray, List.getElem_cons_zero, List.getElem_cons_succ, List.setIfInBounds_toArray, List.set_cons_zero, List.set_cons_succ]
        refine wpAnyH_take (i := 4) (v := .bool false) rfl (by kernel_rfl) (by kernel_rfl) (by kernel_rfl) (fun _ _ _ h => h) (Or.inl ⟨by kernel_rfl, fun w _ => by go_simp⟩) S1 ?_
        simp only [Act.put, List.getElem_toArray, List.getElem_cons_zero, List.getElem_cons_succ, List.setIfInBounds_toArray, List.set_cons_zero, List.set_cons_succ]
        refine wpAnyH_take (i := 5) (v := undef) rfl (by kernel_rfl) (by kernel_rfl) (by kernel_rfl) (fun _ _ _ h => h) (Or.inr ⟨by kernel_rfl, rfl⟩) S1 ?_
        simp only [Act.put, List.getElem_toArray, List.getElem_cons_zero, List.getElem_cons_succ, List.setIfInBounds_toArray, List.set_cons_zero, List.set_cons_succ]
        refine wpAnyH_take (i := 6) (v := undef) rfl (by kernel_rfl) (by kernel_rfl) (by kernel_rfl) (fun _ _ _ h => h) (Or.inr ⟨by kernel_rfl, rfl⟩) S1 ?_
        simp only [Act.put, List.getElem_toArray, List.getElem_cons_zero, List.getElem_cons_succ, List.setIfInBounds_toArray, List.set_cons_zero, List.set_cons_succ]
        refine wpAnyH_take (i := 7) (v := undef) rfl (by kernel_rfl) (by kernel_rfl) (by kernel_rfl) (fun _ _ _ h => h) (Or.inr ⟨by kernel_rfl, rfl⟩) S1 ?_
        simp only [Act.put, List.getElem_toArray, List.getElem_cons_zero, List.getElem_cons_succ, List.setIfInBounds_toArray, List.set_cons_zero, List.set_cons_succ]
        refine wpAnyH_take (i := 8) (v := undef) rfl (by kernel_rfl) (by kernel_rfl) (by kernel_rfl) (fun _ _ _ h => h) (Or.inr ⟨by kernel_rfl, rfl⟩) S1 ?_
        simp only [Act.put, List.getElem_toArray, List.getElem_cons_zero, List.getElem_cons_succ, List.setIfInBounds_toArray, List.set_cons_zero, List.set_cons_succ]
        refine wpAnyH_take (i := 9) (v := undef) rfl (by kernel_rfl) (by kernel_rfl) (by kernel_rfl) (fun _ _ _ h => h) (Or.inr ⟨by kernel_rfl, rfl⟩) S1 ?_
        simp only [Act.put, List.getElem_toArray, List.getElem_cons_zero, List.getElem_cons_succ, List.setIfInBounds_toArray, List.set_cons_zero, List.set_cons_succ]
        refine wpAnyH_take (i := 10) (v := undef) rfl (by kernel_rfl) (by kernel_rfl) (by kernel_rfl) (fun _ _ _ h => h) (Or.inr ⟨by kernel_rfl, rfl⟩) S1 ?_
        simp only [Act.put, List.getElem_toArray, List.getElem_cons_zero, List.getElem_cons_succ, List.setIfInBounds_toArray, List.set_cons_zero, List.set_cons_succ]
        refine wpAnyH_take (i := 11) (v := undef) rfl (by kernel_rfl) (by kernel_rfl) (by kernel_rfl) (fun _ _ _ h => h) (Or.inr ⟨by kernel_rfl, rfl⟩) S1 ?_
        simp only [Act.put, List.getElem_toArray, List.getElem_cons_zero, List.getElem_cons_succ, List.setIfInBounds_toArray, List.set_cons_zero, List.set_cons_succ]
        refine wpAnyH_take (i := 12) (v := undef) rfl (by kernel_rfl) (by kernel_rfl) (by kernel_rfl) (fun _ _ _ h => h) (Or.inr ⟨by kernel_rfl, rfl⟩) S1 ?_
        simp only [Act.put, List.getElem_toArray, List.getElem_cons_zero, List.getElem_cons_succ, List.setIfInBounds_toArray, List.set_cons_zero, List.set_cons_succ]
        refine wpAnyH_take (i := 13) (v := .bool false) rfl (by kernel_rfl) (by kernel_rfl) (by kernel_rfl) (fun _ _ _ h => h) (Or.inl ⟨by kernel_rfl, fun w _ => by go_simp⟩) S1 ?_
        simp only [Act.put, List.getElem_toArray, List.getElem_cons_zero, List.getElem_cons_succ, List.setIfInBounds_toArray, List.set_cons_zero, List.set_cons_succ]
        refine wpAnyH_take (i := 14) (v := .int .i64 (p : Int)) rfl (by kernel_rfl) (by kernel_rfl) (by kernel_rfl) (fun _ _ _ h => h) (Or.inl ⟨by kernel_rfl, fun w _ => by go_simp⟩) S1 ?_
        simp only [Act.put, List.getElem_toArray, List.getElem_cons_zero, List.getElem_cons_succ, List.setIfInBounds_toArray, List.set_cons_zero, List.set_cons_succ]
        refine wpAnyH_take (i := 15) (v := .bool false) rfl (by kernel_rfl) (by kernel_rfl) (by kernel_rfl) (fun _ _ _ h => h) (Or.inl ⟨by kernel_rfl, fun w _ => by go_simp⟩) S1 ?_
        simp only [Act.put, List.getElem_toArray, List.getElem_cons_zero, List.getElem_cons_succ, List.setIfInBounds_toArray, List.set_cons_zero, List.set_cons_succ]
        refine wpAnyH_done (by kernel_rfl) ?_ _
        go_wp2_with fail
        go_ret2
        refine ⟨p, HPL.out, ?_, HB.out.trans (T1.out.mono HB.out.size)⟩
        rw [decide_eq_false (by omega), Bool.false_and]
        rfl
end Go.Proofs.Ytkpojlnfagonbaa

