/- The walk of WearEven: it answers true, and changes nothing that was there. No condition. -/
import Derived.Test.YtdmganpblkepfaaWearRows
import Derived.Test.YtdmganpblkepfaaNandAnd
namespace Go.Proofs.Ytdmganpblkepfaa
open Go.RowKit WM
def low (z : Int) (m : Nat) : Nat := (z % 18446744073709551616).toNat % m
/-- a load as the law turns it -/
def modE (i : Nat) (l : LV) : LV := ⟨i + 1, 1 + l.wear % 64, l.block, 1 + (low l.counts 8 : Nat)⟩
def turnedTo (L : List LV) : Nat → List LV
  | 0 => L
  | k + 1 => (turnedTo L k).set k (modE k (at_ (turnedTo L k) k))
theorem turnedTo_length (L : List LV) (k : Nat) : (turnedTo L k).length = L.length := by
  induction k with
  | zero => rfl
  | succ k ih => simp [turnedTo, ih]
theorem at_set {L : List LV} {k : Nat} (hk : k < L.length) (l : LV) (i : Nat) : at_ (L.set k l) i = if i = k then l else at_ L i := by
  unfold at_
  rw [List.getD_eq_getElem?_getD, List.getD_eq_getElem?_getD, List.getElem?_set]
  by_cases h : k = i
  · subst h
    simp [hk]
  · rw [if_neg h, if_neg (fun e => h e.symm)]
theorem turnedTo_at (L : List LV) (k i : Nat) (hk : k ≤ L.length) : at_ (turnedTo L k) i = if i < k then modE i (at_ L i) else at_ L i := by
  induction k with
  | zero => rfl
  | succ k ih =>
    rw [turnedTo, at_set (by rw [turnedTo_length]; omega)]
    by_cases h : i = k
    · subst h
      rw [if_pos rfl, if_pos (by omega), ih (by omega), if_neg (by omega)]
    · rw [if_neg h, ih (by omega)]
      by_cases h2 : i < k
      · rw [if_pos h2, if_pos (by omega)]
      · rw [if_neg h2, if_neg (by omega)]
/-- the loads of the law -/
def evenL (L : List LV) (at0 : Nat) : List LV := (turnedTo L L.length).set at0 ⟨at0 + 1, 0, (at_ L at0).block, 1⟩
theorem evenL_at (L : List LV) (at0 i : Nat) (h : at0 < L.length) (hi : i < L.length) : at_ (evenL L at0) i = if i = at0 then ⟨at0 + 1, 0, (at_ L at0).block, 1⟩ else modE i (at_ L i) := by
  unfold evenL
  rw [at_set (by rw [turnedTo_length]; exact h), turnedTo_at L _ _ (Nat.le_refl _), if_pos hi]
theorem evenL_length (L : List LV) (at0 : Nat) : (evenL L at0).length = L.length := by simp [evenL, turnedTo_length]
theorem evenL_seq (L : List LV) (at0 i : Nat) (h : at0 < L.length) (hi : i < L.length) : (at_ (evenL L at0) i).seq = i + 1 := by
  rw [evenL_at L at0 i h hi]
  split
  · rename_i e; rw [e]
  · rfl
theorem newest_of_seq {L : List LV} (h0 : 0 < L.length) (h : ∀ i, i < L.length → (at_ L i).seq = i + 1) : newest L = L.length - 1 := by
  have key : ∀ k, 0 < k → k ≤ L.length → lfold (fun i j => newer (at_ L i) (at_ L j)) k = k - 1 := by
    intro k
    induction k with
    | zero => intro h; omega
    | succ k ih =>
      intro _ hk
      show (if newer (at_ L k) (at_ L (lfold (fun i j => newer (at_ L i) (at_ L j)) k)) = true then k else lfold (fun i j => newer (at_ L i) (at_ L j)) k) = k + 1 - 1
      rcases Nat.eq_zero_or_pos k with rfl | hp
      · split <;> rfl
      · rw [ih hp (by omega), if_pos]
        · omega
        · unfold newer
          rw [h k (by omega), h (k - 1) (by omega)]
          simp
          omega
  exact key _ h0 (Nat.le_refl _)
theorem even_victim (L : List LV) (at0 : Nat) (h2 : 2 ≤ L.length) (h : at0 < L.length) : ∃ i, victim (evenL L at0) = some i ∧ i < L.length - 1 ∧ (i = at0 ∨ at0 = L.length - 1) := by
  have hn : newest (evenL L at0) = L.length - 1 := by
    have := newest_of_seq (L := evenL L at0) (by rw [evenL_length]; omega) (fun i hi => evenL_seq L at0 i h (by rwa [evenL_length] at hi))
    rwa [evenL_length] at this
  have hmem : ∀ i, i ∈ others (evenL L at0) (evenL L at0).length ↔ i < L.length - 1 := by
    intro i
    unfold others
    rw [hn, evenL_length]
    simp only [List.mem_filter, List.mem_range, Bool.not_eq_true', decide_eq_false_iff_not]
    omega
  by_cases ha : at0 = L.length - 1
  · rcases hv : victim (evenL L at0) with _ | i
    · have := pick_none.1 hv
      have h0 := (hmem 0).2 (by omega)
      rw [this] at h0
      simp at h0
    · exact ⟨i, rfl, (hmem i).1 (pick_mem hv), .inr ha⟩
  · refine ⟨at0, ?_, by omega, .inl rfl⟩
    refine pick_unique ((hmem at0).2 (by omega)) fun x hx hne => ?_
    have hxl := (hmem x).1 hx
    rw [evenL_at L at0 x h (by omega), if_neg hne, evenL_at L at0 at0 h h, if_pos rfl]
    unfold sooner modE
    simp only [Bool.or_eq_true, Bool.and_eq_true, decide_eq_true_eq, Bool.or_eq_false_iff, Bool.and_eq_false_iff, decide_eq_false_iff_not]
    omega
theorem and_7 (z : Int) : bits .and .i64 z 7 = (low z 8 : Nat) := and_low z 3 7 rfl (by omega)
theorem and_65535 (z : Int) : bits .and .i64 z 65535 = (low z 65536 : Nat) := and_low z 16 65535 rfl (by omega)
theorem and_63 (x : Nat) (hx : x < 18446744073709551616) : bits .and .u64 (x : Int) 63 = ((x % 64 : Nat) : Int) := by
  have h := u64_and_nat x 63 hx (by omega)
  rw [show (63 : Nat) = 2 ^ 6 - 1 from rfl, Nat.and_two_pow_sub_one_eq_mod] at h
  exact h
theorem low_lt (z : Int) {m : Nat} (h : 0 < m) : low z m < m := Nat.mod_lt _ h
theorem flat_get' {M : List LV} {k : Nat} {x : LV} {r : List Value} (hk : k < M.length) (hx : x = at_ M k) (hr : rrow x = r) (j : Nat) {u : Value} (hu : r[j]? = some u) : (M.flatMap rrow)[k * 4 + j]? = some u :=
  flat_get rrow_len M k j x u (by rw [hx]; exact at_get hk) (by rw [hr]; exact hu)
set_option maxRecDepth 100000 in
set_option maxHeartbeats 8000000 in
theorem wearEven_any (v : Value) (z : Int) (w : World) (hn : ∃ L, Loads w w.heap.size v L) (_ : (Lit.int .i64 z).wf = true) :
    Calls Try.prog 10 #[v, .int .i64 z] w fun e w' => e = .returned (.bool true) ∧ Below w.heap.size w w' := by
  obtain ⟨L, A, c, rfl, hr, hok⟩ := hn
  have HR := Lib.hid hr
  have HOK := Lib.hid hok
  clear hr hok
  by_cases hl2 : L.length < 2
  · have d1 : decide ((L.length : Int) < 2) = true := by simp; omega
    go_enter Try.func10, Try.ntmps10
    go_wp2_with fail
    refine (wearspeaks_any _).mono ?_
    rintro e' w2 ⟨rfl, hb2⟩
    go_wp2
    go_ret
    exact ⟨rfl, hb2⟩
  · have d1 : decide ((L.length : Int) < 2) = false := by simp; omega
    by_cases hl : 100 < L.length
    · have d2 : decide ((100 : Int) < (L.length : Int)) = true := by simp; omega
      go_enter Try.func10, Try.ntmps10
      go_wp2_with fail
      refine (wearspeaks_any _).mono ?_
      rintro e' w2 ⟨rfl, hb2⟩
      go_wp2
      go_ret
      exact ⟨rfl, hb2⟩
    · have d2 : decide ((100 : Int) < (L.length : Int)) = false := by simp; omega
      obtain ⟨ti, hi, hzz, hs, hby⟩ := info_parts infoR
      have a1 := and_65535 z
      obtain ⟨at0, hat⟩ : ∃ a, a = low z 65536 % L.length := ⟨_, rfl⟩
      have hat2 : at0 < L.length := by rw [hat]; exact Nat.mod_lt _ (by omega)
      have hlz := low_lt z (m := 65536) (by omega)
      obtain ⟨zl, hzl⟩ : ∃ zl, zl = low z 65536 := ⟨_, rfl⟩
      rw [← hzl] at a1 hat hlz
      have a2 : (zl : Int) % (L.length : Int) = (at0 : Int) := by rw [hat]; exact (Int.natCast_emod zl L.length).symm
      have a3 : Int.tmod (zl : Int) (L.length : Int) = (at0 : Int) := by rw [Int.tmod_eq_emod_of_nonneg (by omega), a2]
      clear hzl hat
      go_enter Try.func10, Try.ntmps10
      go_wp2_with fail
      refine (wearspeaks_any _).mono ?_
      rintro e' w1 ⟨rfl, h1⟩
      have T1 := Lib.hid h1
      clear h1
      go_wp2_with fail
      clear a1 a2 a3 d1 d2
      go_loopw [0, 26] (fun v i wr => ∃ k : Nat, k ≤ L.length ∧ i = .int .i64 k ∧ (∃ X c', v = .slice X L.length c' ∧ Hid (Row wr wr.heap.size X ((turnedTo L k).flatMap rrow)) ∧ Hid (0 < k → wr.ownsRow w.heap.size 65 4 (.slice X L.length c') L.length ((turnedTo L k).flatMap rrow))) ∧ Hid (Below w.heap.size w wr)) (fun _ i _ => L.length - (intOf i).toNat)
      case atStart => exact ⟨0, Nat.zero_le _, rfl, ⟨A, c, rfl, Lib.hid ((HR.out.below T1.out).more T1.out.size), Lib.hid (fun h => absurd h (by omega))⟩, T1⟩
      case round =>
        clear T1
        obtain ⟨k, hk, rfl, ⟨X, c', rfl, hX, hXO⟩, hb⟩ := hrel
        by_cases hlt : k < L.length
        · have hXk := hX.out.elem rrow_len (by omega) (at_get (L := turnedTo L k) (by rw [turnedTo_length]; exact hlt))
          obtain ⟨a, rfl, _, _⟩ := hXk
          have hO0 := Lib.hid (World.ownsRow_made (base := wr.heap.size) (e := 65) (size := 4) wr #[] 0 (Nat.le_refl _) (by simp [maxLen]) rfl)
          have W0 := Lib.hid ((Below.refl wr.heap.size wr).alloc (Nat.le_refl _) (.cells #[] 65))
          have hsrc := Lib.hid (show ∀ j u, ((turnedTo L k).flatMap rrow)[j]? = some u → (wr.alloc (.cells #[] 65)).cell? (a.add j) = some u from fun j u hu => by
            obtain ⟨a', e', hb', hc'⟩ := hX.out j u hu
            cases e'
            exact (W0.out.cell (p := a.add j) (by rw [add_block]; exact hb')).trans hc')
          have hone := Lib.hid (show ∀ u ∈ (turnedTo L k).flatMap rrow, u.oneCell' = true by
            intro u hu
            obtain ⟨l, _, h⟩ := List.mem_flatMap.1 hu
            exact rrow_one l u h)
          have hfl := Lib.hid (show ((turnedTo L k).flatMap rrow).length = L.length * 4 by rw [flat_length rrow_len, turnedTo_length])
          obtain ⟨x, hx⟩ : ∃ x, x = at_ (turnedTo L k) k := ⟨_, rfl⟩
          have HX := Lib.hid hx
          have hxo : LV.ok x := by rw [hx, turnedTo_at L k k hk, if_neg (by omega)]; exact HOK.out _ (List.mem_of_getElem? (at_get hlt))
          obtain ⟨xw, hxw⟩ : ∃ xw, xw = x.wear := ⟨_, rfl⟩
          obtain ⟨xc, hxc⟩ : ∃ xc, xc = x.counts := ⟨_, rfl⟩
          have b63 := and_63 xw (by rw [hxw]; exact hxo.wear)
          have b7 := and_7 xc
          obtain ⟨lw, hlw⟩ : ∃ lw, lw = xw % 64 := ⟨_, rfl⟩
          obtain ⟨lc, hlc⟩ : ∃ lc, lc = low xc 8 := ⟨_, rfl⟩
          have lw64 : lw < 64 := by omega
          have lc8 : lc < 8 := by rw [hlc]; exact low_lt _ (by omega)
          rw [← hlw] at b63
          rw [← hlc] at b7
          have hrx := Lib.hid (show rrow x = [.int .u64 (x.seq : Int), .int .u64 (xw : Int), .int .i64 x.block, .int .i64 xc] by rw [hxw, hxc]; rfl)
          have hry := Lib.hid (show rrow (modE k x) = [.int .u64 ((k : Int) + 1), .int .u64 (1 + (lw : Int)), .int .i64 x.block, .int .i64 (1 + (lc : Int))] by
            rw [hlw, hlc, hxw, hxc]
            simp [rrow, modE])
          have hMk := Lib.hid (show k < (turnedTo L k).length by rw [turnedTo_length]; exact hlt)
          clear hx hxo hxw hxc hlw hlc
          go_wp2_with (first | (at_builtin; refine wpList_append_own _ rfl (.tmp 29) (.tmp 30) 56 rfl wr.heap.size 65 ti _ 4 32 Try.underlying56 hi hzz hs hby rfl (by omega) _ 0 _ rfl hO0.out a L.length _ ((turnedTo L k).flatMap rrow) rfl hfl.out hsrc.out hone.out (by simp only [maxLen]; omega) (by omega) W0.out.size ?_; intro v9 w9 O9 g9 e9; clear e9; rw [Nat.zero_add, List.nil_append] at O9; obtain ⟨A9, c9, rfl, _, _⟩ := rows_shape O9; obtain ⟨g, rfl, hgb⟩ := rowR_addr O9 (by omega); have Q9 := Lib.hid O9; have q0 := (World.ownsRow.cellAt O9 (k * 4) (by omega)).trans (flat_get' hMk.out HX.out hrx.out 0 rfl); have q1 := (World.ownsRow.cellAt O9 (k * 4 + 1) (by omega)).trans (flat_get' hMk.out HX.out hrx.out 1 rfl); have q3 := (World.ownsRow.cellAt O9 (k * 4 + 3) (by omega)).trans (flat_get' hMk.out HX.out hrx.out 3 rfl); have f0 := World.ownsRow.frozenAt O9 (k * 4); have f1 := World.ownsRow.frozenAt O9 (k * 4 + 1); have f3 := World.ownsRow.frozenAt O9 (k * 4 + 3); have T9 := Lib.hid (W0.out.grown g9 W0.out.size (fun q e => (hO0.out.lt q e).1)); clear O9 g9))
          have QZ := Lib.hid (show ((((w9.setCell ⟨g, k * 4, none⟩ (.int .u64 ((k : Int) + 1))).setCell ⟨g, k * 4 + 3, none⟩ (.int .i64 (1 + (lc : Int)))).setCell ⟨g, k * 4 + 1, none⟩ (.int .u64 (1 + (lw : Int))))).ownsRow wr.heap.size 65 4 (.slice (some ⟨g, 0, none⟩) L.length c9) L.length ((turnedTo L (k + 1)).flatMap rrow) by
            have h := rowR_set (rowR_set (rowR_set Q9.out (k * 4) (.int .u64 ((k : Int) + 1))) (k * 4 + 3) (.int .i64 (1 + (lc : Int)))) (k * 4 + 1) (.int .u64 (1 + (lw : Int)))
            rw [seg4_of hMk.out, ← HX.out, hrx.out, seg4_set0 hMk.out rfl, seg4_set hMk.out rfl (by omega), seg4_set hMk.out rfl (by omega)] at h
            have e := seg4_to hMk.out (modE k x)
            rw [hry.out] at e
            rw [turnedTo, ← HX.out, ← e]
            exact h)
          have TZ := Lib.hid (hb.out.trans ((((T9.out.setCell (p := ⟨g, k * 4, none⟩) hgb (.int .u64 ((k : Int) + 1))).setCell (p := ⟨g, k * 4 + 3, none⟩) hgb (.int .i64 (1 + (lc : Int)))).setCell (p := ⟨g, k * 4 + 1, none⟩) hgb (.int .u64 (1 + (lw : Int)))).mono hb.out.size))
          clear q0 q1 q3 f0 f1 f3 b63 b7
          go_roundw
          case rel => exact ⟨k + 1, by omega, by go_num, ⟨some ⟨g, 0, none⟩, c9, rfl, Lib.hid (rows_row QZ.out), Lib.hid fun _ => rows_lower QZ.out hb.out.size⟩, TZ⟩
          case measure => simp [intOf]; omega
        · obtain rfl : k = L.length := by omega
          have O := hXO.out (by omega)
          obtain ⟨g, rfl, hgb⟩ := rowR_addr O (by omega)
          obtain ⟨M, hM⟩ : ∃ M, M = turnedTo L L.length := ⟨_, rfl⟩
          rw [← hM] at O
          have hMl : M.length = L.length := by rw [hM, turnedTo_length]
          obtain ⟨x, hx⟩ : ∃ x, x = at_ M at0 := ⟨_, rfl⟩
          have hxb : x.block = (at_ L at0).block ∧ x.seq = at0 + 1 := by
            rw [hx, hM, turnedTo_at L _ _ (Nat.le_refl _), if_pos hat2]
            exact ⟨rfl, rfl⟩
          have hm2 : at0 < M.length := by omega
          have q1 := (World.ownsRow.cellAt O (at0 * 4 + 1) (by omega)).trans (flat_get' hm2 hx rfl 1 rfl)
          have q3 := (World.ownsRow.cellAt O (at0 * 4 + 3) (by omega)).trans (flat_get' hm2 hx rfl 3 rfl)
          have f1 := World.ownsRow.frozenAt O (at0 * 4 + 1)
          have f3 := World.ownsRow.frozenAt O (at0 * 4 + 3)
          have OZ := Lib.hid (show ((wr.setCell ⟨g, at0 * 4 + 3, none⟩ (.int .i64 1)).setCell ⟨g, at0 * 4 + 1, none⟩ (.int .u64 0)).ownsRow w.heap.size 65 4 (.slice (some ⟨g, 0, none⟩) L.length c') L.length ((evenL L at0).flatMap rrow) by
            have h := rowR_set (rowR_set O (at0 * 4 + 3) (.int .i64 1)) (at0 * 4 + 1) (.int .u64 0)
            rw [seg4_of hm2, ← hx, seg4_set hm2 rfl (by omega), seg4_set hm2 rfl (by omega)] at h
            have e := seg4_to hm2 ⟨at0 + 1, 0, (at_ L at0).block, 1⟩
            rw [evenL, ← hM, ← e]
            have e2 : ((rrow x).set 3 (.int .i64 1)).set 1 (.int .u64 0) = rrow ⟨at0 + 1, 0, (at_ L at0).block, 1⟩ := by
              unfold rrow
              rw [hxb.1, hxb.2]
              rfl
            rw [← e2]
            exact h)
          have TZ := Lib.hid (((hb.out.setCell (p := ⟨g, at0 * 4 + 3, none⟩) hgb (.int .i64 1)).setCell (p := ⟨g, at0 * 4 + 1, none⟩) hgb (.int .u64 0)))
          clear O hXO hX hM hx hxb hb
          go_wp2_with fail
          obtain ⟨F, hF⟩ : ∃ F, F = evenL L at0 := ⟨_, rfl⟩
          have hFl : F.length = L.length := by rw [hF, evenL_length]
          obtain ⟨i, hv, hi1, hi2⟩ := even_victim L at0 (by omega) hat2
          rw [← hF] at hv OZ
          clear hF
          obtain ⟨W, hW⟩ : ∃ W, W = (wr.setCell ⟨g, at0 * 4 + 3, none⟩ (.int .i64 1)).setCell ⟨g, at0 * 4 + 1, none⟩ (.int .u64 0) := ⟨_, rfl⟩
          rw [← hW] at OZ TZ ⊢
          have kl := loads_any (some ⟨g, 0, none⟩) F c' W W.heap.size (Nat.le_refl _) (rows_row OZ.out) (by omega)
          rw [hFl] at kl
          have KL := Lib.hid kl
          clear hW kl q1 q3 f1 f3 hm2 hMl
          ((with_reducible refine KL.out.mono ?_); rintro e w2 ⟨X, c2, rfl, O2, h2⟩)
          have T2 := Lib.hid (TZ.out.trans (h2.mono TZ.out.size))
          have kv := victim_any X F c2 w2 w2.heap.size (Nat.le_refl _) (loads_row O2) (by omega)
          rw [hFl, hv] at kv
          have KV := Lib.hid kv
          clear kv O2 h2 KL hv
          go_wp2_with fail
          refine KV.out.mono ?_
          rintro e w3 ⟨rfl, h3⟩
          have T3 := Lib.hid (T2.out.trans (h3.mono T2.out.size))
          clear h3 KV hFl
          have e3 : ((i : Int) != (L.length : Int) - 1) = true := by simp; omega
          by_cases e1 : i = at0
          · have d1 : ((i : Int) == (at0 : Int)) = true := by simp [e1]
            clear e1
            go_wp2
            go_ret
            exact ⟨rfl, T3.out⟩
          · have d1 : ((i : Int) == (at0 : Int)) = false := by simp; omega
            have d2 : ((at0 : Int) == (L.length : Int) - 1) = true := by simp; omega
            clear e1
            go_wp2
            go_ret
            exact ⟨rfl, T3.out⟩
end Go.Proofs.Ytdmganpblkepfaa
