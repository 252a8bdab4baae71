/- Layer 10: the contracts of Victim and Gap. No condition but that the loads are there. -/
import Derived.Test.YtdmganpblkepfaaWearVictim
import Derived.Laws.OwnMore
namespace Go.Proofs.Ytdmganpblkepfaa
open Go.RowKit WM
theorem intTys : OneCell Try.prog 49 3 (.int .i64 0) 8 := OneCell.mk' Try.underlying49 (by kernel_rfl) (by decide)
theorem newest_any (A : Option Addr) (L : List LV) (c : Nat) (w : World) (B : Nat) (hB : B ≤ w.heap.size) (hr : Row w B A (L.flatMap mrow)) (hl : L.length ≤ 1000) :
    Calls Try.prog 43 #[.slice A L.length c, .func (.func 44) #[] #[]] w fun e w' => e = .returned (.tuple #[.int .i64 (newest L : Nat), .bool (decide (0 < L.length))]) ∧ Below w.heap.size w w' := by
  by_cases h : 0 < L.length
  · rw [decide_eq_true h]
    exact least_newer A L c w B hB hr hl h
  · obtain rfl : L = [] := List.eq_nil_of_length_eq_zero (by omega)
    refine (least_none _ A c w).mono ?_
    rintro e w' ⟨rfl, rfl⟩
    exact ⟨rfl, Below.refl _ _⟩
theorem ivN_append (a b : List Nat) : ivN (a ++ b) = ivN a ++ ivN b := by simp [ivN]
theorem ivN_one (l : List Nat) : ∀ u ∈ ivN l, u.oneCell' = true := by
  intro u hu
  obtain ⟨_, _, rfl⟩ := List.mem_map.1 hu
  rfl
set_option maxRecDepth 100000 in
set_option maxHeartbeats 8000000 in
theorem victim_any (A : Option Addr) (L : List LV) (c : Nat) (w : World) (B : Nat) (hB : B ≤ w.heap.size) (hr : Row w B A (L.flatMap mrow)) (hl : L.length ≤ 1000) :
    Calls Try.prog 28 #[.slice A L.length c] w fun e w' => e = .returned (.tuple #[.int .i64 (((victim L).getD 0 : Nat) : Int), .bool (victim L).isSome]) ∧ Below w.heap.size w w' := by
  have b1 := Lib.hid ((Below.refl w.heap.size w).alloc (Nat.le_refl _) (.cells #[.slice A L.length c] 59))
  have B1 : Blk (w.alloc (.cells #[.slice A L.length c] 59)) w.heap.size 59 [.slice A L.length c] := heap_alloc_new w _
  have hgl := Lib.hid B1.lt
  have c0 := B1.cell 0
  simp only [List.getElem?_cons_zero] at c0
  have HR := Lib.hid ((hr.more hB).below b1.out)
  have KN := Lib.hid (newest_any A L c _ w.heap.size b1.out.size HR.out hl)
  have hmf : ∀ (fn : Fn) (first cap : Array Value) (w : World), (Instr.makeFunc fn first cap).run Try.prog w = .ok (.func fn first cap) w := fun _ _ _ _ => rfl
  clear B1 hr
  go_enter Try.func28, Try.ntmps28
  go_wp2_with fail
  obtain ⟨W, hW⟩ : ∃ W, W = w.alloc (.cells #[.slice A L.length c] 59) := ⟨_, rfl⟩
  obtain ⟨g, hg⟩ : ∃ g, g = w.heap.size := ⟨_, rfl⟩
  rw [← hW] at b1 c0 hgl HR KN ⊢
  rw [← hg] at c0 hgl ⊢
  have HG := Lib.hid hg
  clear hW hg
  ((with_reducible refine KN.out.mono ?_); rintro e w2 ⟨rfl, h2⟩)
  obtain ⟨m, hm⟩ : ∃ m, m = newest L := ⟨_, rfl⟩
  rw [← hm]
  have HM := Lib.hid hm
  have c2 := (h2.cell (p := ⟨g, 0, none⟩) hgl.out).trans c0
  have T2 := Lib.hid (b1.out.trans (h2.mono b1.out.size))
  have R2 := Lib.hid (HR.out.below (h2.mono b1.out.size))
  have Z2 := Lib.hid (Nat.lt_of_lt_of_le hgl.out h2.size)
  clear h2 hm c0 KN
  go_wp2_with fail
  go_loopw [6, 17] (fun v i wr => ∃ k : Nat, k ≤ L.length ∧ i = .int .i64 k ∧ ∃ X n c', v = .slice X n c' ∧ Hid (n = (others L k).length) ∧ Hid (wr.ownsRow w2.heap.size 3 1 (.slice X n c') n (ivN (others L k))) ∧ Hid (Below w2.heap.size w2 wr)) (fun _ i _ => L.length - (intOf i).toNat)
  case atStart => exact ⟨0, Nat.zero_le _, rfl, none, 0, 0, rfl, Lib.hid rfl, Lib.hid (World.ownsRow_nil w2 w2.heap.size 3 1), Lib.hid (Below.refl _ _)⟩
  case round =>
    rename_i wr
    obtain ⟨k, hk, rfl, X, n, c', rfl, hn, hO, hb⟩ := hrel
    have hnk : n ≤ 1000 := by rw [hn.out]; exact Nat.le_trans (others_length_le L k) (by omega)
    by_cases hlt : k < L.length
    · by_cases hkm : k = m
      · have d1 : ((k : Int) != (m : Int)) = false := by simp [hkm]
        have HO := Lib.hid (show others L (k + 1) = others L k by rw [others_succ, if_pos (by rw [hkm, HM.out]), List.append_nil])
        clear hkm
        go_wp2
        go_roundw
        case rel => exact ⟨k + 1, by omega, by go_num, X, n, c', rfl, Lib.hid (by rw [HO.out]; exact hn.out), Lib.hid (by rw [HO.out]; exact hO.out), hb⟩
        case measure => simp [intOf]; omega
      · have d1 : ((k : Int) != (m : Int)) = true := by simp; omega
        have HO := Lib.hid (show others L (k + 1) = others L k ++ [k] by rw [others_succ, if_neg (by rw [← HM.out]; exact hkm)])
        clear hkm
        have O1 := Lib.hid (hO.out.alloc (.cells #[.int .i64 (k : Int)] 3))
        have b3 := Lib.hid (hb.out.alloc hb.out.size (.cells #[.int .i64 (k : Int)] 3))
        have hrow := Lib.hid (show Row (wr.alloc (.cells #[.int .i64 (k : Int)] 3)) (wr.heap.size + 1) (some ⟨wr.heap.size, 0, none⟩) (ivN [k]) from Row.new wr #[.int .i64 (k : Int)] 3 (0, 0) wr.heap.size rfl (Nat.lt_succ_self _))
        go_wp2_with (at_builtin; (refine wpl_append_vals intTys rfl (.tmp 23) (.tmp 25) rfl n rfl O1.out (wr.heap.size + 1) _ _ (ivN [k]) 1 rfl rfl hrow.out (ivN_one _) (by omega) (by simp only [maxLen]; omega) b3.out.size (n + 1) rfl ?_); intro A4 c4 w4 O4 g4 e4; have Q4 := Lib.hid O4; have T4 := Lib.hid (b3.out.grown g4 b3.out.size (fun q e => (O1.out.lt q e).1)); clear O4 g4 e4)
        go_roundw
        case rel => exact ⟨k + 1, by omega, by go_num, A4, n + 1, c4, rfl, Lib.hid (by rw [HO.out, List.length_append, hn.out]; rfl), Lib.hid (by rw [HO.out, ivN_append]; exact Q4.out), T4⟩
        case measure => simp [intOf]; omega
    · obtain rfl : k = L.length := by omega
      obtain ⟨xs, hxs⟩ : ∃ xs, xs = others L L.length := ⟨_, rfl⟩
      rw [← hxs] at hn hO
      have c3 := (hb.out.cell (p := ⟨g, 0, none⟩) Z2.out).trans c2
      have HXS := Lib.hid hxs
      have hn1 := hn.out
      clear hxs
      subst hn1
      have T3 := Lib.hid (T2.out.trans (hb.out.mono T2.out.size))
      by_cases h0 : 0 < xs.length
      · have KL : Hid (Calls Try.prog 45 #[.slice X xs.length c', .func (.func 46) #[] #[.pointer (some ⟨g, 0, none⟩)]] wr fun e w' => e = .returned (.tuple #[.int .i64 (lfold (fun i j => sooner (at_ L (xs.getD i 0)) (at_ L (xs.getD j 0))) xs.length : Nat), .bool true]) ∧ Below wr.heap.size wr w') :=
          Lib.hid (leasti_any X xs c' wr wr.heap.size (Nat.le_refl _) (ownsRow_row hO.out) hnk h0 g (fun i j => sooner (at_ L i) (at_ L j)) (fun i j => soon3 (at_ L i) (at_ L j)) (fun i j => soon3_neg _ _) fun w' h i j hi hj => by
            have hz : w.heap.size ≤ wr.heap.size := T3.out.size
            have hxi : i < L.length := others_lt (by rw [← HXS.out]; exact hi)
            have hxj : j < L.length := others_lt (by rw [← HXS.out]; exact hj)
            exact order_any A L c g w' w.heap.size ((R2.out.below (hb.out.mono T2.out.size)).below (h.mono hz)) (Nat.le_trans hz h.size) ((h.cell (p := ⟨g, 0, none⟩) (Nat.lt_of_lt_of_le Z2.out hb.out.size)).trans c3) (Nat.lt_of_lt_of_le (Nat.lt_of_lt_of_le Z2.out hb.out.size) h.size) i j hxi hxj)
        have HV := Lib.hid (show victim L = some (xs.getD (lfold (fun i j => sooner (at_ L (xs.getD i 0)) (at_ L (xs.getD j 0))) xs.length) 0) by rw [HXS.out]; exact victim_some (by rw [← HXS.out]; exact h0))
        have hq := lfold_lt (fun i j => sooner (at_ L (xs.getD i 0)) (at_ L (xs.getD j 0))) (Nat.le_refl xs.length) h0
        obtain ⟨q, hqq⟩ : ∃ q, q = lfold (fun i j => sooner (at_ L (xs.getD i 0)) (at_ L (xs.getD j 0))) xs.length := ⟨_, rfl⟩
        rw [← hqq] at KL HV hq
        clear hqq
        go_wp2_with fail
        ((with_reducible refine KL.out.mono ?_); rintro e w5 ⟨rfl, h5⟩)
        have T5 := Lib.hid (T3.out.trans (h5.mono T3.out.size))
        obtain ⟨aX, rfl, _, hcx⟩ := (ownsRow_row hO.out).at_ (k := q) (by simpa [ivN] using hq)
        have hcx2 := (h5.cell (p := aX.add q) (by rw [add_block]; have := (ownsRow_row hO.out) q _ (List.getElem?_eq_getElem (by simpa [ivN] using hq)); obtain ⟨a', ea, hb', _⟩ := this; cases ea; exact hb')).trans hcx
        rw [show (ivN xs)[q]'(by simpa [ivN] using hq) = .int .i64 ((xs.getD q 0 : Nat) : Int) by simp [ivN, List.getD_eq_getElem?_getD, List.getElem?_eq_getElem hq]] at hcx2
        obtain ⟨r, hr⟩ : ∃ r, r = xs.getD q 0 := ⟨_, rfl⟩
        rw [← hr] at hcx2 HV
        clear hr hcx h5 KL
        go_wp2
        go_ret2
        rw [HV.out]
        exact ⟨rfl, T5.out⟩
      · obtain rfl : xs = [] := List.eq_nil_of_length_eq_zero (by omega)
        have HV := Lib.hid (victim_none HXS.out.symm)
        have KL := Lib.hid (leasti_none (.func (.func 46) #[] #[.pointer (some ⟨g, 0, none⟩)]) X c' wr)
        go_wp2_with fail
        ((with_reducible refine KL.out.mono ?_); rintro e w' ⟨rfl, hw⟩; rw [← hw]; clear hw w')
        go_wp2
        go_ret2
        rw [HV.out]
        exact ⟨rfl, T3.out⟩
end Go.Proofs.Ytdmganpblkepfaa
