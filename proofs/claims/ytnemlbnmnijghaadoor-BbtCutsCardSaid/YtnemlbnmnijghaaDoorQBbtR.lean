/- Several texts of the proof, joined: what each has is said at its head. -/
import Derived.Test.YtnemlbnmnijghaaDoorQBbtGood
import Derived.Test.YtnemlbnmnijghaaDoorQBbtA
import Derived.Test.YtnemlbnmnijghaaDoorQBbtTab
/- The document's table (bbt's reference): what stands where; the contracts of the calls that only look. Condition: it is there. -/
namespace Go.Proofs.YtnemlbnmnijghaaDoor
open Go.RowKit
def bl (zs : List Bool) : List Value := zs.map Value.bool
/-- in block m lies a document's table, with lists of its own; all its blocks lie from lo on, ahead of hi -/
structure RT (w : World) (lo hi m : Nat) (us : List Nat) (ls : List Bool) : Prop where
  parts : ∃ (u v cu cv : Nat) (Eu Ev : List Value), Blk w m 100 [.slice (some ⟨u, 0, none⟩) us.length cu, .slice (some ⟨v, 0, none⟩) ls.length cv] ∧ Blk w u 3 (iv us ++ Eu) ∧ Blk w v 4 (bl ls ++ Ev) ∧ u ≠ v ∧ u ≠ m ∧ v ≠ m ∧ (lo ≤ u ∧ u < hi) ∧ (lo ≤ v ∧ v < hi) ∧ us.length ≤ cu ∧ cu ≤ maxLen ∧ ls.length ≤ cv ∧ cv ≤ maxLen
  m : lo ≤ m ∧ m < hi
  hi : hi ≤ w.heap.size
section
variable {w w' : World} {lo hi m : Nat} {us : List Nat} {ls : List Bool}
theorem RT.chg {T : Nat → Prop} (h : RT w lo hi m us ls) (hc : Chg w w' T) (hT : ∀ k, lo ≤ k → k < hi → ¬ T k) : RT w' lo hi m us ls := by
  obtain ⟨⟨u, v, cu, cv, Eu, Ev, h1, h2, h3, h4, h5, h6, h7, h8, h9⟩, hm, hh⟩ := h
  exact ⟨⟨u, v, cu, cv, Eu, Ev, h1.chg hc (hT _ hm.1 hm.2), h2.chg hc (hT _ h7.1 h7.2), h3.chg hc (hT _ h8.1 h8.2), h4, h5, h6, h7, h8, h9⟩, hm, Nat.le_trans hh hc.size⟩
theorem RT.after (h : RT w lo hi m us ls) (hb : Below w.heap.size w w') : RT w' lo hi m us ls := h.chg (T := fun _ => False) (Chg.of_below hb) (fun _ _ _ => id)
end
/-- the document's table and a layout tell the same -/
def RTL (w : World) (lo hi m : Nat) (l : Lay) : Prop := RT w lo hi m l.used (l.lost.take l.n)
theorem lost_take {l : Lay} (h : l.ok) : (l.lost.take l.n).length = l.n := by
  rw [List.length_take, h.o]
  have := h.n2
  omega
theorem lost_at {l : Lay} (h : l.ok) {b : Nat} (hb : b < l.n) (E : List Value) : (bl (l.lost.take l.n) ++ E)[b]? = some (.bool (l.lostAt b)) := by
  have hl := lost_take h
  have h2 := h.n2
  have ho := h.o
  rw [List.getElem?_append_left (by rw [bl, List.length_map, hl]; exact hb), bl, List.getElem?_map, List.getElem?_take_of_lt hb, Lay.lostAt, List.getD_eq_getElem?_getD, List.getElem?_eq_getElem (by omega)]
  rfl
theorem used_at {us : List Nat} {j : Nat} (hj : j < us.length) (E : List Value) : (iv us ++ E)[j]? = some (.int .i64 ((us.getD j 0 : Nat) : Int)) := by
  rw [List.getElem?_append_left (by simpa [iv] using hj), iv, List.getElem?_map, List.getD_eq_getElem?_getD, List.getElem?_eq_getElem hj]
  rfl
section
variable {w : World} {lo hi m : Nat} {l : Lay}
set_option maxRecDepth 100000 in
set_option maxHeartbeats 4000000 in
theorem refSpare_any (hR : RTL w lo hi m l) (hok : l.ok) (b : Int) : Calls Tryd.prog 75 #[.pointer (some ⟨m, 0, none⟩), .int .i64 b] w fun e w' => e = .returned (.bool (l.isSpare b)) ∧ w = w' := by
  obtain ⟨⟨u, v, cu, cv, Eu, Ev, h1, h2, h3, _⟩, _, _⟩ := hR
  rw [lost_take hok] at h1
  have c0 := h1.cell 0
  have c1 := h1.cell 1
  simp only [List.getElem?_cons_zero, List.getElem?_cons_succ] at c0 c1
  have hn1 := hok.n1
  have hn2 := hok.n2
  have hul : l.used.length ≤ 34 := by rw [Lay.used_length hok]; omega
  have HC : Hid (∀ j, j < l.used.length → w.cell? ⟨u, j, none⟩ = some (.int .i64 ((l.used.getD j 0 : Nat) : Int))) := Lib.hid (fun j hj => (h2.cell j).trans (used_at hj Eu))
  have HL : Hid (∀ b, b < l.n → w.cell? ⟨v, b, none⟩ = some (.bool (l.lostAt b))) := Lib.hid (fun b hb => (h3.cell b).trans (lost_at hok hb Ev))
  clear h1 h2 h3
  unfold Lay.isSpare
  obtain ⟨n, hn⟩ : ∃ n, n = l.n := ⟨_, rfl⟩
  rw [← hn] at c1 hn1 hn2 HL ⊢
  obtain ⟨us, hus⟩ : ∃ us, us = l.used := ⟨_, rfl⟩
  rw [← hus] at c0 hul HC ⊢
  have hn40 : (n : Int) ≤ 40 := by omega
  have hn0 : (0 : Int) ≤ (n : Int) := by omega
  have hu34 : (us.length : Int) ≤ 34 := by omega
  have hu0 : (0 : Int) ≤ (us.length : Int) := by omega
  clear hn hus hok
  by_cases c2 : b < 2
  · have d1 : decide (b < 2) = true := by simp [c2]
    rw [decide_eq_false (by omega), Bool.false_and]
    clear c2
    go_enter Tryd.func75, Tryd.ntmps75
    go_wp2_with fail
    go_ret
    exact ⟨rfl, rfl⟩
  · have d1 : decide (b < 2) = false := by simp [c2]
    rw [decide_eq_true (show (2 : Int) ≤ b by omega), Bool.true_and]
    by_cases c3 : (n : Int) ≤ b
    · have d2 : decide ((n : Int) ≤ b) = true := by simp [c3]
      rw [decide_eq_false (show ¬ b < (n : Int) by omega), Bool.false_and]
      clear c2 c3
      go_enter Tryd.func75, Tryd.ntmps75
      go_wp2_with fail
      go_ret
      exact ⟨rfl, rfl⟩
    · have d2 : decide ((n : Int) ≤ b) = false := by simp [c3]
      rw [decide_eq_true (show b < (n : Int) by omega), Bool.true_and]
      obtain ⟨x, rfl⟩ : ∃ x : Nat, b = x := ⟨b.toNat, by omega⟩
      have cl := HL.out x (by omega)
      rw [Int.toNat_natCast]
      obtain ⟨t, ht⟩ : ∃ t, t = l.lostAt x := ⟨_, rfl⟩
      rw [← ht] at cl ⊢
      have hx1 : (x : Int) < (n : Int) := by omega
      have hx0 : (0 : Int) ≤ (x : Int) := by omega
      clear c3 ht HL
      cases t with
      | true =>
        go_enter Tryd.func75, Tryd.ntmps75
        go_wp2_with fail
        go_ret
        exact ⟨rfl, rfl⟩
      | false =>
        go_enter Tryd.func75, Tryd.ntmps75
        go_wp2_with fail
        go_loopw [5] (fun i wr => ∃ j : Nat, j ≤ us.length ∧ i = .int .i64 j ∧ wr = w ∧ x ∉ us.take j) (fun i _ => us.length - (intOf i).toNat)
        case atStart => exact ⟨0, Nat.zero_le _, rfl, rfl, by simp⟩
        case round =>
          obtain ⟨j, hj, rfl, rfl, hno⟩ := hrel
          have HN := Lib.hid hno
          clear hno cl
          by_cases hlt : j < us.length
          · have cj := HC.out j hlt
            have htk := take_snoc us (x := us.getD j 0) (k := j) (by rw [List.getD_eq_getElem?_getD, List.getElem?_eq_getElem hlt]; rfl)
            have hmem : us.getD j 0 ∈ us := by rw [List.getD_eq_getElem?_getD, List.getElem?_eq_getElem hlt]; exact List.getElem_mem _
            obtain ⟨y, hy⟩ : ∃ y, y = us.getD j 0 := ⟨_, rfl⟩
            rw [← hy] at cj htk hmem
            have HTK := Lib.hid htk
            have HMM := Lib.hid hmem
            clear htk hmem hy
            by_cases e : y = x
            · subst e
              have d3 : ((y : Int) == (y : Int)) = true := by simp
              go_wp2_with fail
              go_ret
              rw [decide_eq_true HMM.out]
              exact ⟨rfl, rfl⟩
            · have d3 : ((y : Int) == (x : Int)) = false := by simp; omega
              have HE := Lib.hid e
              clear e
              go_wp2_with fail
              exact ⟨⟨j + 1, by omega, by go_num, by first | rfl | trivial, by
                rw [HTK.out, List.mem_append, List.mem_singleton]
                exact fun h => h.elim HN.out (fun h => HE.out h.symm)⟩, by simp [intOf]; omega⟩
          · obtain rfl : j = us.length := by omega
            go_wp2_with fail
            go_ret
            have hno := HN.out
            rw [List.take_length] at hno
            rw [decide_eq_false hno]
            exact ⟨rfl, rfl⟩
/-- the least spare, or -1 -/
def Lay.first (l : Lay) : Int := (l.spare.map Int.ofNat).getD (-1)
set_option maxRecDepth 100000 in
set_option maxHeartbeats 4000000 in
theorem refFirst_any (hR : RTL w lo hi m l) (hok : l.ok) : Calls Tryd.prog 48 #[.pointer (some ⟨m, 0, none⟩)] w fun e w' => e = .returned (.int .i64 l.first) ∧ w = w' := by
  have ks := fun b => refSpare_any hR hok b
  obtain ⟨⟨u, v, cu, cv, Eu, Ev, h1, _⟩, _, _⟩ := hR
  rw [lost_take hok] at h1
  have c1 := h1.cell 1
  simp only [List.getElem?_cons_zero, List.getElem?_cons_succ] at c1
  have hn2 := hok.n2
  obtain ⟨n, hn⟩ : ∃ n, n = l.n := ⟨_, rfl⟩
  rw [← hn] at c1 hn2
  have HN := Lib.hid hn
  have KS := Lib.hid ks
  clear h1 ks hok hn
  go_enter Tryd.func48, Tryd.ntmps48
  go_wp2_with fail
  go_loopw [3] (fun i wr => ∃ j : Nat, j ≤ n ∧ i = .int .i64 j ∧ wr = w ∧ ∀ b, b < j → l.isSpare (b : Int) = false) (fun i _ => n - (intOf i).toNat)
  case atStart => exact ⟨0, Nat.zero_le _, rfl, rfl, fun b h => by omega⟩
  case round =>
    obtain ⟨j, hj, rfl, rfl, hno⟩ := hrel
    have HNo := Lib.hid hno
    clear hno
    by_cases hlt : j < n
    · have k1 := KS.out (j : Int)
      obtain ⟨t, ht⟩ : ∃ t, t = l.isSpare (j : Int) := ⟨_, rfl⟩
      rw [← ht] at k1
      have HT := Lib.hid ht
      clear ht
      cases t with
      | true =>
        go_wp2_with ((with_reducible refine k1.mono ?_); rintro e w2 ⟨rfl, rfl⟩)
        go_ret
        have hs : l.spare = some j := by
          unfold Lay.spare
          rw [List.find?_eq_some_iff_append]
          refine ⟨HT.out.symm, List.range j, (List.range' (j + 1) (n - j - 1)), ?_, fun a ha => by rw [HNo.out a (List.mem_range.1 ha)]; rfl⟩
          rw [← HN.out, List.range_eq_range', List.range_eq_range', show n = j + (1 + (n - j - 1)) by omega, ← List.range'_append_1, ← List.range'_append_1]
          simp
        unfold Lay.first
        rw [hs]
        exact ⟨rfl, rfl⟩
      | false =>
        go_wp2_with ((with_reducible refine k1.mono ?_); rintro e w2 ⟨rfl, rfl⟩)
        exact ⟨⟨j + 1, by omega, by go_num, by first | rfl | trivial, fun b hb => by
          rcases Nat.lt_or_ge b j with h | h
          · exact HNo.out b h
          · rw [show b = j by omega]; exact HT.out.symm⟩, by simp [intOf]; omega⟩
    · obtain rfl : j = n := by omega
      go_wp2_with fail
      go_ret
      have hs : l.spare = none := by
        unfold Lay.spare
        rw [List.find?_eq_none]
        intro b hb
        rw [← HN.out] at hb
        rw [HNo.out b (List.mem_range.1 hb)]
        simp
      unfold Lay.first
      rw [hs]
      exact ⟨rfl, rfl⟩
set_option maxRecDepth 100000 in
set_option maxHeartbeats 4000000 in
theorem refCount_any (hR : RTL w lo hi m l) (hok : l.ok) : Calls Tryd.prog 53 #[.pointer (some ⟨m, 0, none⟩)] w fun e w' => e = .returned (.int .i64 (l.losses : Int)) ∧ w = w' := by
  obtain ⟨⟨u, v, cu, cv, Eu, Ev, h1, _, h3, _⟩, _, _⟩ := hR
  rw [lost_take hok] at h1
  have c1 := h1.cell 1
  simp only [List.getElem?_cons_zero, List.getElem?_cons_succ] at c1
  have HL : Hid (∀ b, b < l.n → w.cell? ⟨v, b, none⟩ = some (.bool (l.lostAt b))) := Lib.hid (fun b hb => (h3.cell b).trans (lost_at hok hb Ev))
  have hn2 := hok.n2
  unfold Lay.losses
  obtain ⟨n, hn⟩ : ∃ n, n = l.n := ⟨_, rfl⟩
  rw [← hn] at c1 hn2 HL ⊢
  clear h1 h3 hok hn
  go_enter Tryd.func53, Tryd.ntmps53
  go_wp2_with fail
  go_loopw [3, 4] (fun z i wr => ∃ j : Nat, j ≤ n ∧ i = .int .i64 j ∧ ∃ q : Nat, z = .int .i64 (q : Int) ∧ q ≤ j ∧ wr = w ∧ Hid (q = l.lossesTo j)) (fun _ i _ => n - (intOf i).toNat)
  case atStart => exact ⟨0, Nat.zero_le _, rfl, 0, rfl, Nat.le_refl _, rfl, Lib.hid rfl⟩
  case round =>
    obtain ⟨j, hj, rfl, q, rfl, hq, rfl, HQ⟩ := hrel
    by_cases hlt : j < n
    · have c2 := HL.out j hlt
      have hs := l.lossesTo_succ j
      obtain ⟨t, ht⟩ : ∃ t, t = l.lostAt j := ⟨_, rfl⟩
      rw [← ht] at c2 hs
      have HS := Lib.hid hs
      clear ht hs
      cases t with
      | true =>
        go_wp2_with fail
        exact ⟨⟨j + 1, by omega, by go_num, q + 1, by go_num, by omega, by first | rfl | trivial, Lib.hid (by rw [HS.out, HQ.out]; rfl)⟩, by simp [intOf]; omega⟩
      | false =>
        go_wp2_with fail
        exact ⟨⟨j + 1, by omega, by go_num, q, rfl, by omega, by first | rfl | trivial, Lib.hid (by rw [HS.out, HQ.out]; rfl)⟩, by simp [intOf]; omega⟩
    · obtain rfl : j = n := by omega
      go_wp2_with fail
      go_ret
      rw [← HQ.out]
      exact ⟨rfl, rfl⟩
end
end Go.Proofs.YtnemlbnmnijghaaDoor

/- The contracts of the document's Lose and Swap. Condition: the table is there. -/
namespace Go.Proofs.YtnemlbnmnijghaaDoor
open Go.RowKit
theorem bl_set (zs : List Bool) (E : List Value) {j : Nat} (hj : j < zs.length) (b : Bool) : (bl zs ++ E).set j (.bool b) = bl (zs.set j b) ++ E := by
  rw [List.set_append_left _ _ (by simpa [bl] using hj)]
  simp [bl, List.map_set]
theorem iv_set (zs : List Nat) (E : List Value) {j : Nat} (hj : j < zs.length) (x : Nat) : (iv zs ++ E).set j (.int .i64 (x : Int)) = iv (zs.set j x) ++ E := by
  rw [List.set_append_left _ _ (by simpa [iv] using hj)]
  simp [iv, List.map_set]
theorem take_set_le (zs : List Bool) (n j : Nat) (b : Bool) : (zs.set j b).take n = (zs.take n).set j b := List.take_set
section
variable {w : World} {lo hi m : Nat} {l : Lay}
set_option maxRecDepth 100000 in
set_option maxHeartbeats 4000000 in
theorem refLose_yes (hR : RTL w lo hi m l) (hok : l.ok) (b : Nat) (hb : l.isSpare (b : Int) = true) : Calls Tryd.prog 49 #[.pointer (some ⟨m, 0, none⟩), .int .i64 (b : Int)] w fun e w' => e = .returned (.bool true) ∧ RTL w' lo hi m (l.setLost b) ∧ Chg w w' (fun k => lo ≤ k ∧ k < hi) := by
  have k1 := refSpare_any hR hok b
  rw [hb] at k1
  obtain ⟨h2, hn, _, _⟩ := spare_iff.1 hb
  obtain ⟨⟨u, v, cu, cv, Eu, Ev, h1, hu, hv, huv, hum, hvm, hlu, hlv, hr⟩, hm, hh⟩ := hR
  have hlt := lost_take hok
  have c1 := h1.cell 1
  simp only [List.getElem?_cons_zero, List.getElem?_cons_succ] at c1
  rw [hlt] at c1
  have hn2 := hok.n2
  have hbl : b < (l.lost.take l.n).length := by rw [hlt]; exact hn
  have hset := bl_set (l.lost.take l.n) Ev hbl true
  have HB : Hid (b < (bl (l.lost.take l.n) ++ Ev).length) := Lib.hid (by rw [List.length_append, bl, List.length_map]; omega)
  have hx1 : (b : Int) < (l.n : Int) := by omega
  have hn40 : (l.n : Int) ≤ 40 := by omega
  have hx0 : (0 : Int) ≤ (b : Int) := by omega
  clear hb
  go_enter Tryd.func49, Tryd.ntmps49
  go_wp2_with (first
    | ((with_reducible refine k1.mono ?_); rintro e w' ⟨rfl, rfl⟩)
    | (with_reducible refine wpl_blk_bool true bool_one (.tmp 14) (.const (.bool true)) rfl rfl hv b HB.out rfl rfl _ hset ?_; intro w5 L5 g5 e5; simp only [Act.put]))
  go_ret
  have q : Chg w w5 (fun k => k = v) := Chg.of_grown g5 (fun k e => Option.some.inj e)
  refine ⟨rfl, ⟨⟨u, v, cu, cv, Eu, Ev, ?_, hu.chg q huv, ?_, huv, hum, hvm, hlu, hlv, ?_⟩, hm, Nat.le_trans hh q.size⟩, q.more (fun k _ e => e ▸ hlv)⟩
  · have := h1.chg q (fun e => hvm e.symm)
    show Blk w5 m _ [_, .slice _ ((l.setLost b).lost.take l.n).length cv]
    rw [show ((l.setLost b).lost.take l.n).length = (l.lost.take l.n).length from (lost_take (Lay.setLost_ok hok b)).trans hlt.symm]
    exact this
  · show Blk w5 v _ (bl ((l.lost.set b true).take l.n) ++ Ev)
    rw [take_set_le]
    exact L5
  · have : ((l.setLost b).lost.take (l.setLost b).n).length = (l.lost.take l.n).length := (lost_take (Lay.setLost_ok hok b)).trans hlt.symm
    rw [this]
    exact hr
set_option maxHeartbeats 4000000 in
theorem refLose_no (hR : RTL w lo hi m l) (hok : l.ok) (b : Int) (hb : l.isSpare b = false) : Calls Tryd.prog 49 #[.pointer (some ⟨m, 0, none⟩), .int .i64 b] w fun e w' => e = .returned (.bool false) ∧ w = w' := by
  have k1 := refSpare_any hR hok b
  rw [hb] at k1
  clear hR hok hb
  go_enter Tryd.func49, Tryd.ntmps49
  go_wp2_with ((with_reducible refine k1.mono ?_); rintro e w' ⟨rfl, rfl⟩)
  go_ret
  exact ⟨rfl, rfl⟩
/-- the document's Swap is done -/
theorem refSwap_tail {x y b : Nat} (hy : y = l.at_.getD x 0) : (l.swap x b).used = l.used.set x b ∧ (l.swap x b).lost.take (l.swap x b).n = (l.lost.take l.n).set y true ∧ (l.swap x b).used.length = l.used.length ∧ ((l.swap x b).lost.take (l.swap x b).n).length = (l.lost.take l.n).length := by
  have h1 : (l.swap x b).used = l.used.set x b := used_set (l := l.setLost (l.at_.getD x 0)) x b
  have h2 : (l.swap x b).lost.take (l.swap x b).n = (l.lost.take l.n).set y true := by
    rw [hy]
    exact take_set_le _ _ _ _
  exact ⟨h1, h2, by rw [h1, List.length_set], by rw [h2, List.length_set]⟩
set_option maxRecDepth 100000 in
set_option maxHeartbeats 8000000 in
theorem refSwap_yes (hR : RTL w lo hi m l) (hok : l.ok) (hat : ∀ z ∈ l.at_, z < l.n) (x b : Nat) (hx : x < l.n - 6) (hb : l.isSpare (b : Int) = true) : Calls Tryd.prog 50 #[.pointer (some ⟨m, 0, none⟩), .int .i64 (x : Int), .int .i64 (b : Int)] w fun e w' => e = .returned (.bool true) ∧ RTL w' lo hi m (l.swap x b) ∧ Chg w w' (fun k => lo ≤ k ∧ k < hi) := by
  have k1 := refSpare_any hR hok b
  rw [hb] at k1
  obtain ⟨⟨u, v, cu, cv, Eu, Ev, h1, hu, hv, huv, hum, hvm, hlu, hlv, hr⟩, hm, hh⟩ := hR
  have hlt := lost_take hok
  have hul := Lay.used_length hok
  have c0 := h1.cell 0
  have c1 := h1.cell 1
  simp only [List.getElem?_cons_zero, List.getElem?_cons_succ] at c0 c1
  rw [hlt] at c1
  have hn2 := hok.n2
  have hxu : x < l.used.length := by rw [hul]; exact hx
  have ey : l.used.getD x 0 = l.at_.getD x 0 := by
    unfold Lay.used
    rw [List.getD_eq_getElem?_getD, List.getD_eq_getElem?_getD, List.getElem?_take_of_lt hx]
  have cy := (hu.cell x).trans (used_at hxu Eu)
  have hyn : l.used.getD x 0 < l.n := by
    rw [ey, List.getD_eq_getElem?_getD, List.getElem?_eq_getElem (by rw [hok.a]; omega)]
    exact hat _ (List.getElem_mem _)
  obtain ⟨y, hy⟩ : ∃ y, y = l.used.getD x 0 := ⟨_, rfl⟩
  rw [← hy] at cy hyn ey
  obtain ⟨t1, t2, t3, t4⟩ := refSwap_tail (l := l) (b := b) ey
  have hvl : y < (l.lost.take l.n).length := by rw [hlt]; exact hyn
  have hset := bl_set (l.lost.take l.n) Ev hvl true
  have hset2 := iv_set l.used Eu hxu b
  have HB : Hid (y < (bl (l.lost.take l.n) ++ Ev).length) := Lib.hid (by rw [List.length_append, bl, List.length_map]; omega)
  have HU : Hid (x < (iv l.used ++ Eu).length) := Lib.hid (by rw [List.length_append, iv, List.length_map]; omega)
  have hy1 : (y : Int) < (l.n : Int) := by omega
  have hy0 : (0 : Int) ≤ (y : Int) := by omega
  have hx1 : (x : Int) < (l.used.length : Int) := by omega
  have hx0 : (0 : Int) ≤ (x : Int) := by omega
  have hn40 : (l.n : Int) ≤ 40 := by omega
  have hu34 : (l.used.length : Int) ≤ 34 := by omega
  have d1 : decide ((x : Int) < 0) = false := by simp
  have d2 : decide ((l.used.length : Int) ≤ (x : Int)) = false := by simp; omega
  have S2 : w.cell? ⟨m, 0, none⟩ = some (.slice (some ⟨u, 0, none⟩) l.used.length cu) ∧ w.cell? ⟨m, 1, none⟩ = some (.slice (some ⟨v, 0, none⟩) l.n cv) ∧ w.cell? ⟨u, x, none⟩ = some (.int .i64 (y : Int)) := ⟨c0, c1, cy⟩
  have HCV := Lib.hid ((hv.cell y).trans (lost_at hok hyn Ev))
  have HFZ := Lib.hid (hv.free y)
  have HT := Lib.hid (And.intro t1 (And.intro t2 (And.intro t3 t4)))
  clear hb hat ey hy t1 t2 t3 t4 cy
  go_enter Tryd.func50, Tryd.ntmps50
  go_wp2_with ((with_reducible refine k1.mono ?_); rintro e w' ⟨rfl, rfl⟩)
  refine wp_region_held_drew (S := (fun w' => w'.cell? ⟨m, 0, none⟩ = some (.slice (some ⟨u, 0, none⟩) l.used.length cu) ∧ w'.cell? ⟨m, 1, none⟩ = some (.slice (some ⟨v, 0, none⟩) l.n cv) ∧ w'.cell? ⟨u, x, none⟩ = some (.int .i64 (y : Int)))) (by kernel_rfl) S2 (fun _ => ?_)
  refine wpAnyH_take (i := 0) (v := .pointer (some ⟨m, 0, none⟩)) rfl (by kernel_rfl) (by kernel_rfl) (by kernel_rfl) (fun _ _ _ h => h) (Or.inl ⟨by kernel_rfl, fun w _ => by go_simp⟩) S2 ?_
  refine wpAnyH_take (i := 1) (v := .pointer (some ⟨m, 0, none⟩)) rfl (by kernel_rfl) (by kernel_rfl) (by kernel_rfl) (fun _ _ _ h => h) (Or.inl ⟨by kernel_rfl, fun w _ => by go_simp⟩) S2 ?_
  refine wpAnyH_take (i := 2) (v := .pointer (some ⟨m, 1, none⟩)) rfl (by kernel_rfl) (by kernel_rfl) (by kernel_rfl) (fun _ _ _ h => h) (Or.inl ⟨by kernel_rfl, fun w _ => by go_simp⟩) S2 ?_
  refine wpAnyH_take (i := 3) (v := .slice (some ⟨v, 0, none⟩) l.n cv) rfl (by kernel_rfl) (by kernel_rfl) (by kernel_rfl) (fun _ _ _ h => h) (yields_one (ty := 36) (fun w => by kernel_rfl) (.tmp 26) (by kernel_rfl) (by kernel_rfl) (by kernel_rfl) (fun _ h => h.2.1)) S2 ?_
  refine wpAnyH_take (i := 4) (v := .pointer (some ⟨m, 0, none⟩)) rfl (by kernel_rfl) (by kernel_rfl) (by kernel_rfl) (fun _ _ _ h => h) (Or.inl ⟨by kernel_rfl, fun w _ => by go_simp⟩) S2 ?_
  refine wpAnyH_take (i := 5) (v := .pointer (some ⟨m, 0, none⟩)) rfl (by kernel_rfl) (by kernel_rfl) (by kernel_rfl) (fun _ _ _ h => h) (Or.inl ⟨by kernel_rfl, fun w _ => by go_simp⟩) S2 ?_
  refine wpAnyH_take (i := 6) (v := .pointer (some ⟨m, 0, none⟩)) rfl (by kernel_rfl) (by kernel_rfl) (by kernel_rfl) (fun _ _ _ h => h) (Or.inl ⟨by kernel_rfl, fun w _ => by go_simp⟩) S2 ?_
  refine wpAnyH_take (i := 7) (v := .slice (some ⟨u, 0, none⟩) l.used.length cu) rfl (by kernel_rfl) (by kernel_rfl) (by kernel_rfl) (fun _ _ _ h => h) (yields_one (ty := 22) (fun w => by kernel_rfl) (.tmp 30) (by kernel_rfl) (by kernel_rfl) (by kernel_rfl) (fun _ h => h.1)) S2 ?_
  refine wpAnyH_take (i := 8) (v := .int .i64 (x : Int)) rfl (by kernel_rfl) (by kernel_rfl) (by kernel_rfl) (fun _ _ _ h => h) (Or.inl ⟨by kernel_rfl, fun w _ => by go_simp⟩) S2 ?_
  refine wpAnyH_take (i := 9) (v := .pointer (some ⟨u, x, none⟩)) rfl (by kernel_rfl) (by kernel_rfl) (by kernel_rfl) (fun _ _ _ h => h) (Or.inl ⟨by kernel_rfl, fun w _ => by go_simp⟩) S2 ?_
  refine wpAnyH_take (i := 10) (v := .int .i64 (y : Int)) rfl (by kernel_rfl) (by kernel_rfl) (by kernel_rfl) (fun _ _ _ h => h) (yields_one (ty := 3) (fun w => by kernel_rfl) (.tmp 33) (by kernel_rfl) (by kernel_rfl) (by kernel_rfl) (fun _ h => h.2.2)) S2 ?_
  refine wpAnyH_take (i := 11) (v := .pointer (some ⟨v, y, none⟩)) rfl (by kernel_rfl) (by kernel_rfl) (by kernel_rfl) (fun _ _ _ h => h) (Or.inl ⟨by kernel_rfl, fun w _ => by go_simp⟩) S2 ?_
  refine wpAnyH_ready (rs := [12]) (by kernel_rfl) (by simp) ?_
  with_reducible refine AllReadyH.cons rfl ?_ AllReadyH.nil
  intro K hK
  have cvy := HCV.out
  have fzy := HFZ.out
  go_simp
  have L5 : Blk (w.setCell ⟨v, y, none⟩ (.bool true)).drew v 4 ((bl (l.lost.take l.n) ++ Ev).set y (.bool true)) := (hv.set y (.bool true)).drew
  rw [hset] at L5
  have q5 : Chg w (w.setCell ⟨v, y, none⟩ (.bool true)).drew (fun k => k = v) := (chg_set w v y (.bool true)).trans (Chg.of_below (Below.refl (w.setCell ⟨v, y, none⟩ (.bool true)).heap.size _).drew)
  obtain ⟨w5, hw5⟩ : ∃ w5, w5 = (w.setCell ⟨v, y, none⟩ (.bool true)).drew := ⟨_, rfl⟩
  rw [← hw5] at L5 q5 ⊢
  clear cvy fzy hw5
  have S5 : w5.cell? ⟨m, 0, none⟩ = some (.slice (some ⟨u, 0, none⟩) l.used.length cu) ∧ w5.cell? ⟨m, 1, none⟩ = some (.slice (some ⟨v, 0, none⟩) l.n cv) ∧ w5.cell? ⟨u, x, none⟩ = some (.int .i64 (y : Int)) := by
    have e1 : ∀ i, w5.cell? ⟨m, i, none⟩ = w.cell? ⟨m, i, none⟩ := fun i => World.cell?_of_block (q5.block _ h1.lt (fun e => hvm e.symm))
    have e2 : ∀ i, w5.cell? ⟨u, i, none⟩ = w.cell? ⟨u, i, none⟩ := fun i => World.cell?_of_block (q5.block _ hu.lt huv)
    exact ⟨(e1 0).trans S2.1, (e1 1).trans S2.2.1, (e2 x).trans S2.2.2⟩
  refine hK.out _ _ S5 (fun _ => ?_)
  clear hK K
  refine wpAnyH_done (by kernel_rfl) ?_ _
  have c5 := S5.1
  have U5 := hu.chg q5 huv
  have M5 := h1.chg q5 (fun e => hvm e.symm)
  clear S2 S5 c0 c1 hu h1 hv hset
  go_wp2_with (with_reducible refine wpl_blk_int .i64 (b : Int) int_one (.tmp 42) (.tmp 41) rfl rfl U5 x HU.out rfl rfl _ hset2 ?_; intro w6 U6 g6 e6)
  go_ret
  have q6 : Chg w5 w6 (fun k => k = u) := Chg.of_grown g6 (fun k e => Option.some.inj e)
  obtain ⟨t1, t2, t3, t4⟩ := HT.out
  refine ⟨rfl, ⟨⟨u, v, cu, cv, Eu, Ev, ?_, ?_, ?_, huv, hum, hvm, hlu, hlv, ?_⟩, hm, Nat.le_trans hh (Nat.le_trans q5.size q6.size)⟩, (q5.more (fun k _ e => e ▸ hlv)).trans (q6.more (fun k _ e => e ▸ hlu))⟩
  · rw [t3, t4]
    exact M5.chg q6 (fun e => hum e.symm)
  · rw [t1]
    exact U6
  · rw [t2]
    exact L5.chg q6 (fun e => huv e.symm)
  · rw [t3, t4]
    exact hr
set_option maxRecDepth 100000 in
set_option maxHeartbeats 4000000 in
theorem refSwap_no (hR : RTL w lo hi m l) (hok : l.ok) (x b : Int) (hc : l.canSwap x b = false) : Calls Tryd.prog 50 #[.pointer (some ⟨m, 0, none⟩), .int .i64 x, .int .i64 b] w fun e w' => e = .returned (.bool false) ∧ w = w' := by
  have k1 := refSpare_any hR hok b
  obtain ⟨⟨u, v, cu, cv, Eu, Ev, h1, _⟩, _, _⟩ := hR
  have hul := Lay.used_length hok
  have c0 := h1.cell 0
  simp only [List.getElem?_cons_zero] at c0
  have hn2 := hok.n2
  rw [hul] at c0
  unfold Lay.canSwap at hc
  obtain ⟨k, hk⟩ : ∃ k, k = l.n - 6 := ⟨_, rfl⟩
  rw [← hk] at c0 hc
  have hk34 : k ≤ 34 := by omega
  clear h1 hul hk hok
  by_cases q1 : x < 0
  · have d1 : decide (x < 0) = true := by simp [q1]
    clear q1 hc k1
    go_enter Tryd.func50, Tryd.ntmps50
    go_wp2_with fail
    go_ret
    exact ⟨rfl, rfl⟩
  · have d1 : decide (x < 0) = false := by simp [q1]
    by_cases q2 : (k : Int) ≤ x
    · have d2 : decide ((k : Int) ≤ x) = true := by simp [q2]
      clear q1 q2 hc k1
      go_enter Tryd.func50, Tryd.ntmps50
      go_wp2_with fail
      go_ret
      exact ⟨rfl, rfl⟩
    · have d2 : decide ((k : Int) ≤ x) = false := by simp [q2]
      rw [decide_eq_true (show 0 ≤ x ∧ x < (k : Int) by omega), Bool.true_and] at hc
      rw [hc] at k1
      clear q1 q2 hc
      go_enter Tryd.func50, Tryd.ntmps50
      go_wp2_with ((with_reducible refine k1.mono ?_); rintro e w' ⟨rfl, rfl⟩)
      go_ret
      exact ⟨rfl, rfl⟩
end
end Go.Proofs.YtnemlbnmnijghaaDoor

/- The contract of the document's Copy. Condition: the table is there. -/
namespace Go.Proofs.YtnemlbnmnijghaaDoor
open Go.RowKit
theorem intTy : OneCell Tryd.prog 22 3 (.int .i64 0) 8 := OneCell.mk' Tryd.underlying22 (by kernel_rfl) (by decide)
theorem boolTy : OneCell Tryd.prog 36 4 (.bool false) 1 := OneCell.mk' Tryd.underlying36 (by kernel_rfl) (by decide)
theorem ownsRow_low {w : World} {b b' : Nat} {e : TypeId} {v : Value} {n : Nat} {xs : List Value} (h : w.ownsRow b e 1 v n xs) (hb : b' ≤ b) : w.ownsRow b' e 1 v n xs := by
  obtain ⟨h1, h2⟩ := h
  refine ⟨h1, ?_⟩
  rcases h2 with h2 | ⟨g, cap, cur, hv, hg, r⟩
  · exact .inl h2
  · exact .inr ⟨g, cap, cur, hv, Nat.le_trans hb hg, r⟩
theorem own_blk {w : World} {b n c : Nat} {e : TypeId} {A : Option Addr} {xs : List Value} (h : w.ownsRow b e 1 (.slice A n c) n xs) (hn : 0 < n) : ∃ g E, A = some ⟨g, 0, none⟩ ∧ b ≤ g ∧ g < w.heap.size ∧ Blk w g e (xs ++ E) ∧ n ≤ c ∧ c ≤ maxLen := by
  rcases h.2 with ⟨_, h0⟩ | ⟨g, cap, cur, hv, hg, hh, hc, hm, hs, ht⟩
  · omega
  · obtain ⟨rfl, _, rfl⟩ := Value.slice.inj hv
    have hlt : g < w.heap.size := by
      rcases Nat.lt_or_ge g w.heap.size with q | q
      · exact q
      · rw [Array.getElem?_eq_none q] at hh; cases hh
    refine ⟨g, cur.toList.drop (n * 1), rfl, hg, hlt, ?_, hc, hm⟩
    rw [← ht, List.take_append_drop]
    exact hh
/-- two lists of the call's own, made or not yet made -/
structure Pair2 (b : Nat) (w : World) (vU vV : Value) (xs ys : List Value) : Prop where
  U : w.ownsRow b 3 1 vU xs.length xs
  V : w.ownsRow b 4 1 vV ys.length ys
  ne : ∀ k, vU.ownBlock = some k → vV.ownBlock ≠ some k
theorem Pair2.start (b : Nat) (w : World) : Pair2 b w (.slice none 0 0) (.slice none 0 0) [] [] := ⟨World.ownsRow_nil w b _ 1, World.ownsRow_nil w b _ 1, fun k h => by cases h⟩
theorem Pair2.drew {b : Nat} {w : World} {vU vV : Value} {xs ys : List Value} (h : Pair2 b w vU vV xs ys) : Pair2 b w.drew vU vV xs ys := ⟨h.U, h.V, h.ne⟩
theorem Pair2.alloc {b : Nat} {w : World} {vU vV : Value} {xs ys : List Value} (h : Pair2 b w vU vV xs ys) (o : Obj) : Pair2 b (w.alloc o) vU vV xs ys := ⟨h.U.alloc o, h.V.alloc o, h.ne⟩
theorem Pair2.mkU {b : Nat} {w : World} {vV : Value} {ys : List Value} (h : Pair2 b w (.slice none 0 0) vV [] ys) (hb : b ≤ w.heap.size) : Pair2 b (w.alloc (.cells #[] 3)) (.slice (some ⟨w.heap.size, 0, none⟩) 0 0) vV [] ys :=
  ⟨ownsRow_low (World.ownsRow_made (size := 1) w #[] 0 (Nat.le_refl _) (by simp [maxLen]) (by simp)) hb, h.V.alloc _, fun k e q => by cases e; exact Nat.lt_irrefl _ (h.V.lt _ q).2⟩
theorem Pair2.mkV {b : Nat} {w : World} {vU : Value} {xs : List Value} (h : Pair2 b w vU (.slice none 0 0) xs []) (hb : b ≤ w.heap.size) : Pair2 b (w.alloc (.cells #[] 4)) vU (.slice (some ⟨w.heap.size, 0, none⟩) 0 0) xs [] :=
  ⟨h.U.alloc _, ownsRow_low (World.ownsRow_made (size := 1) w #[] 0 (Nat.le_refl _) (by simp [maxLen]) (by simp)) hb, fun k q e => by cases e; exact Nat.lt_irrefl _ (h.U.lt _ q).2⟩
theorem kept_ne {w w' : World} {b : Nat} {e : TypeId} {v v2 : Value} {n : Nat} {xs : List Value} (h : w.ownsRow b e 1 v n xs) (hg : w.grownBy w' v2.ownBlock) (hne : ∀ k, v.ownBlock = some k → v2.ownBlock ≠ some k) : w'.ownsRow b e 1 v n xs := by
  refine World.ownsRow.kept h hg ?_
  cases q : v.ownBlock with
  | none => exact .inl rfl
  | some k => exact .inr (fun e => hne k q e.symm)
section
variable {w : World} {b : Nat} {ops : Array Oper} {o : Oper} {a : Act} {K : Act → World → Prop} {Q : Exit → Act → World → Prop} {E : Prop} {vU vV : Value} {xs ys : List Value}
theorem row_blk {g : Nat} {t : TypeId} {zs Z : List Value} (h : Blk w g t (zs ++ Z)) : Row w w.heap.size (some ⟨g, 0, none⟩) zs := fun j u hu => by
  refine ⟨_, rfl, h.lt, ?_⟩
  rw [add_off, Nat.zero_add, h.cell j, List.getElem?_append_left (get_lt hu)]
  exact hu
theorem step_appU (hgd : Region.wanted o (yielded ops a.tmps) = true) (s x : Operand) (ho : o.op = .call { callee := .builtin .append, args := #[s, x], argTypes := #[22, 22] })
    (h : Pair2 b w vU vV [] ys) (hs : a.eval s = vU) {u cu : Nat} {Z : List Value} (hu : Blk w u 3 (xs ++ Z)) (hx : a.eval x = .slice (some ⟨u, 0, none⟩) xs.length cu) (h1 : ∀ u ∈ xs, u.oneCell' = true) (hl : xs.length ≤ 1000) (hb : b ≤ w.heap.size)
    (hk : ∀ A' c' w', Pair2 b w' (.slice A' xs.length c') vV xs ys → Below b w w' → K (a.put o.dst (.slice A' xs.length c')) w') : if Region.wanted o (yielded ops a.tmps) = true then Oper.wp Tryd.prog o a w K Q else E := by
  rw [if_pos hgd]
  obtain ⟨v', w', hrun, h2, h3, h4⟩ := run_append_row intTy o.type 0 (xs := []) h.U w.heap.size (some ⟨u, 0, none⟩) cu xs xs.length rfl (row_blk hu) h1 (by simp only [maxLen]; omega) (by omega) hb
  rw [Nat.zero_add, List.nil_append] at h2
  obtain ⟨A', c', rfl, _, _⟩ := ownsRow_shape h2
  unfold Oper.wp execOp
  simp only [ho, resolve, invoke, builtin, Sem.run_bind, Sem.run_pure, Result.andThen_ok, List.map_toArray, List.map_cons, List.map_nil, hs, hx, hrun]
  refine hk A' c' w' ⟨h2, kept_ne h.V h3 (fun k q e => h.ne k e q), fun k q e => ?_⟩ ⟨h3.os, h3.tape, h3.output, h3.size, fun k hk => h3.block k (by omega) (fun e => by have := (h.U.lt k e.symm).1; omega)⟩
  rcases h4 with h4 | h4
  · exact h.ne k (h4.symm.trans q) e
  · have : k = w.heap.size := Option.some.inj (q.symm.trans h4)
    have := (h.V.lt k e).2
    omega
theorem step_appV (hgd : Region.wanted o (yielded ops a.tmps) = true) (s x : Operand) (ho : o.op = .call { callee := .builtin .append, args := #[s, x], argTypes := #[36, 36] })
    (h : Pair2 b w vU vV xs []) (hs : a.eval s = vV) {u cu : Nat} {Z : List Value} (hu : Blk w u 4 (ys ++ Z)) (hx : a.eval x = .slice (some ⟨u, 0, none⟩) ys.length cu) (h1 : ∀ u ∈ ys, u.oneCell' = true) (hl : ys.length ≤ 1000) (hb : b ≤ w.heap.size)
    (hk : ∀ A' c' w', Pair2 b w' vU (.slice A' ys.length c') xs ys → Below b w w' → K (a.put o.dst (.slice A' ys.length c')) w') : if Region.wanted o (yielded ops a.tmps) = true then Oper.wp Tryd.prog o a w K Q else E := by
  rw [if_pos hgd]
  obtain ⟨v', w', hrun, h2, h3, h4⟩ := run_append_row boolTy o.type 0 (xs := []) h.V w.heap.size (some ⟨u, 0, none⟩) cu ys ys.length rfl (row_blk hu) h1 (by simp only [maxLen]; omega) (by omega) hb
  rw [Nat.zero_add, List.nil_append] at h2
  obtain ⟨A', c', rfl, _, _⟩ := ownsRow_shape h2
  unfold Oper.wp execOp
  simp only [ho, resolve, invoke, builtin, Sem.run_bind, Sem.run_pure, Result.andThen_ok, List.map_toArray, List.map_cons, List.map_nil, hs, hx, hrun]
  refine hk A' c' w' ⟨kept_ne h.U h3 h.ne, h2, fun k q e => ?_⟩ ⟨h3.os, h3.tape, h3.output, h3.size, fun k hk => h3.block k (by omega) (fun e => by have := (h.V.lt k e.symm).1; omega)⟩
  rcases h4 with h4 | h4
  · exact h.ne k q (h4.symm.trans e)
  · have : k = w.heap.size := Option.some.inj (e.symm.trans h4)
    have := (h.U.lt k q).2
    omega
end
theorem copy_end {w : World} {b nu nl cU cV : Nat} {AU AV : Option Addr} {us : List Nat} {ls : List Bool} (h1 : nu = us.length) (h2 : nl = ls.length) (e1 : (iv us).length = nu) (e2 : (bl ls).length = nl) (hp : 0 < nu ∧ 0 < nl) (h : Pair2 b w (.slice AU nu cU) (.slice AV nl cV) (iv us) (bl ls)) (hb : b ≤ w.heap.size) :
    RT (w.alloc (.cells #[.slice AU nu cU, .slice AV nl cV] 100)) b (w.alloc (.cells #[.slice AU nu cU, .slice AV nl cV] 100)).heap.size w.heap.size us ls := by
  have hU := h.U
  have hV := h.V
  rw [e1] at hU
  rw [e2] at hV
  obtain ⟨u, Eu, rfl, q1, q2, q3, q4, q5⟩ := own_blk hU hp.1
  obtain ⟨v, Ev, rfl, r1, r2, r3, r4, r5⟩ := own_blk hV hp.2
  have hs : (w.alloc (.cells #[.slice (some ⟨u, 0, none⟩) nu cU, .slice (some ⟨v, 0, none⟩) nl cV] 100)).heap.size = w.heap.size + 1 := by simp
  subst h1 h2
  refine ⟨⟨u, v, cU, cV, Eu, Ev, Blk.new w _ _, q3.alloc _, r3.alloc _, fun e => h.ne u rfl (by rw [e]; rfl), by omega, by omega, ⟨q1, by rw [hs]; omega⟩, ⟨r1, by rw [hs]; omega⟩, q4, q5, r4, r5⟩, ⟨hb, by rw [hs]; omega⟩, Nat.le_refl _⟩
section
variable {w : World} {lo hi m : Nat} {us : List Nat} {ls : List Bool}
set_option maxRecDepth 100000 in
set_option maxHeartbeats 16000000 in
theorem refCopy_any (hR : RT w lo hi m us ls) (hu1 : 0 < us.length) (hu2 : us.length ≤ 1000) (hl1 : 0 < ls.length) (hl2 : ls.length ≤ 1000) : Calls Tryd.prog 47 #[.pointer (some ⟨m, 0, none⟩)] w fun e w' => ∃ m', e = .returned (.pointer (some ⟨m', 0, none⟩)) ∧ RT w' w.heap.size w'.heap.size m' us ls ∧ Below w.heap.size w w' := by
  obtain ⟨⟨u, v, cu, cv, Eu, Ev, h1, hu, hv, huv, hum, hvm, hlu, hlv, hr⟩, hm, hh⟩ := hR
  have c0 := h1.cell 0
  have c1 := h1.cell 1
  simp only [List.getElem?_cons_zero, List.getElem?_cons_succ] at c0 c1
  obtain ⟨nu, hnu⟩ : ∃ nu, nu = us.length := ⟨_, rfl⟩
  obtain ⟨nl, hnl⟩ : ∃ nl, nl = ls.length := ⟨_, rfl⟩
  rw [← hnu] at c0
  rw [← hnl] at c1
  have e1 : (iv us).length = nu := by rw [hnu]; simp [iv]
  have e2 : (bl ls).length = nl := by rw [hnl]; simp [bl]
  have S2 : w.cell? ⟨m, 0, none⟩ = some (.slice (some ⟨u, 0, none⟩) nu cu) ∧ w.cell? ⟨m, 1, none⟩ = some (.slice (some ⟨v, 0, none⟩) nl cv) := ⟨c0, c1⟩
  have hml := h1.lt
  have HS : Hid (∀ X, Below w.heap.size w X → X.cell? ⟨m, 0, none⟩ = some (.slice (some ⟨u, 0, none⟩) nu cu) ∧ X.cell? ⟨m, 1, none⟩ = some (.slice (some ⟨v, 0, none⟩) nl cv)) := Lib.hid (fun X hb => ⟨(hb.cell hml).trans c0, (hb.cell hml).trans c1⟩)
  have HU := Lib.hid hu
  have HV := Lib.hid hv
  have o1 : Hid (∀ z ∈ iv us, z.oneCell' = true) := Lib.hid (fun z hz => by obtain ⟨_, _, rfl⟩ := List.mem_map.1 hz; rfl)
  have o2 : Hid (∀ z ∈ bl ls, z.oneCell' = true) := Lib.hid (fun z hz => by obtain ⟨_, _, rfl⟩ := List.mem_map.1 hz; rfl)
  have P0 := Lib.hid (Pair2.start w.heap.size w)
  have B0 : Hid (Below w.heap.size w w) := Lib.hid (Below.refl _ _)
  have HLN : Hid (nu ≤ 1000 ∧ nl ≤ 1000 ∧ 0 < nu ∧ 0 < nl) := Lib.hid ⟨by omega, by omega, by omega, by omega⟩
  have E1 := Lib.hid e1
  have E2 := Lib.hid e2
  have HNN := Lib.hid (And.intro hnu hnl)
  clear c0 c1 h1 hu hv huv hum hvm hlu hlv hr hm hh hml e1 e2 hnu hnl hu1 hu2 hl1 hl2
  go_enter Tryd.func47, Tryd.ntmps47
  go_wp2_with fail
  refine wp_region_held_drew (S := (fun w' => w'.cell? ⟨m, 0, none⟩ = some (.slice (some ⟨u, 0, none⟩) nu cu) ∧ w'.cell? ⟨m, 1, none⟩ = some (.slice (some ⟨v, 0, none⟩) nl cv))) (by kernel_rfl) S2 (fun _ => ?_)
  refine wpAnyH_take (i := 1) (v := .pointer (some ⟨m, 0, none⟩)) rfl (by kernel_rfl) (by kernel_rfl) (by kernel_rfl) (fun _ _ _ h => h) (Or.inl ⟨by kernel_rfl, fun w _ => by go_simp⟩) S2 ?_
  refine wpAnyH_take (i := 2) (v := .pointer (some ⟨m, 0, none⟩)) rfl (by kernel_rfl) (by kernel_rfl) (by kernel_rfl) (fun _ _ _ h => h) (Or.inl ⟨by kernel_rfl, fun w _ => by go_simp⟩) S2 ?_
  refine wpAnyH_take (i := 3) (v := .pointer (some ⟨m, 0, none⟩)) rfl (by kernel_rfl) (by kernel_rfl) (by kernel_rfl) (fun _ _ _ h => h) (Or.inl ⟨by kernel_rfl, fun w _ => by go_simp⟩) S2 ?_
  refine wpAnyH_take (i := 4) (v := .slice (some ⟨u, 0, none⟩) nu cu) rfl (by kernel_rfl) (by kernel_rfl) (by kernel_rfl) (fun _ _ _ h => h) (yields_one (ty := 22) (fun w => by kernel_rfl) (.tmp 6) (by kernel_rfl) (by kernel_rfl) (by kernel_rfl) (fun _ h => h.1)) S2 ?_
  refine wpAnyH_take (i := 7) (v := .pointer (some ⟨m, 0, none⟩)) rfl (by kernel_rfl) (by kernel_rfl) (by kernel_rfl) (fun _ _ _ h => h) (Or.inl ⟨by kernel_rfl, fun w _ => by go_simp⟩) S2 ?_
  refine wpAnyH_take (i := 8) (v := .pointer (some ⟨m, 0, none⟩)) rfl (by kernel_rfl) (by kernel_rfl) (by kernel_rfl) (fun _ _ _ h => h) (Or.inl ⟨by kernel_rfl, fun w _ => by go_simp⟩) S2 ?_
  refine wpAnyH_take (i := 9) (v := .pointer (some ⟨m, 1, none⟩)) rfl (by kernel_rfl) (by kernel_rfl) (by kernel_rfl) (fun _ _ _ h => h) (Or.inl ⟨by kernel_rfl, fun w _ => by go_simp⟩) S2 ?_
  refine wpAnyH_take (i := 10) (v := .slice (some ⟨v, 0, none⟩) nl cv) rfl (by kernel_rfl) (by kernel_rfl) (by kernel_rfl) (fun _ _ _ h => h) (yields_one (ty := 36) (fun w => by kernel_rfl) (.tmp 12) (by kernel_rfl) (by kernel_rfl) (by kernel_rfl) (fun _ h => h.2)) S2 ?_
  refine wpAnyH_ready (rs := [0, 6]) (by kernel_rfl) (by simp) ?_
  with_reducible refine AllReadyH.cons rfl ?_ (AllReadyH.cons rfl ?_ (AllReadyH.nil))
  · intro K hK
    have P1 := Lib.hid (P0.out.mkU B0.out.size).drew
    have B1 := Lib.hid (B0.out.alloc B0.out.size (.cells #[] 3)).drew
    go_simp
    obtain ⟨w1, hw1⟩ : ∃ w1, w1 = (w.alloc (.cells #[] 3)).drew := ⟨_, rfl⟩
    rw [← hw1] at P1 B1 ⊢
    clear hw1
    have S1 := HS.out _ B1.out
    refine hK.out _ _ S1 (fun _ => ?_)
    clear hK K
    refine wpAnyH_ready (rs := [5, 6]) (by kernel_rfl) (by simp) ?_
    with_reducible refine AllReadyH.cons rfl ?_ (AllReadyH.cons rfl ?_ (AllReadyH.nil))
    · intro K hK
      refine step_appU (by rfl) (.tmp 3) (.tmp 7) rfl P1.out rfl (HU.out.after B1.out) (by rw [E1.out]; rfl) o1.out (by rw [E1.out]; have := HLN.out; omega) B1.out.size ?_
      intro A2 c2 w2 p2 b2
      rw [E1.out] at p2
      have P2 := Lib.hid p2
      have B2 := Lib.hid (B1.out.trans b2)
      rw [E1.out]
      have S2 := HS.out _ B2.out
      refine hK.out _ _ S2 (fun _ => ?_)
      clear hK K
      refine wpAnyH_ready (rs := [6]) (by kernel_rfl) (by simp) ?_
      with_reducible refine AllReadyH.cons rfl ?_ (AllReadyH.nil)
      intro K hK
      have P3 := Lib.hid (P2.out.mkV B2.out.size)
      have B3 := Lib.hid (B2.out.alloc B2.out.size (.cells #[] 4))
      go_simp
      obtain ⟨w3, hw3⟩ : ∃ w3, w3 = w2.alloc (.cells #[] 4) := ⟨_, rfl⟩
      rw [← hw3] at P3 B3 ⊢
      clear hw3
      have S3 := HS.out _ B3.out
      refine hK.out _ _ S3 (fun _ => ?_)
      clear hK K
      refine wpAnyH_ready (rs := [11]) (by kernel_rfl) (by simp) ?_
      with_reducible refine AllReadyH.cons rfl ?_ (AllReadyH.nil)
      intro K hK
      refine step_appV (by rfl) (.tmp 9) (.tmp 13) rfl P3.out rfl (HV.out.after B3.out) (by rw [E2.out]; rfl) o2.out (by rw [E2.out]; have := HLN.out; omega) B3.out.size ?_
      intro A4 c4 w4 p4 b4
      rw [E2.out] at p4
      have P4 := Lib.hid p4
      have B4 := Lib.hid (B3.out.trans b4)
      rw [E2.out]
      have S4 := HS.out _ B4.out
      refine hK.out _ _ S4 (fun _ => ?_)
      clear hK K
      refine wpAnyH_take (i := 12) (v := .agg #[.slice A2 nu c2, .slice A4 nl c4]) rfl (by kernel_rfl) (by kernel_rfl) (by kernel_rfl) (fun _ _ _ h => h) (Or.inl ⟨by kernel_rfl, fun w _ => by go_simp⟩) S4 ?_
      refine wpAnyH_ready (rs := [13]) (by kernel_rfl) (by simp) ?_
      with_reducible refine AllReadyH.cons rfl ?_ AllReadyH.nil
      intro K hK
      have RF := Lib.hid (copy_end HNN.out.1 HNN.out.2 E1.out E2.out HLN.out.2.2 P4.out B4.out.size)
      have BF := Lib.hid (B4.out.alloc B4.out.size (.cells #[.slice A2 nu c2, .slice A4 nl c4] 100))
      go_simp
      obtain ⟨wF, hwF⟩ : ∃ wF, wF = w4.alloc (.cells #[.slice A2 nu c2, .slice A4 nl c4] 100) := ⟨_, rfl⟩
      rw [← hwF] at RF BF ⊢
      clear hwF
      have SF := HS.out _ BF.out
      refine hK.out _ _ SF (fun _ => ?_)
      clear hK K
      refine wpAnyH_take (i := 14) (v := .pointer (some ⟨w4.heap.size, 0, none⟩)) rfl (by kernel_rfl) (by kernel_rfl) (by kernel_rfl) (fun _ _ _ h => h) (Or.inl ⟨by kernel_rfl, fun w _ => by go_simp⟩) SF ?_
      refine wpAnyH_done (by kernel_rfl) ?_ _
      go_wp2_with fail
      go_ret
      exact ⟨w4.heap.size, rfl, RF.out, BF.out⟩
    · intro K hK
      have P5 := Lib.hid (P1.out.mkV B1.out.size)
      have B5 := Lib.hid (B1.out.alloc B1.out.size (.cells #[] 4))
      go_simp
      obtain ⟨w5, hw5⟩ : ∃ w5, w5 = w1.alloc (.cells #[] 4) := ⟨_, rfl⟩
      rw [← hw5] at P5 B5 ⊢
      clear hw5
      have S5 := HS.out _ B5.out
      refine hK.out _ _ S5 (fun _ => ?_)
      clear hK K
      refine wpAnyH_ready (rs := [5]) (by kernel_rfl) (by simp) ?_
      with_reducible refine AllReadyH.cons rfl ?_ (AllReadyH.nil)
      intro K hK
      refine step_appU (by rfl) (.tmp 3) (.tmp 7) rfl P5.out rfl (HU.out.after B5.out) (by rw [E1.out]; rfl) o1.out (by rw [E1.out]; have := HLN.out; omega) B5.out.size ?_
      intro A6 c6 w6 p6 b6
      rw [E1.out] at p6
      have P6 := Lib.hid p6
      have B6 := Lib.hid (B5.out.trans b6)
      rw [E1.out]
      have S6 := HS.out _ B6.out
      refine hK.out _ _ S6 (fun _ => ?_)
      clear hK K
      refine wpAnyH_ready (rs := [11]) (by kernel_rfl) (by simp) ?_
      with_reducible refine AllReadyH.cons rfl ?_ (AllReadyH.nil)
      intro K hK
      refine step_appV (by rfl) (.tmp 9) (.tmp 13) rfl P6.out rfl (HV.out.after B6.out) (by rw [E2.out]; rfl) o2.out (by rw [E2.out]; have := HLN.out; omega) B6.out.size ?_
      intro A7 c7 w7 p7 b7
      rw [E2.out] at p7
      have P7 := Lib.hid p7
      have B7 := Lib.hid (B6.out.trans b7)
      rw [E2.out]
      have S7 := HS.out _ B7.out
      refine hK.out _ _ S7 (fun _ => ?_)
      clear hK K
      refine wpAnyH_take (i := 12) (v := .agg #[.slice A6 nu c6, .slice A7 nl c7]) rfl (by kernel_rfl) (by kernel_rfl) (by kernel_rfl) (fun _ _ _ h => h) (Or.inl ⟨by kernel_rfl, fun w _ => by go_simp⟩) S7 ?_
      refine wpAnyH_ready (rs := [13]) (by kernel_rfl) (by simp) ?_
      with_reducible refine AllReadyH.cons rfl ?_ AllReadyH.nil
      intro K hK
      have RF := Lib.hid (copy_end HNN.out.1 HNN.out.2 E1.out E2.out HLN.out.2.2 P7.out B7.out.size)
      have BF := Lib.hid (B7.out.alloc B7.out.size (.cells #[.slice A6 nu c6, .slice A7 nl c7] 100))
      go_simp
      obtain ⟨wF, hwF⟩ : ∃ wF, wF = w7.alloc (.cells #[.slice A6 nu c6, .slice A7 nl c7] 100) := ⟨_, rfl⟩
      rw [← hwF] at RF BF ⊢
      clear hwF
      have SF := HS.out _ BF.out
      refine hK.out _ _ SF (fun _ => ?_)
      clear hK K
      refine wpAnyH_take (i := 14) (v := .pointer (some ⟨w7.heap.size, 0, none⟩)) rfl (by kernel_rfl) (by kernel_rfl) (by kernel_rfl) (fun _ _ _ h => h) (Or.inl ⟨by kernel_rfl, fun w _ => by go_simp⟩) SF ?_
      refine wpAnyH_done (by kernel_rfl) ?_ _
      go_wp2_with fail
      go_ret
      exact ⟨w7.heap.size, rfl, RF.out, BF.out⟩
  · intro K hK
    have P8 := Lib.hid (P0.out.mkV B0.out.size).drew
    have B8 := Lib.hid (B0.out.alloc B0.out.size (.cells #[] 4)).drew
    go_simp
    obtain ⟨w8, hw8⟩ : ∃ w8, w8 = (w.alloc (.cells #[] 4)).drew := ⟨_, rfl⟩
    rw [← hw8] at P8 B8 ⊢
    clear hw8
    have S8 := HS.out _ B8.out
    refine hK.out _ _ S8 (fun _ => ?_)
    clear hK K
    refine wpAnyH_ready (rs := [0]) (by kernel_rfl) (by simp) ?_
    with_reducible refine AllReadyH.cons rfl ?_ (AllReadyH.nil)
    intro K hK
    have P9 := Lib.hid (P8.out.mkU B8.out.size)
    have B9 := Lib.hid (B8.out.alloc B8.out.size (.cells #[] 3))
    go_simp
    obtain ⟨w9, hw9⟩ : ∃ w9, w9 = w8.alloc (.cells #[] 3) := ⟨_, rfl⟩
    rw [← hw9] at P9 B9 ⊢
    clear hw9
    have S9 := HS.out _ B9.out
    refine hK.out _ _ S9 (fun _ => ?_)
    clear hK K
    refine wpAnyH_ready (rs := [5]) (by kernel_rfl) (by simp) ?_
    with_reducible refine AllReadyH.cons rfl ?_ (AllReadyH.nil)
    intro K hK
    refine step_appU (by rfl) (.tmp 3) (.tmp 7) rfl P9.out rfl (HU.out.after B9.out) (by rw [E1.out]; rfl) o1.out (by rw [E1.out]; have := HLN.out; omega) B9.out.size ?_
    intro A10 c10 w10 p10 b10
    rw [E1.out] at p10
    have P10 := Lib.hid p10
    have B10 := Lib.hid (B9.out.trans b10)
    rw [E1.out]
    have S10 := HS.out _ B10.out
    refine hK.out _ _ S10 (fun _ => ?_)
    clear hK K
    refine wpAnyH_ready (rs := [11]) (by kernel_rfl) (by simp) ?_
    with_reducible refine AllReadyH.cons rfl ?_ (AllReadyH.nil)
    intro K hK
    refine step_appV (by rfl) (.tmp 9) (.tmp 13) rfl P10.out rfl (HV.out.after B10.out) (by rw [E2.out]; rfl) o2.out (by rw [E2.out]; have := HLN.out; omega) B10.out.size ?_
    intro A11 c11 w11 p11 b11
    rw [E2.out] at p11
    have P11 := Lib.hid p11
    have B11 := Lib.hid (B10.out.trans b11)
    rw [E2.out]
    have S11 := HS.out _ B11.out
    refine hK.out _ _ S11 (fun _ => ?_)
    clear hK K
    refine wpAnyH_take (i := 12) (v := .agg #[.slice A10 nu c10, .slice A11 nl c11]) rfl (by kernel_rfl) (by kernel_rfl) (by kernel_rfl) (fun _ _ _ h => h) (Or.inl ⟨by kernel_rfl, fun w _ => by go_simp⟩) S11 ?_
    refine wpAnyH_ready (rs := [13]) (by kernel_rfl) (by simp) ?_
    with_reducible refine AllReadyH.cons rfl ?_ AllReadyH.nil
    intro K hK
    have RF := Lib.hid (copy_end HNN.out.1 HNN.out.2 E1.out E2.out HLN.out.2.2 P11.out B11.out.size)
    have BF := Lib.hid (B11.out.alloc B11.out.size (.cells #[.slice A10 nu c10, .slice A11 nl c11] 100))
    go_simp
    obtain ⟨wF, hwF⟩ : ∃ wF, wF = w11.alloc (.cells #[.slice A10 nu c10, .slice A11 nl c11] 100) := ⟨_, rfl⟩
    rw [← hwF] at RF BF ⊢
    clear hwF
    have SF := HS.out _ BF.out
    refine hK.out _ _ SF (fun _ => ?_)
    clear hK K
    refine wpAnyH_take (i := 14) (v := .pointer (some ⟨w11.heap.size, 0, none⟩)) rfl (by kernel_rfl) (by kernel_rfl) (by kernel_rfl) (fun _ _ _ h => h) (Or.inl ⟨by kernel_rfl, fun w _ => by go_simp⟩) SF ?_
    refine wpAnyH_done (by kernel_rfl) ?_ _
    go_wp2_with fail
    go_ret
    exact ⟨w11.heap.size, rfl, RF.out, BF.out⟩
end
end Go.Proofs.YtnemlbnmnijghaaDoor

/- The contract of the laws' step: the document's table behind a call. Condition: the table is there, and its layout good. -/
namespace Go.Proofs.YtnemlbnmnijghaaDoor
open Go.RowKit
/-- the block that a call speaks of -/
def Op5.blk (o : Op5) (l : Lay) : Int := if o.least then max l.first 0 else o.b
/-- may the call be done? -/
def Lay.can (l : Lay) (o : Op5) (b : Int) : Bool := if o.lose then l.isSpare b else l.canSwap o.l b
/-- the layout behind the call, if it may be done -/
def Lay.next (l : Lay) (o : Op5) (b : Int) : Lay := if l.can o b then (if o.lose then l.setLost b.toNat else l.swap o.l.toNat b.toNat) else l
theorem good_next {l : Lay} (h : l.good) (o : Op5) (b : Int) : (l.next o b).good ∧ (l.next o b).n = l.n := by
  unfold Lay.next Lay.can
  by_cases hl : o.lose = true
  · rw [if_pos hl, if_pos hl]
    by_cases hc : l.isSpare b = true
    · rw [if_pos hc]
      obtain ⟨q1, q2⟩ := Lay.isSpare_lt hc
      obtain ⟨m, rfl⟩ : ∃ m : Nat, b = m := ⟨b.toNat, by omega⟩
      rw [Int.toNat_natCast]
      exact ⟨h.lose hc, rfl⟩
    · rw [if_neg hc]
      exact ⟨h, rfl⟩
  · rw [if_neg hl, if_neg hl]
    by_cases hc : l.canSwap o.l b = true
    · rw [if_pos hc]
      unfold Lay.canSwap at hc
      rw [Bool.and_eq_true, decide_eq_true_eq] at hc
      obtain ⟨⟨x0, x1⟩, hb⟩ := hc
      obtain ⟨q1, q2⟩ := Lay.isSpare_lt hb
      obtain ⟨m, rfl⟩ : ∃ m : Nat, b = m := ⟨b.toNat, by omega⟩
      rw [Int.toNat_natCast]
      exact ⟨h.swap (by omega) hb, rfl⟩
    · rw [if_neg hc]
      exact ⟨h, rfl⟩
section
variable {w : World} {lo hi m : Nat} {l : Lay}
/-- the document's call on a table of its own -/
theorem refAct_lose (hR : RTL w lo hi m l) (hg : l.good) (o : Op5) (hl : o.lose = true) (b : Int) : Calls Tryd.prog 49 #[.pointer (some ⟨m, 0, none⟩), .int .i64 b] w fun e w' => e = .returned (.bool (l.can o b)) ∧ RTL w' lo hi m (l.next o b) ∧ Chg w w' (fun k => lo ≤ k ∧ k < hi) := by
  unfold Lay.next Lay.can
  rw [if_pos hl]
  by_cases hb : l.isSpare b = true
  · rw [if_pos hb, if_pos hl, hb]
    obtain ⟨q1, q2⟩ := Lay.isSpare_lt hb
    obtain ⟨m, rfl⟩ : ∃ m : Nat, b = m := ⟨b.toNat, by omega⟩
    rw [Int.toNat_natCast]
    exact refLose_yes hR hg.ok m hb
  · have hb' : l.isSpare b = false := by simpa using hb
    rw [if_neg hb, hb']
    refine (refLose_no hR hg.ok b hb').mono ?_
    rintro e w' ⟨rfl, rfl⟩
    exact ⟨rfl, hR, Chg.refl _ _⟩
theorem refAct_swap (hR : RTL w lo hi m l) (hg : l.good) (o : Op5) (hl : o.lose = false) (b : Int) : Calls Tryd.prog 50 #[.pointer (some ⟨m, 0, none⟩), .int .i64 o.l, .int .i64 b] w fun e w' => e = .returned (.bool (l.can o b)) ∧ RTL w' lo hi m (l.next o b) ∧ Chg w w' (fun k => lo ≤ k ∧ k < hi) := by
  have hl' : ¬ o.lose = true := by rw [hl]; decide
  unfold Lay.next Lay.can
  rw [if_neg hl']
  by_cases hb : l.canSwap o.l b = true
  · rw [if_pos hb, if_neg hl', hb]
    have hc := hb
    unfold Lay.canSwap at hc
    rw [Bool.and_eq_true, decide_eq_true_eq] at hc
    obtain ⟨⟨x0, x1⟩, hs⟩ := hc
    obtain ⟨q1, q2⟩ := Lay.isSpare_lt hs
    obtain ⟨m, rfl⟩ : ∃ m : Nat, b = m := ⟨b.toNat, by omega⟩
    obtain ⟨x, hx⟩ : ∃ x : Nat, o.l = x := ⟨o.l.toNat, by omega⟩
    rw [hx] at x0 x1 ⊢
    rw [Int.toNat_natCast, Int.toNat_natCast]
    refine refSwap_yes hR hg.ok (fun z hz => ?_) x m (by omega) hs
    rw [← List.take_append_drop (l.n - 6) l.at_] at hz
    rcases List.mem_append.1 hz with hz | hz
    · exact (hg.inn z hz).2.1
    · rw [hg.rest] at hz
      have := List.eq_of_mem_replicate hz
      have := hg.ok.n1
      omega
  · have hb' : l.canSwap o.l b = false := by simpa using hb
    rw [if_neg hb, hb']
    refine (refSwap_no hR hg.ok o.l b hb').mono ?_
    rintro e w' ⟨rfl, rfl⟩
    exact ⟨rfl, hR, Chg.refl _ _⟩
set_option maxRecDepth 100000 in
set_option maxHeartbeats 16000000 in
theorem bstep_any (hR : RTL w lo hi m l) (hg : l.good) (o : Op5) : Calls Tryd.prog 18 #[.pointer (some ⟨m, 0, none⟩), .agg o.row.toArray] w fun e w' => ∃ m' lo', e = .returned (.tuple #[.int .i64 (o.blk l), .pointer (some ⟨m', 0, none⟩), .bool (l.can o (o.blk l))]) ∧ w.heap.size ≤ lo' ∧ RTL w' lo' w'.heap.size m' (l.next o (o.blk l)) ∧ Below w.heap.size w w' := by
  have hb0 : Below w.heap.size w (w.alloc (.cells o.row.toArray 39)) := (Below.refl _ _).alloc (Nat.le_refl _) _
  have O0 := Blk.new w 39 o.row
  have HO : Hid (∀ X, Blk X w.heap.size 39 o.row → X.cell? ⟨w.heap.size, 0, none⟩ = some (.int .i64 o.k) ∧ X.cell? ⟨w.heap.size, 1, none⟩ = some (.int .i64 o.l) ∧ X.cell? ⟨w.heap.size, 2, none⟩ = some (.int .i64 o.b) ∧ X.cell? ⟨w.heap.size, 3, none⟩ = some (.bool o.least)) := Lib.hid (fun X hX => ⟨hX.cell 0, hX.cell 1, hX.cell 2, hX.cell 3⟩)
  have R0 := Lib.hid (hR.after hb0)
  have HB := Lib.hid hb0
  have HG := Lib.hid hg
  have hll := lost_take hg.ok
  have hul := Lay.used_length hg.ok
  have HN : Hid (0 < l.used.length ∧ l.used.length ≤ 1000 ∧ 0 < (l.lost.take l.n).length ∧ (l.lost.take l.n).length ≤ 1000) := Lib.hid (by have := hg.ok.n1; have := hg.ok.n2; omega)
  obtain ⟨ls, hls⟩ : ∃ ls, ls = o.least := ⟨_, rfl⟩
  have S0 : (w.alloc (.cells o.row.toArray 39)).cell? ⟨w.heap.size, 2, none⟩ = some (.int .i64 o.b) := (HO.out _ O0).2.2.1
  have HO0 := Lib.hid O0
  have HLS := Lib.hid hls
  clear hb0 O0 hR hg hll hul hls
  go_enter Tryd.func18, Tryd.ntmps18
  go_wp2_with fail
  refine wp_region_held_drew (S := (fun w' => w'.cell? ⟨w.heap.size, 2, none⟩ = some (.int .i64 o.b))) (by kernel_rfl) S0 (fun _ => ?_)
  refine wpAnyH_take (i := 0) (v := .pointer (some ⟨w.heap.size, 2, none⟩)) rfl (by kernel_rfl) (by kernel_rfl) (by kernel_rfl) (fun _ _ _ h => h) (Or.inl ⟨by kernel_rfl, fun w _ => by go_simp⟩) S0 ?_
  refine wpAnyH_take (i := 1) (v := .int .i64 o.b) rfl (by kernel_rfl) (by kernel_rfl) (by kernel_rfl) (fun _ _ _ h => h) (yields_one (ty := 3) (fun w => by kernel_rfl) (.tmp 9) (by kernel_rfl) (by kernel_rfl) (by kernel_rfl) (fun _ h => h)) S0 ?_
  refine wpAnyH_take (i := 2) (v := .pointer (some ⟨m, 0, none⟩)) rfl (by kernel_rfl) (by kernel_rfl) (by kernel_rfl) (fun _ _ _ h => h) (Or.inl ⟨by kernel_rfl, fun w _ => by go_simp⟩) S0 ?_
  refine wpAnyH_ready (rs := [3]) (by kernel_rfl) (by simp) ?_
  with_reducible refine AllReadyH.cons rfl ?_ AllReadyH.nil
  intro K hK
  have W0 : Hid (RTL (w.alloc (.cells o.row.toArray 39)).drew lo hi m l) := Lib.hid (R0.out.after (Below.refl _ _).drew)
  have k3 := refCopy_any W0.out HN.out.1 HN.out.2.1 HN.out.2.2.1 HN.out.2.2.2
  go_simp
  refine k3.mono ?_
  rintro e w3 ⟨m', rfl, R3, b3⟩
  have B0d : Below w.heap.size w (w.alloc (.cells o.row.toArray 39)).drew := HB.out.drew
  have B3 : Below w.heap.size w w3 := B0d.trans (b3.mono B0d.size)
  have O3 : Blk w3 w.heap.size 39 o.row := (show Blk (w.alloc (.cells o.row.toArray 39)).drew w.heap.size _ _ from HO0.out).after b3
  have S3 : w3.cell? ⟨w.heap.size, 2, none⟩ = some (.int .i64 o.b) := (HO.out _ O3).2.2.1
  have HR3 : Hid (RTL w3 (w.heap.size + 1) w3.heap.size m' l ∧ RTL w3 lo hi m l) := Lib.hid ⟨by
    have h := R3
    have e : (w.alloc (.cells o.row.toArray 39)).drew.heap.size = w.heap.size + 1 := by show (w.alloc _).heap.size = _; simp
    rw [e] at h
    exact h, W0.out.after b3⟩
  have HB3 := Lib.hid B3
  have HO3 := Lib.hid O3
  refine hK.out _ _ S3 (fun _ => ?_)
  clear hK K k3 W0 b3 B0d B3 O3 R3 S0 HO0 R0 HB
  refine wpAnyH_take (i := 4) (v := .int .i64 o.b) rfl (by kernel_rfl) (by kernel_rfl) (by kernel_rfl) (fun _ _ _ h => h) (Or.inl ⟨by kernel_rfl, fun w _ => by go_simp⟩) S3 ?_
  refine wpAnyH_take (i := 5) (v := .pointer (some ⟨m', 0, none⟩)) rfl (by kernel_rfl) (by kernel_rfl) (by kernel_rfl) (fun _ _ _ h => h) (Or.inl ⟨by kernel_rfl, fun w _ => by go_simp⟩) S3 ?_
  refine wpAnyH_done (by kernel_rfl) ?_ _
  obtain ⟨c0, c1, c2, c3⟩ := HO.out _ HO3.out
  rw [← HLS.out] at c3
  have kF := refFirst_any HR3.out.2 HG.out.ok
  have HE : Hid (o.blk l = if ls then max l.first 0 else o.b) := Lib.hid (by unfold Op5.blk; rw [HLS.out])
  obtain ⟨d, hd⟩ : ∃ d, d = o.lose := ⟨_, rfl⟩
  have d1 : (bits .and .i64 o.k 1 == 0) = d := hd.symm
  have HD := Lib.hid hd
  have HR3' := Lib.hid HR3.out.1
  clear S3 HLS HO HN c2 hd
  have HEND : Hid (∀ W4 c, RTL W4 (w.heap.size + 1) w3.heap.size m' (l.next o (o.blk l)) → Chg w3 W4 c → (∀ k, c k → w.heap.size + 1 ≤ k) → ∃ lo', w.heap.size ≤ lo' ∧ RTL W4 lo' W4.heap.size m' (l.next o (o.blk l)) ∧ Below w.heap.size w W4) := Lib.hid (fun W4 c R q hc => ⟨w.heap.size + 1, Nat.le_succ _, ⟨by
    obtain ⟨u, v, cu, cv, Eu, Ev, h1, hu, hv, huv, hum, hvm, hlu, hlv, hr⟩ := R.parts
    exact ⟨u, v, cu, cv, Eu, Ev, h1, hu, hv, huv, hum, hvm, ⟨hlu.1, Nat.lt_of_lt_of_le hlu.2 q.size⟩, ⟨hlv.1, Nat.lt_of_lt_of_le hlv.2 q.size⟩, hr⟩, ⟨R.m.1, Nat.lt_of_lt_of_le R.m.2 q.size⟩, Nat.le_refl _⟩, HB3.out.trans (q.below (fun k h => Nat.le_trans (Nat.le_succ _) (hc k h)) HB3.out.size)⟩)
  cases ls with
  | true =>
    cases hsp : l.spare with
    | none =>
      have hf : l.first = -1 := by unfold Lay.first; rw [hsp]; rfl
      have he : o.blk l = 0 := by rw [HE.out, if_pos rfl, hf]; rfl
      rw [hf] at kF
      clear hsp hf
      rw [he] at HEND
      cases d with
      | true =>
        have kA := refAct_lose HR3'.out HG.out o HD.out.symm 0
        go_wp2_with (first
          | ((with_reducible refine kF.mono ?_); rintro e w' ⟨rfl, rfl⟩)
          | ((with_reducible refine kA.mono ?_); rintro e w4 ⟨rfl, R4, c4⟩))
        refine bodyPost_ret (results_tmp3 rfl _ _ _) rfl ?_
        rw [he]
        obtain ⟨lo', q1, q2, q3⟩ := HEND.out _ _ R4 c4 (fun k h => h.1)
        exact ⟨m', lo', rfl, q1, q2, q3⟩
      | false =>
        have kA := refAct_swap HR3'.out HG.out o HD.out.symm 0
        go_wp2_with (first
          | ((with_reducible refine kF.mono ?_); rintro e w' ⟨rfl, rfl⟩)
          | ((with_reducible refine kA.mono ?_); rintro e w4 ⟨rfl, R4, c4⟩))
        refine bodyPost_ret (results_tmp3 rfl _ _ _) rfl ?_
        rw [he]
        obtain ⟨lo', q1, q2, q3⟩ := HEND.out _ _ R4 c4 (fun k h => h.1)
        exact ⟨m', lo', rfl, q1, q2, q3⟩
    | some b =>
      have hf : l.first = (b : Int) := by unfold Lay.first; rw [hsp]; rfl
      have he : o.blk l = (b : Int) := by rw [HE.out, if_pos rfl, hf]; omega
      rw [hf] at kF
      have hmx : max (b : Int) 0 = (b : Int) := by omega
      clear hsp hf
      rw [he] at HEND
      cases d with
      | true =>
        have kA := refAct_lose HR3'.out HG.out o HD.out.symm (b : Int)
        go_wp2_with (first
          | ((with_reducible refine kF.mono ?_); rintro e w' ⟨rfl, rfl⟩)
          | ((with_reducible refine kA.mono ?_); rintro e w4 ⟨rfl, R4, c4⟩))
        refine bodyPost_ret (results_tmp3 rfl _ _ _) rfl ?_
        rw [he]
        obtain ⟨lo', q1, q2, q3⟩ := HEND.out _ _ R4 c4 (fun k h => h.1)
        exact ⟨m', lo', rfl, q1, q2, q3⟩
      | false =>
        have kA := refAct_swap HR3'.out HG.out o HD.out.symm (b : Int)
        go_wp2_with (first
          | ((with_reducible refine kF.mono ?_); rintro e w' ⟨rfl, rfl⟩)
          | ((with_reducible refine kA.mono ?_); rintro e w4 ⟨rfl, R4, c4⟩))
        refine bodyPost_ret (results_tmp3 rfl _ _ _) rfl ?_
        rw [he]
        obtain ⟨lo', q1, q2, q3⟩ := HEND.out _ _ R4 c4 (fun k h => h.1)
        exact ⟨m', lo', rfl, q1, q2, q3⟩
  | false =>
    have he : o.blk l = o.b := HE.out
    rw [he] at HEND
    cases d with
    | true =>
      have kA := refAct_lose HR3'.out HG.out o HD.out.symm o.b
      go_wp2_with (first
        | ((with_reducible refine kF.mono ?_); rintro e w' ⟨rfl, rfl⟩)
        | ((with_reducible refine kA.mono ?_); rintro e w4 ⟨rfl, R4, c4⟩))
      refine bodyPost_ret (results_tmp3 rfl _ _ _) rfl ?_
      rw [he]
      obtain ⟨lo', q1, q2, q3⟩ := HEND.out _ _ R4 c4 (fun k h => h.1)
      exact ⟨m', lo', rfl, q1, q2, q3⟩
    | false =>
      have kA := refAct_swap HR3'.out HG.out o HD.out.symm o.b
      go_wp2_with (first
        | ((with_reducible refine kF.mono ?_); rintro e w' ⟨rfl, rfl⟩)
        | ((with_reducible refine kA.mono ?_); rintro e w4 ⟨rfl, R4, c4⟩))
      refine bodyPost_ret (results_tmp3 rfl _ _ _) rfl ?_
      rw [he]
      obtain ⟨lo', q1, q2, q3⟩ := HEND.out _ _ R4 c4 (fun k h => h.1)
      exact ⟨m', lo', rfl, q1, q2, q3⟩
end
end Go.Proofs.YtnemlbnmnijghaaDoor

/- The contract of the laws' same: a table tells what the document's tells. Condition: both are there, and their layout is one, or other blocks are lost. -/
namespace Go.Proofs.YtnemlbnmnijghaaDoor
open Go.RowKit
section
variable {w : World} {t lo hi m : Nat} {a : At} {l l2 : Lay}
set_option maxRecDepth 100000 in
set_option maxHeartbeats 8000000 in
theorem bsame_no (hT : Tb w t a l) (hok : l.ok) (hR : RTL w lo hi m l2) (hok2 : l2.ok) (hn : l2.n = l.n) (hne : l.losses ≠ l2.losses) : Calls Tryd.prog 20 #[.pointer (some ⟨t, 0, none⟩), .pointer (some ⟨m, 0, none⟩)] w fun e w' => e = .returned (.bool false) ∧ ∃ k, w' = w.drewN k := by
  have hTd : ∀ k, Tb (w.drewN k) t a l := fun k => hT.after (drewN_below w k)
  have hRd : ∀ k, RTL (w.drewN k) lo hi m l2 := fun k => hR.after (drewN_below w k)
  have q1 : ∀ k, Calls Tryd.prog 29 #[.pointer (some ⟨t, 0, none⟩)] (w.drewN k) fun e w' => e = .returned (.int .i64 ((l.n - 6 : Nat) : Int)) ∧ w' = w.drewN k := fun k => (tlen_any (hTd k) hok).mono (fun _ _ h => ⟨h.1, h.2.symm⟩)
  have q2 : ∀ k, Calls Tryd.prog 31 #[.pointer (some ⟨t, 0, none⟩)] (w.drewN k) fun e w' => e = .returned (.int .i64 (l.losses : Int)) ∧ w' = w.drewN k := fun k => (tlost_any (hTd k) hok).mono (fun _ _ h => ⟨h.1, h.2.symm⟩)
  have q3 : ∀ k, Calls Tryd.prog 53 #[.pointer (some ⟨m, 0, none⟩)] (w.drewN k) fun e w' => e = .returned (.int .i64 (l2.losses : Int)) ∧ w' = w.drewN k := fun k => (refCount_any (hRd k) hok2).mono (fun _ _ h => ⟨h.1, h.2.symm⟩)
  obtain ⟨⟨u, v, cu, cv, Eu, Ev, h1, _⟩, _, _⟩ := hR
  have c0 := h1.cell 0
  simp only [List.getElem?_cons_zero] at c0
  rw [Lay.used_length hok2, hn] at c0
  have hn2 := hok.n2
  obtain ⟨k, hk⟩ : ∃ k, k = l.n - 6 := ⟨_, rfl⟩
  rw [← hk] at c0 q1
  obtain ⟨x, hx⟩ : ∃ x, x = l.losses := ⟨_, rfl⟩
  obtain ⟨y, hy⟩ : ∃ y, y = l2.losses := ⟨_, rfl⟩
  rw [← hx] at q2 hne
  rw [← hy] at q3 hne
  have d1 : ((k : Int) != (k : Int)) = false := by simp
  have d2 : ((x : Int) != (y : Int)) = true := by simp; omega
  have hk34 : (k : Int) ≤ 34 := by omega
  clear hTd hRd h1 hT hok hok2 hx hy hk hn2 hn hne
  go_enter Tryd.func20, Tryd.ntmps20
  go_wp2_with fail
  go_quiet (first | (go_at_call 29; exact Calls.quiet_of_same (q1 _)) | (go_at_call 31; exact Calls.quiet_of_same (q2 _)) | (go_at_call 53; exact Calls.quiet_of_same (q3 _)))
  go_wp2_with fail
  go_ret
  exact ⟨rfl, _, rfl⟩
set_option maxRecDepth 100000 in
set_option maxHeartbeats 16000000 in
theorem bsame_yes (hT : Tb w t a l) (hok : l.ok) (hR : RTL w lo hi m l) : Calls Tryd.prog 20 #[.pointer (some ⟨t, 0, none⟩), .pointer (some ⟨m, 0, none⟩)] w fun e w' => e = .returned (.bool true) ∧ ∃ k, w' = w.drewN k := by
  have hTd : ∀ k, Tb (w.drewN k) t a l := fun k => hT.after (drewN_below w k)
  have hRd : ∀ k, RTL (w.drewN k) lo hi m l := fun k => hR.after (drewN_below w k)
  have q1 : ∀ k, Calls Tryd.prog 29 #[.pointer (some ⟨t, 0, none⟩)] (w.drewN k) fun e w' => e = .returned (.int .i64 ((l.n - 6 : Nat) : Int)) ∧ w' = w.drewN k := fun k => (tlen_any (hTd k) hok).mono (fun _ _ h => ⟨h.1, h.2.symm⟩)
  have q2 : ∀ k, Calls Tryd.prog 31 #[.pointer (some ⟨t, 0, none⟩)] (w.drewN k) fun e w' => e = .returned (.int .i64 (l.losses : Int)) ∧ w' = w.drewN k := fun k => (tlost_any (hTd k) hok).mono (fun _ _ h => ⟨h.1, h.2.symm⟩)
  have q3 : ∀ k, Calls Tryd.prog 53 #[.pointer (some ⟨m, 0, none⟩)] (w.drewN k) fun e w' => e = .returned (.int .i64 (l.losses : Int)) ∧ w' = w.drewN k := fun k => (refCount_any (hRd k) hok).mono (fun _ _ h => ⟨h.1, h.2.symm⟩)
  have q4 : ∀ k z, Calls Tryd.prog 30 #[.pointer (some ⟨t, 0, none⟩), .int .i64 z] (w.drewN k) fun e w' => e = .returned (.tuple #[.int .i64 (l.atOf z : Int), .bool (decide (0 ≤ z ∧ z < ((l.n - 6 : Nat) : Int)))]) ∧ w.drewN k = w' := fun k z => tat_any (hTd k) hok z
  have q5 : ∀ k, Calls Tryd.prog 28 #[.pointer (some ⟨t, 0, none⟩)] (w.drewN k) fun e w' => e = .returned (.tuple #[.int .i64 ((l.spare.getD 0 : Nat) : Int), .bool l.spare.isSome]) ∧ ∃ k2, w' = (w.drewN k).drewN k2 := fun k => tspare_any (hTd k) hok
  have q6 : ∀ k, Calls Tryd.prog 48 #[.pointer (some ⟨m, 0, none⟩)] (w.drewN k) fun e w' => e = .returned (.int .i64 l.first) ∧ w.drewN k = w' := fun k => refFirst_any (hRd k) hok
  obtain ⟨⟨u, v, cu, cv, Eu, Ev, h1, hu, _⟩, _, _⟩ := hR
  have c0 := h1.cell 0
  simp only [List.getElem?_cons_zero] at c0
  have hul := Lay.used_length hok
  rw [hul] at c0
  have hn2 := hok.n2
  have HC : Hid (∀ k j, j < l.n - 6 → (w.drewN k).cell? ⟨u, j, none⟩ = some (.int .i64 ((l.atOf (j : Int) : Nat) : Int))) := Lib.hid (fun k j hj => by
    have e : l.atOf (j : Int) = l.used.getD j 0 := by
      unfold Lay.atOf Lay.used
      rw [if_pos ⟨by omega, by omega⟩, Int.toNat_natCast, List.getD_eq_getElem?_getD, List.getD_eq_getElem?_getD, List.getElem?_take_of_lt hj]
    rw [e]
    exact (hu.cell j).trans (used_at (by rw [hul]; exact hj) Eu))
  have HA : Hid (∀ z : Int, ¬ (0 ≤ z ∧ z < ((l.n - 6 : Nat) : Int)) → l.atOf z = 0) := Lib.hid (fun z hz => if_neg hz)
  obtain ⟨f, hf⟩ : ∃ f : Int → Nat, f = l.atOf := ⟨_, rfl⟩
  rw [← hf] at q4 HC HA
  obtain ⟨n, hn⟩ : ∃ n, n = l.n - 6 := ⟨_, rfl⟩
  rw [← hn] at c0 q1 q4 HC HA
  obtain ⟨x, hx⟩ : ∃ x, x = l.losses := ⟨_, rfl⟩
  rw [← hx] at q2 q3
  have d1 : ((n : Int) != (n : Int)) = false := by simp
  have d2 : ((x : Int) != (x : Int)) = false := by simp
  have hk34 : (n : Int) ≤ 34 := by omega
  have hk0 : (0 : Int) ≤ (n : Int) := by omega
  have Q4 := Lib.hid q4
  have Q5 := Lib.hid q5
  have Q6 := Lib.hid q6
  clear hTd hRd h1 hu hT hok hx hn hn2 hf hul q4 q5 q6
  go_enter Tryd.func20, Tryd.ntmps20
  go_wp2_with fail
  go_quiet (first | (go_at_call 29; exact Calls.quiet_of_same (q1 _)) | (go_at_call 31; exact Calls.quiet_of_same (q2 _)) | (go_at_call 53; exact Calls.quiet_of_same (q3 _)))
  go_wp2_with fail
  go_loopw [5] (fun i wr => ∃ z : Int, (-1 ≤ z ∧ z ≤ (n : Int) + 1) ∧ i = .int .i64 z ∧ ∃ k, wr = w.drewN k) (fun i _ => ((n : Int) + 1 - intOf i).toNat)
  case atStart => exact ⟨-1, by omega, rfl, _, rfl⟩
  case round =>
    obtain ⟨z, ⟨hz1, hz3⟩, rfl, k, rfl⟩ := hrel
    by_cases hlt : z ≤ (n : Int)
    · have k4 := Q4.out k z
      have hd : decide (z ≤ (n : Int)) = true := by simp; omega
      have hz2 : z ≤ 34 := by omega
      by_cases hin : 0 ≤ z ∧ z < (n : Int)
      · rw [decide_eq_true hin] at k4
        obtain ⟨y, rfl⟩ : ∃ y : Nat, z = y := ⟨z.toNat, by omega⟩
        have cy := HC.out k y (by omega)
        obtain ⟨b, hb⟩ : ∃ b, b = f (y : Int) := ⟨_, rfl⟩
        rw [← hb] at k4 cy
        have d3 : ((b : Int) != (b : Int)) = false := by simp
        have d4 : decide ((y : Int) < (n : Int)) = true := by simp; omega
        have hy0 : (0 : Int) ≤ (y : Int) := by omega
        have hyn : (y : Int) < (n : Int) := hin.2
        clear hin hb
        go_wp2_with ((with_reducible refine k4.mono ?_); rintro e w' ⟨rfl, rfl⟩)
        exact ⟨⟨(y : Int) + 1, ⟨by omega, by omega⟩, by go_num, k, rfl⟩, by simp [intOf] <;> omega⟩
      · rw [decide_eq_false hin, HA.out z hin] at k4
        rcases (show z = -1 ∨ z = (n : Int) by omega) with rfl | rfl
        · clear hin
          go_wp2_with ((with_reducible refine k4.mono ?_); rintro e w' ⟨rfl, rfl⟩)
          exact ⟨⟨0, ⟨by omega, by omega⟩, by go_num, k, rfl⟩, by simp [intOf] <;> omega⟩
        · have d4 : decide ((n : Int) < (n : Int)) = false := by simp
          clear hin
          go_wp2_with ((with_reducible refine k4.mono ?_); rintro e w' ⟨rfl, rfl⟩)
          exact ⟨⟨(n : Int) + 1, ⟨by omega, by omega⟩, by go_num, k, rfl⟩, by simp [intOf] <;> omega⟩
    · have hd : decide (z ≤ (n : Int)) = false := by simp; omega
      have k5 := Q5.out k
      cases hsp : l.spare with
      | none =>
        have hf : l.first = -1 := by unfold Lay.first; rw [hsp]; rfl
        rw [hsp] at k5
        have k5' := k5
        simp only [Option.getD_none, Option.isSome_none] at k5'
        rw [hf] at Q6
        clear k5 hsp hf
        go_wp2_with (first
          | ((with_reducible refine k5'.mono ?_); rintro e w2 ⟨rfl, k2, rfl⟩; have k6 := Q6.out (k + k2))
          | ((with_reducible refine k6.mono ?_); rintro e w' ⟨rfl, rfl⟩))
        go_ret
        exact ⟨rfl, k + k2, rfl⟩
      | some b =>
        have hf : l.first = (b : Int) := by unfold Lay.first; rw [hsp]; rfl
        rw [hsp] at k5
        have k5' := k5
        simp only [Option.getD_some, Option.isSome_some] at k5'
        rw [hf] at Q6
        have d5 : ((b : Int) == (b : Int)) = true := by simp
        have hb0 : (0 : Int) ≤ (b : Int) := by omega
        clear k5 hsp hf
        go_wp2_with (first
          | ((with_reducible refine k5'.mono ?_); rintro e w2 ⟨rfl, k2, rfl⟩; have k6 := Q6.out (k + k2))
          | ((with_reducible refine k6.mono ?_); rintro e w' ⟨rfl, rfl⟩))
        go_ret
        exact ⟨rfl, k + k2, rfl⟩
end
end Go.Proofs.YtnemlbnmnijghaaDoor

/- The contract of the document's Format. Condition: the list is there; 16 to 40 blocks. -/
namespace Go.Proofs.YtnemlbnmnijghaaDoor
open Go.RowKit
/-- the blocks that the document's Format takes, from the block i on -/
def refUses (n : Nat) (f : Nat → Bool) : Nat → Nat → List Nat → List Nat
  | 0, _, us => us
  | k + 1, i, us => if i < n ∧ us.length < n - 6 then refUses n f k (i + 1) (if f i then us else us ++ [i]) else us
section
variable {w : World} {b : Nat} {ops : Array Oper} {rest : List Oper} {o : Oper} {a : Act} {Q : Exit → Act → World → Prop} {vU vV : Value} {xs ys : List Value}
/-- one more number, at the operation -/
theorem wpl_appU (hgd : Region.wanted o (yielded ops a.tmps) = true) (s x : Operand) (ho : o.op = .call { callee := .builtin .append, args := #[s, x], argTypes := #[22, 22] })
    (h : Pair2 b w vU vV xs ys) (hs : a.eval s = vU) {u : Nat} {z : Value} (hu : Row w w.heap.size (some ⟨u, 0, none⟩) [z]) (hx : a.eval x = .slice (some ⟨u, 0, none⟩) 1 1) (h1 : z.oneCell' = true) (hl : xs.length ≤ 1000) (hb : b ≤ w.heap.size)
    (hk : ∀ A' c' w', Pair2 b w' (.slice A' (xs.length + 1) c') vV (xs ++ [z]) ys → w.grownBy w' vU.ownBlock → ((Value.slice A' (xs.length + 1) c').ownBlock = vU.ownBlock ∨ (Value.slice A' (xs.length + 1) c').ownBlock = some w.heap.size) → wpList Tryd.prog ops Q rest (a.put o.dst (.slice A' (xs.length + 1) c')) w') : wpList Tryd.prog ops Q (o :: rest) a w := by
  obtain ⟨v', w', hrun, h2, h3, h4⟩ := run_append_row intTy o.type xs.length h.U w.heap.size (some ⟨u, 0, none⟩) 1 [z] 1 rfl hu (fun y hy => by rw [List.mem_singleton] at hy; rw [hy]; exact h1) (by simp only [maxLen]; omega) (by omega) hb
  obtain ⟨A', c', rfl, _, _⟩ := ownsRow_shape h2
  refine BigFrame.wpList_want hgd fun K hK => ?_
  unfold Oper.wp execOp
  simp only [ho, resolve, invoke, builtin, Sem.run_bind, Sem.run_pure, Result.andThen_ok, List.map_toArray, List.map_cons, List.map_nil, hs, hx, hrun]
  refine hK _ _ (hk A' c' w' ⟨by rw [List.length_append]; exact h2, kept_ne h.V h3 (fun k q e => h.ne k e q), fun k q e => ?_⟩ h3 h4)
  rcases h4 with h4 | h4
  · exact h.ne k (h4.symm.trans q) e
  · have : k = w.heap.size := Option.some.inj (q.symm.trans h4)
    have := (h.V.lt k e).2
    omega
/-- a list of truths copied, at the operation -/
theorem wpl_appV (hgd : Region.wanted o (yielded ops a.tmps) = true) (s x : Operand) (ho : o.op = .call { callee := .builtin .append, args := #[s, x], argTypes := #[36, 36] })
    (h : Pair2 b w vU vV xs []) (hs : a.eval s = vV) {B cu : Nat} {A : Option Addr} (hu : Row w B A ys) (hx : a.eval x = .slice A ys.length cu) (h1 : ∀ u ∈ ys, u.oneCell' = true) (hl : ys.length ≤ 1000) (hb : b ≤ w.heap.size)
    (hk : ∀ A' c' w', Pair2 b w' vU (.slice A' ys.length c') xs ys → Below b w w' → wpList Tryd.prog ops Q rest (a.put o.dst (.slice A' ys.length c')) w') : wpList Tryd.prog ops Q (o :: rest) a w := by
  obtain ⟨v', w', hrun, h2, h3, h4⟩ := run_append_row boolTy o.type 0 (xs := []) h.V B A cu ys ys.length rfl hu h1 (by simp only [maxLen]; omega) (by omega) hb
  rw [Nat.zero_add, List.nil_append] at h2
  obtain ⟨A', c', rfl, _, _⟩ := ownsRow_shape h2
  refine BigFrame.wpList_want hgd fun K hK => ?_
  unfold Oper.wp execOp
  simp only [ho, resolve, invoke, builtin, Sem.run_bind, Sem.run_pure, Result.andThen_ok, List.map_toArray, List.map_cons, List.map_nil, hs, hx, hrun]
  refine hK _ _ (hk A' c' w' ⟨kept_ne h.U h3 h.ne, h2, fun k q e => ?_⟩ ⟨h3.os, h3.tape, h3.output, h3.size, fun k hk => h3.block k (by omega) (fun e => by have := (h.V.lt k e.symm).1; omega)⟩)
  rcases h4 with h4 | h4
  · exact h.ne k q (h4.symm.trans e)
  · have : k = w.heap.size := Option.some.inj (e.symm.trans h4)
    have := (h.U.lt k q).2
    omega
end
theorem zeroRef (w : World) : (zeroValue 100).run Tryd.prog w = .ok (.agg #[.slice none 0 0, .slice none 0 0]) w := by kernel_rfl
/-- the table in the midst of the document's Format -/
structure Mak (w : World) (b m : Nat) (us : List Nat) (ls : List Bool) : Prop where
  parts : ∃ Au cu vV, Blk w m 100 [.slice Au us.length cu, vV] ∧ Pair2 b w (.slice Au us.length cu) vV (iv us) (bl ls) ∧ (Value.slice Au us.length cu).ownBlock ≠ some m ∧ vV.ownBlock ≠ some m
  m : b ≤ m
theorem Mak.end {w : World} {b m : Nat} {us : List Nat} {ls : List Bool} (h : Mak w b m us ls) (h1 : 0 < us.length) (h2 : 0 < ls.length) : RT w b w.heap.size m us ls := by
  obtain ⟨⟨Au, cu, vV, hB, hP, n1, n2⟩, hm⟩ := h
  have hU := hP.U
  have hV := hP.V
  have e1 : (iv us).length = us.length := by simp [iv]
  have e2 : (bl ls).length = ls.length := by simp [bl]
  rw [e1] at hU
  rw [e2] at hV
  obtain ⟨Av, cv, rfl, _, _⟩ := ownsRow_shape hV
  obtain ⟨u, Eu, rfl, q1, q2, q3, q4, q5⟩ := own_blk hU h1
  obtain ⟨v, Ev, rfl, r1, r2, r3, r4, r5⟩ := own_blk hV h2
  refine ⟨⟨u, v, cu, cv, Eu, Ev, hB, q3, r3, fun e => hP.ne u rfl (by rw [e]; rfl), fun e => n1 (by rw [← e]; rfl), fun e => n2 (by rw [← e]; rfl), ⟨q1, q2⟩, ⟨r1, r2⟩, q4, q5, r4, r5⟩, ⟨hm, hB.lt⟩, Nat.le_refl _⟩
theorem refUses_stop {n k i : Nat} {f : Nat → Bool} {us : List Nat} (h : ¬ (i < n ∧ us.length < n - 6)) : refUses n f k i us = us := by
  cases k with
  | zero => rfl
  | succ k => rw [refUses, if_neg h]
set_option maxRecDepth 100000 in
set_option maxHeartbeats 16000000 in
theorem refFormat_yes (n : Nat) (hn1 : 16 ≤ n) (hn2 : n ≤ 40) (g : Nat) (cap : Nat) (bs : List Bool) (hbs : bs.length = n) (w : World) (hr : Row w w.heap.size (some ⟨g, 0, none⟩) (bl bs)) (f : Nat → Bool) (hf : ∀ j, j < n → bs[j]? = some (f j)) (h0 : f 0 = false) (h1 : f 1 = false) (hU : n - 6 ≤ (refUses n f n 2 []).length) :
    Calls Tryd.prog 16 #[.slice (some ⟨g, 0, none⟩) n cap] w fun e w' => ∃ m, e = .returned (.pointer (some ⟨m, 0, none⟩)) ∧ RT w' w.heap.size w'.heap.size m (refUses n f n 2 []) bs ∧ Below w.heap.size w w' := by
  have z := zeroRef
  have hb0 : Below w.heap.size w (w.alloc (.cells #[] 4)) := (Below.refl _ _).alloc (Nat.le_refl _) _
  have P0 : Pair2 w.heap.size (w.alloc (.cells #[] 4)) (.slice none 0 0) (.slice (some ⟨w.heap.size, 0, none⟩) 0 0) [] [] := (Pair2.start w.heap.size w).mkV (Nat.le_refl _)
  have HR0 := hr.below hb0
  have o2 : ∀ z ∈ bl bs, z.oneCell' = true := fun z hz => by obtain ⟨_, _, rfl⟩ := List.mem_map.1 hz; rfl
  have e2 : (bl bs).length = n := by simp [bl, hbs]
  have HCB : Hid (∀ X j, Below w.heap.size w X → j < n → X.cell? ⟨g, j, none⟩ = some (.bool (f j))) := Lib.hid (fun X j hb hj => by
    obtain ⟨a, e, h2, h3⟩ := hr j (.bool (f j)) (by rw [bl, List.getElem?_map, hf j hj]; rfl)
    cases e
    rw [add_off, Nat.zero_add] at h3
    exact (hb.cell (p := ⟨g, j, none⟩) h2).trans h3)
  obtain ⟨U, hUU⟩ : ∃ U, U = refUses n f n 2 [] := ⟨_, rfl⟩
  rw [← hUU] at hU ⊢
  have HUU := Lib.hid hUU
  have HU := Lib.hid hU
  have HB0 := Lib.hid hb0
  have HP0 := Lib.hid P0
  have HRR := Lib.hid HR0
  have HO2 := Lib.hid o2
  have HE2 := Lib.hid e2
  have HBS := Lib.hid hbs
  have HF := Lib.hid (And.intro h0 h1)
  have hn40 : (n : Int) ≤ 40 := by omega
  have hn16 : (16 : Int) ≤ (n : Int) := by omega
  clear hb0 P0 HR0 o2 e2 hr hf hbs hUU hU h0 h1
  go_enter Tryd.func16, Tryd.ntmps16
  go_wp2_with (at_builtin; refine wpl_appV rfl (.tmp 5) (.tmp 6) rfl HP0.out rfl HRR.out (by rw [HE2.out]; rfl) HO2.out (by rw [HE2.out]; omega) HB0.out.size ?_; intro A1 c1 w1 p1 b1)
  have B1 : Below w.heap.size w w1 := HB0.out.trans b1
  have M0 : Mak (w1.alloc (.cells #[.slice none 0 0, .slice A1 (bl bs).length c1] 100)) w.heap.size w1.heap.size [] bs := ⟨⟨none, 0, .slice A1 (bl bs).length c1, Blk.new w1 _ _, p1.alloc _, (fun e => by cases e), (fun e => Nat.lt_irrefl _ (p1.V.lt _ e).2)⟩, B1.size⟩
  have B2 : Below w.heap.size w (w1.alloc (.cells #[.slice none 0 0, .slice A1 (bl bs).length c1] 100)) := B1.alloc B1.size _
  have HM0 := Lib.hid M0
  have HB2 := Lib.hid B2
  obtain ⟨m, hm⟩ : ∃ m, m = w1.heap.size := ⟨_, rfl⟩
  rw [← hm] at HM0
  simp only [← hm]
  clear B1 M0 B2 p1 b1 HP0 HRR HB0 HO2 z hm
  go_loopw [4] (fun i wr => ∃ j k : Nat, ∃ us : List Nat, (2 ≤ j ∧ j + k = n + 2 ∧ us.length ≤ n - 6) ∧ i = .int .i64 j ∧ Mak wr w.heap.size m us bs ∧ Below w.heap.size w wr ∧ Hid (U = refUses n f k j us)) (fun i _ => n + 2 - (intOf i).toNat)
  case atStart => exact ⟨2, n, [], ⟨by omega, by omega, by simp⟩, rfl, HM0.out, HB2.out, HUU⟩
  case round =>
    obtain ⟨j, k, us, ⟨hj2, hjk, hus⟩, rfl, hM, hB, HQ⟩ := hrel
    clear HM0 HB2
    have HM := Lib.hid hM
    have HB := Lib.hid hB
    obtain ⟨⟨Au, cu, vV, hBk, hP, n1, n2⟩, hwm⟩ := hM
    have c0 := hBk.cell 0
    simp only [List.getElem?_cons_zero] at c0
    have hml := hBk.lt
    by_cases hgo : j < n ∧ us.length < n - 6
    · obtain ⟨g1, g2⟩ := hgo
      obtain ⟨k', rfl⟩ : ∃ k', k = k' + 1 := ⟨k - 1, by omega⟩
      have hQ := HQ.out
      rw [refUses, if_pos ⟨g1, g2⟩] at hQ
      have cb := HCB.out wr j HB.out g1
      obtain ⟨t, ht⟩ : ∃ t, t = f j := ⟨_, rfl⟩
      rw [← ht] at cb hQ
      have d1 : decide ((j : Int) < (n : Int)) = true := by simp; omega
      have d2 : decide ((us.length : Int) < (n : Int) - 6) = true := by simp; omega
      have hj0 : (0 : Int) ≤ (j : Int) := by omega
      have hjn : (j : Int) < (n : Int) := by omega
      have HN := Lib.hid (And.intro n1 n2)
      have HPP := Lib.hid hP
      have HBK := Lib.hid hBk
      have HJ := Lib.hid (And.intro hj2 (And.intro hjk (And.intro g1 g2)))
      have HWM := Lib.hid hwm
      clear hB ht HQ hP n1 n2 hBk hj2 hjk hus g1 g2 hwm
      cases t with
      | true =>
        rw [if_pos rfl] at hQ
        have HQ2 := Lib.hid hQ
        clear hQ
        go_wp2_with fail
        obtain ⟨a1, a2, a3, a4⟩ := HJ.out
        exact ⟨⟨j + 1, k', us, ⟨by omega, by omega, by omega⟩, by go_num, HM.out, HB.out, HQ2⟩, by simp [intOf]; omega⟩
      | false =>
        rw [if_neg (by simp)] at hQ
        have HQ2 := Lib.hid hQ
        have e1 : (iv us).length = us.length := by simp [iv]
        have PA := Lib.hid (HPP.out.alloc (.cells #[.int .i64 (j : Int)] 3))
        have RA : Hid (Row (wr.alloc (.cells #[.int .i64 (j : Int)] 3)) (wr.alloc (.cells #[.int .i64 (j : Int)] 3)).heap.size (some ⟨wr.heap.size, 0, none⟩) [.int .i64 (j : Int)]) := Lib.hid (row_blk (Z := []) (Blk.new wr 3 [.int .i64 (j : Int)]))
        have BA := Lib.hid (HB.out.alloc HB.out.size (.cells #[.int .i64 (j : Int)] 3))
        have hus2 : us.length ≤ 34 := by have := HJ.out; omega
        have E1 := Lib.hid e1
        clear hQ e1
        go_wp2_with (first
          | (at_builtin; refine wpl_appU rfl (.tmp 36) (.tmp 38) rfl PA.out rfl RA.out rfl rfl (by rw [E1.out]; omega) BA.out.size ?_; intro A2 c2 w2 p2 g2 o2; have hB2 := (HBK.out.alloc (.cells #[.int .i64 (j : Int)] 3)).grown g2 (fun e => HN.out.1 e.symm))
          | (with_reducible refine wpl_blk (fun w => by kernel_rfl) rfl rfl (.tmp 41) (.tmp 39) rfl rfl hB2 0 (by simp) rfl rfl ?_; intro w3 B3 g3 e3; clear e3))
        have n1' : (Value.slice A2 ((iv us).length + 1) c2).ownBlock ≠ some m := by
          intro e
          rcases o2 with o2 | o2
          · exact HN.out.1 (o2.symm.trans e)
          · have h' : (wr.alloc (.cells #[.int .i64 (j : Int)] 3)).heap.size = m := Option.some.inj (o2.symm.trans e)
            have h2 : (wr.alloc (.cells #[.int .i64 (j : Int)] 3)).heap.size = wr.heap.size + 1 := by simp
            omega
        have P3 : Pair2 w.heap.size w3 (.slice A2 ((iv us).length + 1) c2) vV (iv us ++ [.int .i64 (j : Int)]) (bl bs) := ⟨World.ownsRow.kept p2.U g3 (.inr n1'), World.ownsRow.kept p2.V g3 (.inr HN.out.2), p2.ne⟩
        have eA : iv us ++ [.int .i64 (j : Int)] = iv (us ++ [j]) := by simp [iv]
        have eL : (iv us).length + 1 = (us ++ [j]).length := by simp [iv]
        rw [eA] at P3
        rw [eL] at P3 B3 n1'
        have M3 : Mak w3 w.heap.size m (us ++ [j]) bs := ⟨⟨A2, c2, vV, B3, P3, n1', HN.out.2⟩, HWM.out⟩
        have BB : Below w.heap.size w w3 := (BA.out.grown g2 BA.out.size (fun k e => (World.ownsRow.lt PA.out.U k e).1)).grown g3 (Nat.le_trans BA.out.size g2.size) (fun k e => by cases e; exact HWM.out)
        obtain ⟨a1, a2, a3, a4⟩ := HJ.out
        exact ⟨⟨j + 1, k', us ++ [j], ⟨by omega, by omega, by rw [List.length_append, List.length_singleton]; omega⟩, by go_num, M3, BB, HQ2⟩, by simp [intOf]; omega⟩
    · have hq : U = us := by rw [HQ.out, refUses_stop hgo]
      have hU := HU.out
      rw [hq] at hU
      have HQQ := Lib.hid hq
      have ct0 := HCB.out wr 0 HB.out (by omega)
      have ct1 := HCB.out wr 1 HB.out (by omega)
      rw [HF.out.1] at ct0
      rw [HF.out.2] at ct1
      have d3 : decide ((us.length : Int) < (n : Int) - 6) = false := by simp; omega
      have HMR := Lib.hid (HM.out.end (by omega) (by rw [HBS.out]; omega))
      have hus34 : us.length ≤ 34 := by omega
      have hor : j < n ∨ ¬ j < n := Decidable.em _
      clear hB HQ hP n1 n2 hBk hwm hU hgo hus hq
      rcases hor with hlt | hlt
      · have d1 : decide ((j : Int) < (n : Int)) = true := by simp; omega
        go_wp2_with fail
        go_ret
        rw [HQQ.out]
        exact ⟨m, rfl, HMR.out, HB.out⟩
      · have d1 : decide ((j : Int) < (n : Int)) = false := by simp; omega
        go_wp2_with fail
        go_ret
        rw [HQQ.out]
        exact ⟨m, rfl, HMR.out, HB.out⟩
end Go.Proofs.YtnemlbnmnijghaaDoor

