/- Several texts of the proof, joined: what each has is said at its head. -/
import Derived.Test.YtdiocjneakfdgaaGreatDoorQCore
import Derived.Test.YtdiocjneakfdgaaGreatDoorQNandA
import Derived.Deep.QuietTactic
import Derived.BigQuiet
import Derived.Laws.OwnMore
import Derived.Test.YtdiocjneakfdgaaGreatDoorQNandB
/- The layout of a table: what stands where, and the contracts of the calls that only look at it. No condition but that it is there. -/
namespace Go.Proofs.YtdiocjneakfdgaaGreatDoor
open Go.RowKit
/-- a layout: how many blocks, those of the logical ones, which are lost -/
structure Lay where
  n : Nat
  at_ : List Nat
  lost : List Bool
def iv (zs : List Nat) : List Value := zs.map fun z : Nat => Value.int .i64 (z : Int)
def Lay.row (l : Lay) : List Value := .int .i64 (l.n : Int) :: (iv l.at_ ++ l.lost.map Value.bool)
structure Lay.ok (l : Lay) : Prop where
  n1 : 16 ≤ l.n
  n2 : l.n ≤ 40
  a : l.at_.length = 34
  o : l.lost.length = 40
def Lay.used (l : Lay) : List Nat := l.at_.take (l.n - 6)
def Lay.lostAt (l : Lay) (b : Nat) : Bool := l.lost.getD b false
def Lay.isSpare (l : Lay) (b : Int) : Bool := decide (2 ≤ b) && (decide (b < l.n) && (!l.lostAt b.toNat && !decide (b.toNat ∈ l.used)))
def Lay.lossesTo (l : Lay) (k : Nat) : Nat := ((List.range k).filter fun b => l.lostAt b).length
def Lay.losses (l : Lay) : Nat := l.lossesTo l.n
def Lay.spare (l : Lay) : Option Nat := (List.range l.n).find? fun b => l.isSpare (b : Int)
theorem Lay.lossesTo_succ (l : Lay) (k : Nat) : l.lossesTo (k + 1) = l.lossesTo k + if l.lostAt k then 1 else 0 := by
  unfold Lay.lossesTo
  rw [List.range_succ, List.filter_append, List.length_append]
  cases h : l.lostAt k <;> simp [h]
theorem Lay.lossesTo_le (l : Lay) (k : Nat) : l.lossesTo k ≤ k := by
  unfold Lay.lossesTo
  exact Nat.le_trans (List.length_filter_le _ _) (by simp)
theorem Lay.used_length {l : Lay} (h : l.ok) : l.used.length = l.n - 6 := by
  unfold Lay.used
  rw [List.length_take, h.a]
  have := h.n2
  omega
theorem Lay.row_length {l : Lay} (h : l.ok) : l.row.length = 75 := by
  simp [Lay.row, iv, h.a, h.o]
theorem Lay.row_at {l : Lay} (h : l.ok) {i : Nat} (hi : i < 34) : l.row[1 + i]? = some (.int .i64 ((l.at_.getD i 0 : Nat) : Int)) := by
  have hi' : i < l.at_.length := by rw [h.a]; exact hi
  rw [Nat.add_comm, Lay.row, List.getElem?_cons_succ, List.getElem?_append_left (by simpa [iv] using hi'), iv, List.getElem?_map, List.getD_eq_getElem?_getD, List.getElem?_eq_getElem hi']
  rfl
theorem Lay.row_lost {l : Lay} (h : l.ok) {i : Nat} (hi : i < 40) : l.row[35 + i]? = some (.bool (l.lostAt i)) := by
  have hi' : i < l.lost.length := by rw [h.o]; exact hi
  rw [show 35 + i = (34 + i) + 1 by omega, Lay.row, List.getElem?_cons_succ, List.getElem?_append_right (by simp [iv, h.a]), show 34 + i - (iv l.at_).length = i by simp [iv, h.a], Lay.lostAt, List.getElem?_map, List.getD_eq_getElem?_getD, List.getElem?_eq_getElem hi']
  rfl
/-- at the place o of block g lies a layout -/
structure LayAt (w : World) (g o : Nat) (l : Lay) : Prop where
  cell : ∀ (i : Nat) (v : Value), l.row[i]? = some v → w.cell? ⟨g, o + i, none⟩ = some v
  lt : g < w.heap.size
  ok : l.ok
section
variable {w w' : World} {g o : Nat} {l : Lay}
theorem LayAt.after (h : LayAt w g o l) (hb : Below w.heap.size w w') : LayAt w' g o l := ⟨fun i v hv => (hb.cell h.lt).trans (h.cell i v hv), Nat.lt_of_lt_of_le h.lt hb.size, h.ok⟩
theorem LayAt.drewN (h : LayAt w g o l) (k : Nat) : LayAt (w.drewN k) g o l := h.after ⟨rfl, rfl, rfl, Nat.le_refl _, fun _ _ => rfl⟩
theorem LayAt.n (h : LayAt w g o l) : w.cell? ⟨g, o, none⟩ = some (.int .i64 (l.n : Int)) := h.cell 0 _ rfl
theorem LayAt.at_ (h : LayAt w g o l) {i : Nat} (hi : i < 34) : w.cell? ⟨g, o + 1 + i, none⟩ = some (.int .i64 ((l.at_.getD i 0 : Nat) : Int)) := by
  rw [Nat.add_assoc]
  exact h.cell _ _ (Lay.row_at h.ok hi)
theorem LayAt.lost (h : LayAt w g o l) {i : Nat} (hi : i < 40) : w.cell? ⟨g, o + 35 + i, none⟩ = some (.bool (l.lostAt i)) := by
  rw [Nat.add_assoc]
  exact h.cell _ _ (Lay.row_lost h.ok hi)
theorem Blk.lay {t : TypeId} {cs : List Value} (h : Blk w g t cs) (hl : l.ok) (hc : (cs.drop o).take 75 = l.row) : LayAt w g o l :=
  ⟨fun i v hv => by
    rw [h.cell]
    have hlt := get_lt hv
    rw [Lay.row_length hl] at hlt
    rw [← hc, List.getElem?_take_of_lt hlt, List.getElem?_drop] at hv
    exact hv, h.lt, hl⟩
end
theorem lsize_any (g o : Nat) (l : Lay) (w : World) (h : LayAt w g o l) : Calls Tryz.prog 54 #[.pointer (some ⟨g, o, none⟩)] w fun e w' => e = .returned (.int .i64 ((l.n - 6 : Nat) : Int)) ∧ w = w' := by
  have c0 := h.n
  have h1 := h.ok.n1
  have h2 := h.ok.n2
  obtain ⟨m, hm⟩ : ∃ m, l.n = m + 6 := ⟨l.n - 6, by omega⟩
  rw [hm] at c0 h1 h2
  rw [hm, Nat.add_sub_cancel]
  clear h hm
  go_enter Tryz.func54, Tryz.ntmps54
  go_wp2
  go_ret
  refine ⟨?_, rfl⟩
  exact ret_int (by omega)
theorem lhas_any (g o : Nat) (l : Lay) (b : Int) (w : World) (h : LayAt w g o l) : Calls Tryz.prog 125 #[.pointer (some ⟨g, o, none⟩), .int .i64 b] w fun e w' => e = .returned (.bool (decide (0 ≤ b ∧ b < ((l.n - 6 : Nat) : Int)))) ∧ w = w' := by
  have k1 := lsize_any g o l w h
  clear h
  obtain ⟨m, hm⟩ : ∃ m, m = l.n - 6 := ⟨_, rfl⟩
  rw [← hm] at k1 ⊢
  clear hm
  by_cases c1 : 0 ≤ b
  · have d1 : decide (0 ≤ b) = true := by simp [c1]
    obtain ⟨d, hd⟩ : ∃ d, d = decide (b < (m : Int)) := ⟨_, rfl⟩
    have hh : decide (0 ≤ b ∧ b < (m : Int)) = d := by rw [hd]; simp [c1]
    rw [hh]
    have hd' := hd.symm
    clear c1 hh hd
    go_enter Tryz.func125, Tryz.ntmps125
    go_wp2_with ((with_reducible refine k1.mono ?_); rintro e w' ⟨rfl, rfl⟩)
    go_ret
    exact ⟨rfl, rfl⟩
  · have d1 : decide (0 ≤ b) = false := by simp [c1]
    rw [decide_eq_false (fun h => c1 h.1)]
    clear c1
    go_enter Tryz.func125, Tryz.ntmps125
    go_wp2_with fail
    go_ret
    exact ⟨rfl, rfl⟩
/-- the first place of b in zs, from there on -/
theorem index_int (A : Option Addr) (zs : List Nat) (c : Nat) (b : Int) (w : World) (B : Nat) (hr : Row w B A (iv zs)) (hz : zs.length ≤ 1000) :
    Calls Tryz.prog 140 #[.slice A zs.length c, .int .i64 b] w fun e w' => (∃ i : Int, e = .returned (.int .i64 i) ∧ decide (0 ≤ i) = (zs.map Int.ofNat).contains b) ∧ w = w' := by
  have HR := Lib.hid hr
  clear hr
  go_enter Tryz.func140, Tryz.ntmps140
  go_wp2_with fail
  go_loopw [8] (fun i wr => ∃ j : Nat, j ≤ zs.length ∧ i = .int .i64 j ∧ wr = w ∧ ((zs.take j).map Int.ofNat).contains b = false) (fun i _ => zs.length - (intOf i).toNat)
  case atStart => exact ⟨0, Nat.zero_le _, rfl, rfl, by simp⟩
  case round =>
    obtain ⟨j, hj, rfl, rfl, hno⟩ := hrel
    have HN := Lib.hid hno
    clear hno
    by_cases hlt : j < zs.length
    · obtain ⟨a, rfl, hab, hcell⟩ := HR.out.at_ (k := j) (by simpa [iv] using hlt)
      simp only [iv, List.getElem_map] at hcell
      have ht := take_snoc zs (List.getElem?_eq_getElem hlt)
      have hmem := List.getElem_mem hlt
      obtain ⟨z, hz⟩ : ∃ z, z = zs[j] := ⟨_, rfl⟩
      rw [← hz] at hcell ht hmem
      have HT := Lib.hid ht
      have HM := Lib.hid hmem
      clear ht hz hmem
      by_cases hb : b = (z : Int)
      · have d1 : decide (b = (z : Int)) = true := by simp [hb]
        have d2 : (b == (z : Int)) = true := by simp [hb]
        have HB := Lib.hid hb
        clear hb
        go_wp2_with fail
        go_ret
        refine ⟨⟨_, rfl, ?_⟩, rfl⟩
        rw [decide_eq_true (by omega)]
        rw [HB.out]
        simp
        exact ⟨z, HM.out, rfl⟩
      · have d1 : decide (b = (z : Int)) = false := by simp [hb]
        have d2 : (b == (z : Int)) = false := by simp [hb]
        have HB := Lib.hid hb
        clear hb
        go_wp2_with fail
        exact ⟨⟨j + 1, by omega, by go_num, by first | rfl | trivial, by
          rw [HT.out, List.map_append, List.contains_append, HN.out]
          simpa using HB.out⟩, by simp [intOf]; omega⟩
    · obtain rfl : j = zs.length := by omega
      go_wp2_with fail
      go_ret
      refine ⟨⟨_, rfl, ?_⟩, rfl⟩
      have h := HN.out
      rw [List.take_length] at h
      rw [decide_eq_false (by omega), h]
theorem contains_int (A : Option Addr) (zs : List Nat) (c : Nat) (b : Int) (w : World) (B : Nat) (hr : Row w B A (iv zs)) (hz : zs.length ≤ 1000) :
    Calls Tryz.prog 134 #[.slice A zs.length c, .int .i64 b] w fun e w' => e = .returned (.bool ((zs.map Int.ofNat).contains b)) ∧ w = w' := by
  have k1 := index_int A zs c b w B hr hz
  obtain ⟨d, hd⟩ : ∃ d, d = (zs.map Int.ofNat).contains b := ⟨_, rfl⟩
  rw [← hd] at k1 ⊢
  clear hr hz hd
  go_enter Tryz.func134, Tryz.ntmps134
  go_wp2_with fail
  ((with_reducible refine k1.mono ?_); rintro e w' ⟨⟨i, rfl, hi⟩, rfl⟩)
  go_wp2
  go_ret
  exact ⟨rfl, rfl⟩
end Go.Proofs.YtdiocjneakfdgaaGreatDoor

/- The contracts of isSpare, spare and losses. No condition but that the layout is there. -/
namespace Go.Proofs.YtdiocjneakfdgaaGreatDoor
open Go.RowKit
theorem drewN_below (w : World) (k : Nat) : Below w.heap.size w (w.drewN k) := ⟨rfl, rfl, rfl, Nat.le_refl _, fun _ _ => rfl⟩
theorem LayAt.rowU {w : World} {g o : Nat} {l : Lay} (h : LayAt w g o l) : Row w w.heap.size (some ⟨g, o + 1, none⟩) (iv l.used) := fun j u hu => by
  have hj := get_lt hu
  have hj' : j < l.n - 6 := by rw [← Lay.used_length h.ok]; simpa [iv] using hj
  have h2 := h.ok.n2
  have ha := h.ok.a
  refine ⟨_, rfl, h.lt, ?_⟩
  rw [add_off, h.at_ (by omega), ← hu]
  unfold iv Lay.used
  rw [List.getElem?_map, List.getElem?_take_of_lt hj', List.getD_eq_getElem?_getD, List.getElem?_eq_getElem (by omega)]
  rfl
theorem contains_used {l : Lay} {b : Int} (hb : 0 ≤ b) : (l.used.map Int.ofNat).contains b = decide (b.toNat ∈ l.used) := by
  obtain ⟨n, rfl⟩ : ∃ n : Nat, b = n := ⟨b.toNat, by omega⟩
  by_cases h : n ∈ l.used
  · rw [Int.toNat_natCast, decide_eq_true h]
    simpa using ⟨n, h, rfl⟩
  · rw [Int.toNat_natCast, decide_eq_false h]
    have : ¬ (n : Int) ∈ l.used.map Int.ofNat := fun hm => by
      obtain ⟨a, ha, he⟩ := List.mem_map.1 hm
      have : a = n := by have h2 : (a : Int) = n := he; omega
      exact h (this ▸ ha)
    simpa using this
set_option maxHeartbeats 4000000 in
theorem isSpare_any (g o : Nat) (l : Lay) (b : Int) (w : World) (h : LayAt w g o l) : Calls Tryz.prog 120 #[.pointer (some ⟨g, o, none⟩), .int .i64 b] w fun e w' => e = .returned (.bool (l.isSpare b)) ∧ ∃ k, w' = w.drewN k := by
  have c0 := h.n
  have hn1 := h.ok.n1
  have hn2 := h.ok.n2
  have H := Lib.hid h
  obtain ⟨n, hn⟩ : ∃ n, n = l.n := ⟨_, rfl⟩
  rw [← hn] at c0 hn1 hn2
  have HN := Lib.hid hn
  unfold Lay.isSpare
  rw [← hn]
  clear h hn
  by_cases c1 : 2 ≤ b
  · have d1 : decide ((2 : Int) ≤ b) = true := by simp [c1]
    rw [d1, Bool.true_and]
    by_cases c2 : b < (n : Int)
    · have d2 : decide (b < (n : Int)) = true := by simp [c2]
      rw [d2, Bool.true_and]
      obtain ⟨m, rfl⟩ : ∃ m : Nat, b = m := ⟨b.toNat, by omega⟩
      have c3 := H.out.lost (i := m) (by omega)
      rw [Int.toNat_natCast]
      have hm : (m : Int) < 40 := by omega
      have hm0 : (0 : Int) ≤ (m : Int) := by omega
      obtain ⟨t, ht⟩ : ∃ t, t = l.lostAt m := ⟨_, rfl⟩
      rw [← ht] at c3 ⊢
      clear ht
      have hlen : (((n - 6 : Nat)) : Int) ≤ 34 := by omega
      have hl0 : (0 : Int) ≤ ((n - 6 : Nat) : Int) := by omega
      cases t with
      | true =>
        go_enter Tryz.func120, Tryz.ntmps120
        go_wp2_with fail
        go_quiet (fail)
        go_wp2_with fail
        go_ret
        exact ⟨rfl, _, rfl⟩
      | false =>
        have k1 := fun (k : Nat) => (lsize_any g o l (w.drewN k) (H.out.drewN k)).mono (fun _ _ h => (⟨h.1, h.2.symm⟩ : _ ∧ _ = w.drewN k))
        have k2 := fun (k : Nat) => (contains_int (some ⟨g, o + 1, none⟩) l.used 34 (m : Int) (w.drewN k) (w.drewN k).heap.size (H.out.drewN k).rowU (by rw [Lay.used_length H.out.ok, ← HN.out]; omega)).mono (fun _ _ h => (⟨h.1, h.2.symm⟩ : _ ∧ _ = w.drewN k))
        rw [← HN.out] at k1
        rw [Lay.used_length H.out.ok, ← HN.out, contains_used (by omega), Int.toNat_natCast] at k2
        go_enter Tryz.func120, Tryz.ntmps120
        go_wp2_with fail
        go_quiet (first | (go_at_call 54; exact Calls.quiet_of_same (k1 _)) | (go_at_call 134; exact Calls.quiet_of_same (k2 _)))
        go_wp2_with fail
        go_ret
        exact ⟨rfl, _, rfl⟩
    · have d2 : decide (b < (n : Int)) = false := by simp [c2]
      rw [d2, Bool.false_and]
      clear c1 c2
      go_enter Tryz.func120, Tryz.ntmps120
      go_wp2_with fail
      go_quiet (fail)
      go_wp2_with fail
      go_ret
      exact ⟨rfl, _, rfl⟩
  · have d1 : decide ((2 : Int) ≤ b) = false := by simp [c1]
    rw [d1, Bool.false_and]
    clear c1
    go_enter Tryz.func120, Tryz.ntmps120
    go_wp2_with fail
    go_quiet (fail)
    go_wp2_with fail
    go_ret
    exact ⟨rfl, _, rfl⟩
set_option maxHeartbeats 2000000 in
theorem spare_any (g o : Nat) (l : Lay) (w : World) (h : LayAt w g o l) : Calls Tryz.prog 92 #[.pointer (some ⟨g, o, none⟩)] w fun e w' => e = .returned (.tuple #[.int .i64 ((l.spare.getD 0 : Nat) : Int), .bool l.spare.isSome]) ∧ ∃ k, w' = w.drewN k := by
  have c0 := h.n
  have hn1 := h.ok.n1
  have hn2 := h.ok.n2
  have H := Lib.hid h
  obtain ⟨n, hn⟩ : ∃ n, n = l.n := ⟨_, rfl⟩
  rw [← hn] at c0 hn1 hn2
  have HN := Lib.hid hn
  clear h hn
  go_enter Tryz.func92, Tryz.ntmps92
  go_wp2_with fail
  go_loopw [9] (fun i wr => ∃ j : Nat, j ≤ n ∧ i = .int .i64 j ∧ (∃ k, wr = w.drewN k) ∧ ∀ b, b < j → l.isSpare (b : Int) = false) (fun i _ => n - (intOf i).toNat)
  case atStart => exact ⟨0, Nat.zero_le _, rfl, ⟨0, rfl⟩, fun b h => by omega⟩
  case round =>
    obtain ⟨j, hj, rfl, ⟨k, rfl⟩, hno⟩ := hrel
    have HNo := Lib.hid hno
    clear hno
    by_cases hlt : j < n
    · have k1 := isSpare_any g o l (j : Int) (w.drewN k) (H.out.drewN k)
      obtain ⟨t, ht⟩ : ∃ t, t = l.isSpare (j : Int) := ⟨_, rfl⟩
      rw [← ht] at k1
      have HT := Lib.hid ht
      clear ht
      cases t with
      | true =>
        go_wp2_with ((with_reducible refine k1.mono ?_); rintro e w2 ⟨rfl, k2, rfl⟩)
        go_ret2
        have hs : l.spare = some j := by
          unfold Lay.spare
          rw [List.find?_eq_some_iff_append]
          refine ⟨HT.out.symm, List.range j, (List.range' (j + 1) (n - j - 1)), ?_, fun a ha => by rw [HNo.out a (List.mem_range.1 ha)]; rfl⟩
          rw [← HN.out, List.range_eq_range', List.range_eq_range', show n = j + (1 + (n - j - 1)) by omega, ← List.range'_append_1, ← List.range'_append_1]
          simp
        rw [hs]
        exact ⟨rfl, k + k2, rfl⟩
      | false =>
        go_wp2_with ((with_reducible refine k1.mono ?_); rintro e w2 ⟨rfl, k2, rfl⟩)
        exact ⟨⟨j + 1, by omega, by go_num, ⟨k + k2, rfl⟩, fun b hb => by
          rcases Nat.lt_or_ge b j with h | h
          · exact HNo.out b h
          · rw [show b = j by omega]; exact HT.out.symm⟩, by simp [intOf]; omega⟩
    · obtain rfl : j = n := by omega
      go_wp2_with fail
      go_ret2
      have hs : l.spare = none := by
        unfold Lay.spare
        rw [List.find?_eq_none]
        intro b hb
        rw [← HN.out] at hb
        rw [HNo.out b (List.mem_range.1 hb)]
        simp
      rw [hs]
      exact ⟨rfl, _, rfl⟩
set_option maxHeartbeats 2000000 in
theorem losses_any (g o : Nat) (l : Lay) (w : World) (h : LayAt w g o l) : Calls Tryz.prog 91 #[.pointer (some ⟨g, o, none⟩)] w fun e w' => e = .returned (.int .i64 (l.losses : Int)) ∧ w = w' := by
  have c0 := h.n
  have hn1 := h.ok.n1
  have hn2 := h.ok.n2
  have H := Lib.hid h
  unfold Lay.losses
  obtain ⟨n, hn⟩ : ∃ n, n = l.n := ⟨_, rfl⟩
  rw [← hn] at c0 hn1 hn2 ⊢
  clear h hn
  go_enter Tryz.func91, Tryz.ntmps91
  go_wp2_with fail
  go_loopw [3, 9] (fun s i wr => ∃ j : Nat, j ≤ n ∧ i = .int .i64 j ∧ s = .int .i64 (l.lossesTo j : Int) ∧ wr = w) (fun _ i _ => n - (intOf i).toNat)
  case atStart => exact ⟨0, Nat.zero_le _, rfl, rfl, rfl⟩
  case round =>
    obtain ⟨j, hj, rfl, rfl, rfl⟩ := hrel
    by_cases hlt : j < n
    · have c1 := H.out.lost (i := j) (by omega)
      have hs := l.lossesTo_succ j
      have hle := l.lossesTo_le j
      obtain ⟨q, hq⟩ : ∃ q, q = l.lossesTo j := ⟨_, rfl⟩
      rw [← hq] at hs hle ⊢
      obtain ⟨t, ht⟩ : ∃ t, t = l.lostAt j := ⟨_, rfl⟩
      rw [← ht] at c1 hs
      have HS := Lib.hid hs
      clear ht hs hq
      cases t with
      | true =>
        go_wp2_with fail
        exact ⟨⟨j + 1, by omega, by go_num, by rw [HS.out]; go_num, by first | rfl | trivial⟩, by simp [intOf]; omega⟩
      | false =>
        go_wp2_with fail
        exact ⟨⟨j + 1, by omega, by go_num, by rw [HS.out]; rfl, by first | rfl | trivial⟩, by simp [intOf]; omega⟩
    · obtain rfl : j = n := by omega
      go_wp2_with fail
      go_ret
      exact ⟨rfl, rfl⟩
end Go.Proofs.YtdiocjneakfdgaaGreatDoor

/- The contract of a layout's bytes. No condition but that the layout is there. -/
namespace Go.Proofs.YtdiocjneakfdgaaGreatDoor
open Go.RowKit
theorem u64Tys : OneCell Tryz.prog 204 31 (.int .u64 0) 8 := OneCell.mk' Tryz.underlying204 (by kernel_rfl) (by decide)
/-- which of the first k blocks are lost -/
def Lay.lostTo (l : Lay) (k : Nat) : List Nat := (List.range k).filter fun b => l.lostAt b
theorem Lay.lostTo_succ (l : Lay) (k : Nat) : l.lostTo (k + 1) = l.lostTo k ++ if l.lostAt k then [k] else [] := by
  unfold Lay.lostTo
  rw [List.range_succ, List.filter_append]
  cases h : l.lostAt k <;> simp [h]
theorem Lay.lostTo_le (l : Lay) (k : Nat) : (l.lostTo k).length ≤ k := Nat.le_trans (List.length_filter_le _ _) (by simp)
def Lay.list (l : Lay) : List Nat := l.n :: (l.used ++ l.lostTo l.n)
def Lay.bytes (l : Lay) : List UInt8 := l.list.flatMap (numB 1)
theorem Lay.list_length {l : Lay} (h : l.ok) : l.list.length ≤ 75 := by
  have := Lay.lostTo_le l l.n
  have := h.n2
  have h1 := Lay.used_length h
  simp only [Lay.list, List.length_cons, List.length_append]
  omega
theorem uv_append (a b : List Nat) : uv (a ++ b) = uv a ++ uv b := by simp [uv]
theorem used_take {l : Lay} (h : l.ok) {j : Nat} (hj : j < l.n - 6) : l.used.take (j + 1) = l.used.take j ++ [l.at_.getD j 0] := by
  have h2 := h.n2
  have ha := h.a
  have hu := Lay.used_length h
  rw [take_snoc l.used (List.getElem?_eq_getElem (by omega))]
  congr 2
  unfold Lay.used
  rw [List.getElem_take, List.getD_eq_getElem?_getD, List.getElem?_eq_getElem (by omega)]
  rfl
set_option maxRecDepth 100000 in
set_option maxHeartbeats 4000000 in
theorem lbytes_any (g o : Nat) (l : Lay) (w : World) (h : LayAt w g o l) (hat : ∀ x ∈ l.at_, x < 1000) : Calls Tryz.prog 121 #[.pointer (some ⟨g, o, none⟩)] w fun e w' => ∃ A n c, e = .returned (.slice A n c) ∧ n = l.bytes.length ∧ Own 5 w' w.heap.size (.slice A n c) l.bytes ∧ Below w.heap.size w w' := by
  have c0 := h.n
  have hn1 := h.ok.n1
  have hn2 := h.ok.n2
  have H := Lib.hid h
  have HA := Lib.hid hat
  have k0 := lsize_any g o l
  obtain ⟨n, hn⟩ : ∃ n, n = l.n := ⟨_, rfl⟩
  rw [← hn] at c0 hn1 hn2
  simp only [← hn] at k0
  have HN := Lib.hid hn
  clear h hn hat
  have b1 := (Below.refl w.heap.size w).alloc (Nat.le_refl _) (.cells #[.int .u64 (n : Int)] 31)
  have L1 := H.out.after b1
  have k1 := k0 _ L1
  have O1 : (w.alloc (.cells #[.int .u64 (n : Int)] 31)).ownsRow w.heap.size 31 1 (.slice (some ⟨w.heap.size, 0, none⟩) 1 1) 1 (uv [n]) := World.ownsRow_lit w #[.int .u64 (n : Int)] 1 (Nat.le_refl _) (by simp [maxLen]) rfl
  have HB1 := Lib.hid b1
  have HO1 := Lib.hid O1
  clear b1 L1 O1 k0
  go_enter Tryz.func121, Tryz.ntmps121
  go_wp2_with ((with_reducible refine k1.mono ?_); rintro e w' ⟨rfl, rfl⟩)
  clear k1
  go_loopw [3, 14] (fun v i wr => ∃ j : Nat, j ≤ n - 6 ∧ i = .int .i64 j ∧ ∃ A c, v = .slice A (j + 1) c ∧ wr.ownsRow w.heap.size 31 1 (.slice A (j + 1) c) (j + 1) (uv (n :: l.used.take j)) ∧ Below w.heap.size w wr) (fun _ i _ => (n - 6) - (intOf i).toNat)
  case atStart => exact ⟨0, Nat.zero_le _, rfl, _, _, rfl, HO1.out, HB1.out⟩
  case round =>
    rename_i wr
    obtain ⟨j, hj, rfl, A, c, rfl, hO, hb⟩ := hrel
    have HB := Lib.hid hb
    have HO := Lib.hid hO
    clear hb hO
    by_cases hlt : j < n - 6
    · have hu := used_take H.out.ok (j := j) (by rw [← HN.out]; exact hlt)
      have hx := HA.out (l.at_.getD j 0)
      have hx2 : l.at_.getD j 0 < 1000 := by
        have ha := H.out.ok.a
        rw [List.getD_eq_getElem?_getD, List.getElem?_eq_getElem (by omega)]
        exact HA.out _ (List.getElem_mem _)
      have c1 := (H.out.after HB.out).at_ (i := j) (by omega)
      obtain ⟨x, hxx⟩ : ∃ x, x = l.at_.getD j 0 := ⟨_, rfl⟩
      rw [← hxx] at hu hx2 c1
      have HU := Lib.hid hu
      have hbr := HB.out.alloc HB.out.size (.cells #[.int .u64 (x : Int)] 31)
      have hbs : w.heap.size ≤ (wr.alloc (.cells #[.int .u64 (x : Int)] 31)).heap.size := hbr.size
      have HB2 := Lib.hid hbr
      have R2 : Row (wr.alloc (.cells #[.int .u64 (x : Int)] 31)) (wr.heap.size + 1) (some ⟨wr.heap.size, 0, none⟩) [.int .u64 (x : Int)] := Row.new wr #[.int .u64 (x : Int)] 31 (0, 0) wr.heap.size rfl (Nat.lt_succ_self _)
      have O2 := World.ownsRow.alloc HO.out (.cells #[.int .u64 (x : Int)] 31)
      have HOO := Lib.hid O2
      have HR := Lib.hid R2
      have hm : j + 1 + 1 ≤ maxLen := by simp only [maxLen]; omega
      have HM := Lib.hid hm
      have hj' : (j : Int) < 34 := by omega
      clear hu hx hxx hbr R2 O2 hm
      go_wp2_with (at_builtin; refine wpl_append_vals u64Tys rfl (.tmp 17) (.tmp 25) rfl (j + 1) rfl HOO.out _ _ _ [.int .u64 (x : Int)] 1 rfl rfl HR.out (by intro u hu; simp at hu; subst hu; rfl) (by omega) HM.out hbs (j + 1 + 1) rfl ?_; intro A8 c8 w8 O8 g8 h8)
      have O9 : w8.ownsRow w.heap.size 31 1 (.slice A8 (j + 1 + 1) c8) (j + 1 + 1) (uv (n :: l.used.take (j + 1))) := by
        rw [HU.out]
        have := O8
        rw [show ([Value.int .u64 (x : Int)] : List Value) = uv [x] from rfl, ← uv_append] at this
        exact this
      have b9 : Below w.heap.size w w8 := HB2.out.grown g8 hbs (fun k e => (World.ownsRow.lt HOO.out k e).1)
      exact ⟨⟨j + 1, by omega, by go_num, A8, c8, rfl, O9, b9⟩, by simp [intOf]; omega⟩
    · obtain rfl : j = n - 6 := by omega
      have hfull : l.used.take (n - 6) = l.used := List.take_of_length_le (by rw [Lay.used_length H.out.ok, HN.out]; exact Nat.le_refl _)
      obtain ⟨m, hm⟩ : ∃ m, m = n - 6 + 1 := ⟨_, rfl⟩
      have O0 := HO.out
      rw [hfull, ← hm] at O0
      have HO3 := Lib.hid O0
      have c1 := (H.out.after HB.out).n
      rw [← HN.out] at c1
      have hm35 : m ≤ 35 := by omega
      have HFm : Hid (m = (n :: l.used).length) := Lib.hid (by rw [List.length_cons, Lay.used_length H.out.ok, ← HN.out, hm])
      simp only [← hm]
      obtain ⟨W, hW⟩ : ∃ W, W = wr := ⟨_, rfl⟩
      subst hW
      have hml : (n - 6 : Nat) + 1 = m := hm.symm
      clear O0 HO hfull hj hm
      have d1 : decide (((n - 6 : Nat) : Int) < ((n - 6 : Nat) : Int)) = false := by simp
      go_wp2_with fail
      go_loopw [3, 32] (fun v i wr => ∃ j : Nat, j ≤ n ∧ i = .int .i64 j ∧ ∃ A c q, v = .slice A q c ∧ q ≤ m + j ∧ Hid (q = (n :: (l.used ++ l.lostTo j)).length) ∧ wr.ownsRow w.heap.size 31 1 (.slice A q c) q (uv (n :: (l.used ++ l.lostTo j))) ∧ Below w.heap.size w wr) (fun _ i _ => n - (intOf i).toNat)
      case atStart => exact ⟨0, Nat.zero_le _, rfl, _, _, _, rfl, Nat.le_refl _, Lib.hid (by rw [HFm.out]; simp [Lay.lostTo]), (by rw [show l.lostTo 0 = [] from rfl, List.append_nil]; exact HO3.out), HB.out⟩
      case round =>
        rename_i wr
        obtain ⟨j, hj, rfl, A, c, q, rfl, hq, HQ, hO, hb⟩ := hrel
        have HB3 := Lib.hid hb
        have HO4 := Lib.hid hO
        clear hb hO c1
        by_cases hlt : j < n
        · have c2 := (H.out.after HB3.out).lost (i := j) (by omega)
          have hj' : (j : Int) < 40 := by omega
          have hs := l.lostTo_succ j
          obtain ⟨t, ht⟩ : ∃ t, t = l.lostAt j := ⟨_, rfl⟩
          rw [← ht] at c2 hs
          have HS := Lib.hid hs
          clear ht hs
          cases t with
          | true =>
            have hbr := HB3.out.alloc HB3.out.size (.cells #[.int .u64 (j : Int)] 31)
            have hbs : w.heap.size ≤ (wr.alloc (.cells #[.int .u64 (j : Int)] 31)).heap.size := hbr.size
            have HB2 := Lib.hid hbr
            have R2 : Row (wr.alloc (.cells #[.int .u64 (j : Int)] 31)) (wr.heap.size + 1) (some ⟨wr.heap.size, 0, none⟩) [.int .u64 (j : Int)] := Row.new wr #[.int .u64 (j : Int)] 31 (0, 0) wr.heap.size rfl (Nat.lt_succ_self _)
            have O2 := World.ownsRow.alloc HO4.out (.cells #[.int .u64 (j : Int)] 31)
            have HOO := Lib.hid O2
            have HR := Lib.hid R2
            have hmx : q + 1 ≤ maxLen := by simp only [maxLen]; omega
            have HM := Lib.hid hmx
            clear hbr R2 O2 hmx
            go_wp2_with (at_builtin; refine wpl_append_vals u64Tys rfl (.tmp 41) (.tmp 44) rfl q rfl HOO.out _ _ _ [.int .u64 (j : Int)] 1 rfl rfl HR.out (by intro u hu; simp at hu; subst hu; rfl) (by omega) HM.out hbs (q + 1) rfl ?_; intro A8 c8 w8 O8 g8 h8)
            have O9 : w8.ownsRow w.heap.size 31 1 (.slice A8 (q + 1) c8) (q + 1) (uv (n :: (l.used ++ l.lostTo (j + 1)))) := by
              rw [HS.out, if_pos rfl, ← List.append_assoc, ← List.cons_append, uv_append]
              exact O8
            have b9 : Below w.heap.size w w8 := HB2.out.grown g8 hbs (fun k e => (World.ownsRow.lt HOO.out k e).1)
            exact ⟨⟨j + 1, by omega, by go_num, A8, c8, q + 1, rfl, by omega, Lib.hid (by rw [HS.out, if_pos rfl, HQ.out]; simp; omega), O9, b9⟩, by simp [intOf]; omega⟩
          | false =>
            go_wp2_with fail
            exact ⟨⟨j + 1, by omega, by go_num, A, c, q, rfl, by omega, Lib.hid (by rw [HS.out, if_neg (by simp), List.append_nil]; exact HQ.out), (by rw [HS.out, if_neg (by simp), List.append_nil]; exact HO4.out), HB3.out⟩, by simp [intOf]; omega⟩
        · obtain rfl : j = n := by omega
          have hO5 : wr.ownsRow w.heap.size 31 1 (.slice A q c) q (uv l.list) := by
            unfold Lay.list
            rw [← HN.out]
            exact HO4.out
          have hql : q = l.list.length := by
            unfold Lay.list
            rw [← HN.out]
            exact HQ.out
          subst hql
          have kn := nums_any 1 A l.list c wr wr.heap.size (Nat.le_refl _) (ownsRow_row hO5) (by have := Lay.list_length H.out.ok; omega)
          have HB5 := Lib.hid HB3.out
          clear HB3 HQ HO4 hO5
          go_wp2_with ((with_reducible refine kn.mono ?_); rintro e w9 ⟨A9, n9, c9, rfl, hn9, O9, b9⟩; have HN9 := Lib.hid hn9; clear hn9)
          go_ret
          have e1 : wid 1 = 1 := rfl
          have hn9 := HN9.out
          rw [e1] at O9 hn9
          exact ⟨A9, n9, c9, rfl, hn9, O9.lower HB5.out.size, HB5.out.trans (b9.mono HB5.out.size)⟩
end Go.Proofs.YtdiocjneakfdgaaGreatDoor

/- The contract of parse: a layout out of bytes. Condition: 16 to 40 blocks, the Reader is there. -/
namespace Go.Proofs.YtdiocjneakfdgaaGreatDoor
open Go.RowKit
def Lay.of (n : Nat) : Lay := ⟨n, List.replicate 34 0, List.replicate 40 false⟩
def Lay.setAt (l : Lay) (j b : Nat) : Lay := { l with at_ := l.at_.set j b }
def Lay.setLost (l : Lay) (b : Nat) : Lay := { l with lost := l.lost.set b true }
theorem Lay.of_ok {n : Nat} (h1 : 16 ≤ n) (h2 : n ≤ 40) : (Lay.of n).ok := ⟨h1, h2, by simp [Lay.of], by simp [Lay.of]⟩
theorem Lay.setAt_ok {l : Lay} (h : l.ok) (j b : Nat) : (l.setAt j b).ok := ⟨h.n1, h.n2, by simp [Lay.setAt, h.a], h.o⟩
theorem Lay.setLost_ok {l : Lay} (h : l.ok) (b : Nat) : (l.setLost b).ok := ⟨h.n1, h.n2, h.a, by simp [Lay.setLost, h.o]⟩
theorem Lay.row_setAt {l : Lay} (h : l.ok) {j : Nat} (hj : j < 34) (b : Nat) : l.row.set (1 + j) (.int .i64 (b : Int)) = (l.setAt j b).row := by
  rw [Nat.add_comm, Lay.row, List.set_cons_succ, List.set_append_left _ _ (by simp [iv, h.a, hj])]
  simp [Lay.row, Lay.setAt, iv, List.map_set]
theorem Lay.row_setLost {l : Lay} (h : l.ok) (j : Nat) : l.row.set (35 + j) (.bool true) = (l.setLost j).row := by
  rw [show 35 + j = (34 + j) + 1 by omega, Lay.row, List.set_cons_succ, List.set_append_right _ _ (by simp [iv, h.a]), show 34 + j - (iv l.at_).length = j by simp [iv, h.a]]
  simp [Lay.row, Lay.setLost, List.map_set]
def Lay.takeAt : Nat → Nat → Lay → List UInt8 → Option (Lay × List UInt8)
  | 0, _, l, bs => some (l, bs)
  | k + 1, j, l, bs => if l.isSpare ((bs.headD 0).toNat : Nat) then Lay.takeAt k (j + 1) (l.setAt j (bs.headD 0).toNat) bs.tail else none
def Lay.takeLost : Lay → List UInt8 → Option Lay
  | l, [] => some l
  | l, b :: bs => if l.isSpare (b.toNat : Nat) then Lay.takeLost (l.setLost b.toNat) bs else none
def Lay.parse (n : Nat) (bs : List UInt8) : Option Lay :=
  if (bs.headD 0).toNat = n then (Lay.takeAt (n - 6) 0 (Lay.of n) bs.tail).bind fun x => Lay.takeLost x.1 x.2 else none
theorem aggLay (w : World) : (isAgg 123).run Tryz.prog w = .ok true w := by kernel_rfl
theorem sizeLay (w : World) : (sizeOf 123).run Tryz.prog w = .ok 75 w := by kernel_rfl
theorem zeroLay (w : World) : (zeroValue 123).run Tryz.prog w = .ok (.agg (Lay.of 0).row.toArray) w := by kernel_rfl
theorem buildLay0 (w : World) : (Instr.build 123 #[]).run Tryz.prog w = .ok (.agg (Lay.of 0).row.toArray) w := by kernel_rfl
theorem Lay.one (l : Lay) : ∀ v ∈ l.row, v.oneCell' = true := fun v hv => by
  rcases List.mem_cons.1 hv with rfl | hv
  · rfl
  · rcases List.mem_append.1 hv with h | h
    · obtain ⟨_, _, rfl⟩ := List.mem_map.1 h; rfl
    · obtain ⟨_, _, rfl⟩ := List.mem_map.1 h; rfl
theorem Lay.zero_length : (Lay.of 0).row.length = 75 := rfl
/-- one byte is read, or there is none -/
theorem rnum1 (g h : Nat) (l : List UInt8) (bad : Bool) (w : World) (hr : Rd w g h l bad) :
    Calls Tryz.prog 69 #[.pointer (some ⟨g, 0, none⟩), .int .i64 1] w fun e w' => e = .returned (.int .u64 (((l.headD 0).toNat : Nat) : Int)) ∧ (∃ bad', Rd w' g h l.tail bad') ∧ w.grownBy w' (some g) := by
  have e1 : wid 1 = 1 := rfl
  cases l with
  | nil =>
    refine (rnum_no g h [] bad 1 w hr (by rw [e1]; simp)).mono ?_
    rintro e w' ⟨rfl, h1, h2⟩
    exact ⟨rfl, ⟨_, h1⟩, h2⟩
  | cons b bs =>
    refine (rnum_yes g h (b :: bs) bad 1 w hr (by rw [e1]; simp)).mono ?_
    rintro e w' ⟨rfl, h1, h2⟩
    rw [e1] at h1 ⊢
    refine ⟨?_, ⟨_, h1⟩, h2⟩
    simp [le]
theorem segSet_all {cs vs : List Value} (h : cs.length = vs.length) : segSet cs 0 vs = vs := by
  simp [segSet, List.drop_eq_nil_of_le (Nat.le_of_eq h)]
theorem lay_ret2 {fn : Func} {p u : Tmp} {w : World} {g : Nat} {t : TypeId} {vs : List Value} (h : fn.results = #[.cell p 123, .tmp u]) (tmps : Array Value) (hB : Blk w g t vs) (hn : vs.length = 75) (hp : tmps.getD p undef = .pointer (some ⟨g, 0, none⟩)) :
    (results fn tmps).run Tryz.prog w = .ok (.tuple #[.agg vs.toArray, tmps.getD u undef]) w :=
  sret2 aggLay sizeLay h tmps hB (by rw [List.drop_zero, List.take_of_length_le (by omega)]) hn hp
theorem Lay.isSpare_lt {l : Lay} {b : Int} (h : l.isSpare b = true) : 2 ≤ b ∧ b < l.n := by
  unfold Lay.isSpare at h
  simp only [Bool.and_eq_true, decide_eq_true_eq] at h
  exact ⟨h.1, h.2.1⟩
theorem takeAt_ok : ∀ (k j : Nat) (l : Lay) (bs : List UInt8), l.ok → ∀ x, Lay.takeAt k j l bs = some x → x.1.ok
  | 0, _, l, bs, h, x, e => by
    cases e
    exact h
  | k + 1, j, l, bs, h, x, e => by
    unfold Lay.takeAt at e
    split at e
    · exact takeAt_ok k (j + 1) _ _ (Lay.setAt_ok h _ _) x e
    · cases e
set_option maxRecDepth 100000 in
set_option maxHeartbeats 8000000 in
theorem parse_any (n : Nat) (hn1 : 16 ≤ n) (hn2 : n ≤ 40) (g q : Nat) (bs : List UInt8) (bad : Bool) (w : World) (hr : Rd w g q bs bad) (hh : q < w.heap.size) :
    Calls Tryz.prog 130 #[.int .i64 (n : Int), .pointer (some ⟨g, 0, none⟩)] w fun e w' => e = .returned (.tuple #[.agg ((Lay.parse n bs).getD (Lay.of 0)).row.toArray, .bool (Lay.parse n bs).isSome]) ∧ Chg w w' (fun k => k = g) := by
  have hg := hr.lt
  have z := zeroLay
  have y0 := buildLay0
  have R0 : Blk ((w.alloc (.cells (Lay.of 0).row.toArray 123)).alloc (.cells (Lay.of 0).row.toArray 123)) w.heap.size 123 (Lay.of 0).row := (Blk.new w _ _).alloc _
  have L0 : Blk ((w.alloc (.cells (Lay.of 0).row.toArray 123)).alloc (.cells (Lay.of 0).row.toArray 123)) (w.heap.size + 1) 123 (Lay.of 0).row := by
    have := Blk.new (w.alloc (.cells (Lay.of 0).row.toArray 123)) 123 (Lay.of 0).row
    rw [World.size_alloc] at this
    exact this
  have b0 : Below w.heap.size w ((w.alloc (.cells (Lay.of 0).row.toArray 123)).alloc (.cells (Lay.of 0).row.toArray 123)) := ((Below.refl _ _).alloc (Nat.le_refl _) _).alloc (by simp) _
  have hln : (Lay.of n).row.length = 75 := rfl
  have hl0 : (Lay.of 0).row.length = 75 := rfl
  have hs0 := segSet_all (hl0.trans hln.symm)
  have HR := Lib.hid R0
  have HB := Lib.hid b0
  have HH := Lib.hid hh
  have HG := Lib.hid hg
  have HQ := Lib.hid hr
  have HL0 := Lib.hid hl0
  have HLN := Lib.hid hln
  clear R0 b0 hr hh hg hl0 hln
  have hsz1 : Hid ((w.heap.size + 1) ≠ g) := Lib.hid (by have := HG.out; omega)
  have hsz0 : Hid (w.heap.size ≠ g) := Lib.hid (by have := HG.out; omega)
  go_enter Tryz.func130, Tryz.ntmps130
  go_wp2_with (with_reducible refine wpl_seg_store sizeLay (.tmp 6) (.tmp 11) rfl rfl L0 0 (Lay.of n).row HLN.out (by rw [HL0.out]; exact Nat.le_refl _) (Lay.one _) rfl rfl _ hs0 ?_; intro w1 L1 g1 e1)
  have R1 := Lib.hid (HR.out.grown g1 (by simp))
  have B1 : Hid (Below w.heap.size w w1) := Lib.hid (HB.out.grown g1 (by simp; omega) (fun k e => by cases e; omega))
  have k1 := rnum1 g q bs bad w1 (HQ.out.same B1.out HH.out)
  obtain ⟨x, hx⟩ : ∃ x, x = (bs.headD 0).toNat := ⟨_, rfl⟩
  rw [← hx] at k1
  have hx256 : x < 256 := by rw [hx]; exact (bs.headD 0).toNat_lt
  have HX := Lib.hid hx
  have HL1 := Lib.hid L1
  clear L0 L1 g1 e1 HR HB hx
  ((with_reducible refine k1.mono ?_); rintro e w2 ⟨rfl, ⟨bad2, Q2⟩, g2⟩)
  have R2 := Lib.hid (R1.out.grown g2 (by simpa using hsz0.out))
  have L2 := Lib.hid (HL1.out.grown g2 (by simpa using hsz1.out))
  have C2 : Hid (Chg w w2 (fun k => k = g ∨ w.heap.size ≤ k)) := Lib.hid ((Chg.of_below ⟨B1.out.os, B1.out.tape, B1.out.output, B1.out.size, B1.out.block⟩).trans (Chg.of_grown g2 (fun k e => .inl (Option.some.inj e))))
  have HQ2 := Lib.hid Q2
  clear k1 R1 B1 HL1 HQ g2 Q2
  by_cases hxn : x = n
  · subst hxn
    have hxx : decide ((x : Int) = (x : Int)) = true := by simp
    have k2 := lsize_any (w.heap.size + 1) 0 (Lay.of x) w2 (L2.out.lay (Lay.of_ok hn1 hn2) (by rw [List.drop_zero, List.take_of_length_le (by rw [HLN.out]; exact Nat.le_refl _)]))
    rw [show (Lay.of x).n = x from rfl] at k2
    go_wp2_with ((with_reducible refine k2.mono ?_); rintro e w' ⟨rfl, rfl⟩)
    obtain ⟨W2, hW2⟩ : ∃ W2, W2 = w2 := ⟨_, rfl⟩
    subst hW2
    clear k2 hxx
    go_loopw [19] (fun i wr => ∃ j : Nat, j ≤ x - 6 ∧ i = .int .i64 j ∧ ∃ (l : Lay) (rest : List UInt8) (bd : Bool), l.ok ∧ l.n = x ∧ Blk wr (w.heap.size + 1) 123 l.row ∧ Blk wr w.heap.size 123 (Lay.of 0).row ∧ Rd wr g q rest bd ∧ Chg w wr (fun k => k = g ∨ w.heap.size ≤ k) ∧ Lay.takeAt (x - 6) 0 (Lay.of x) bs.tail = Lay.takeAt (x - 6 - j) j l rest) (fun i _ => (x - 6) - (intOf i).toNat)
    case atStart => exact ⟨0, Nat.zero_le _, rfl, _, _, _, Lay.of_ok hn1 hn2, rfl, L2.out, R2.out, HQ2.out, C2.out, rfl⟩
    case round =>
      rename_i wr
      obtain ⟨j, hj, rfl, l, rest, bd, hok, hln, hL, hR, hQ, hC, hT⟩ := hrel
      clear L2 R2 HQ2 C2
      have HL := Lib.hid hL
      have HR := Lib.hid hR
      have HQ := Lib.hid hQ
      have HC := Lib.hid hC
      have HT := Lib.hid hT
      have HOK := Lib.hid hok
      have HN := Lib.hid hln
      clear hL hR hQ hC hT hok hln
      by_cases hlt : j < x - 6
      · have k1 := rnum1 g q rest bd wr HQ.out
        obtain ⟨y, hy⟩ : ∃ y, y = (rest.headD 0).toNat := ⟨_, rfl⟩
        rw [← hy] at k1
        have hy256 : y < 256 := by rw [hy]; exact (rest.headD 0).toNat_lt
        have hT2 : Lay.takeAt (x - 6) 0 (Lay.of x) bs.tail = if l.isSpare (y : Int) then Lay.takeAt (x - 6 - (j + 1)) (j + 1) (l.setAt j y) rest.tail else none := by
          rw [HT.out, show x - 6 - j = (x - 6 - (j + 1)) + 1 by omega, Lay.takeAt, ← hy]
        have HT2 := Lib.hid hT2
        have hk2 : ∀ w3, wr.grownBy w3 (some g) → LayAt w3 (w.heap.size + 1) 0 l := fun w3 g3 => (HL.out.grown g3 (by simpa using hsz1.out)).lay HOK.out (by rw [List.drop_zero, List.take_of_length_le (by rw [Lay.row_length HOK.out]; exact Nat.le_refl _)])
        obtain ⟨t, ht⟩ : ∃ t, t = l.isSpare (y : Int) := ⟨_, rfl⟩
        have k2 : ∀ w3, wr.grownBy w3 (some g) → _ := fun w3 g3 => isSpare_any (w.heap.size + 1) 0 l (y : Int) w3 (hk2 w3 g3)
        rw [← ht] at hT2
        simp only [← ht] at k2
        have HT2 := Lib.hid hT2
        clear hT2 ht hy hk2
        cases t with
        | true =>
          have hj34 : j < 34 := by omega
          have hj' : (j : Int) < 34 := by omega
          have HJ := Lib.hid hj34
          go_wp2_with (first
            | ((with_reducible refine k1.mono ?_); rintro e w3 ⟨rfl, ⟨bad3, Q3⟩, g3⟩; have s3 := k2 w3 g3; have L3 := HL.out.grown g3 (by simpa using hsz1.out))
            | ((with_reducible refine s3.mono ?_); rintro e w4 ⟨rfl, k4, rfl⟩; have L4 : Blk (w3.drewN k4) (w.heap.size + 1) 123 l.row := L3)
            | (with_reducible refine wpl_blk_int .i64 (y : Int) int_one (.tmp 32) (.tmp 30) rfl rfl L4 (1 + j) (by rw [Lay.row_length HOK.out]; omega) rfl rfl _ (Lay.row_setAt HOK.out HJ.out y) ?_; intro w5 L5 g5 e5))
          have hszw : w.heap.size ≤ (w3.drewN k4).heap.size := Nat.le_trans HC.out.size g3.size
          have R5 := (HR.out.grown g3 (by simpa using hsz0.out)).grown (w := w3.drewN k4) g5 (by simp)
          have hgl : g < (w3.drewN k4).heap.size := Nat.lt_of_lt_of_le HG.out hszw
          have hql : q < (w3.drewN k4).heap.size := Nat.lt_of_lt_of_le HH.out hszw
          have Q5 := Q3.keep (w' := w5) (g5.block g hgl (by simp; have := HG.out; omega)) (g5.block q hql (by simp; have := HH.out; omega))
          have C5 : Chg w w5 (fun k => k = g ∨ w.heap.size ≤ k) := ((HC.out.trans (Chg.of_grown g3 (fun k e => .inl (Option.some.inj e)))).trans (Chg.of_below (drewN_below w3 k4))).trans (Chg.of_grown g5 (fun k e => .inr (by rw [Option.some.inj e]; omega)))
          exact ⟨⟨j + 1, by omega, by go_num, l.setAt j y, rest.tail, bad3, Lay.setAt_ok HOK.out j y, HN.out, L5, R5, Q5, C5, by rw [HT2.out]; simp⟩, by simp [intOf]; omega⟩
        | false =>
          have hs00 := segSet_all (HL0.out.trans HL0.out.symm)
          go_wp2_with (first
            | ((with_reducible refine k1.mono ?_); rintro e w3 ⟨rfl, ⟨bad3, Q3⟩, g3⟩; have s3 := k2 w3 g3; have R3 := HR.out.grown g3 (by simpa using hsz0.out))
            | ((with_reducible refine s3.mono ?_); rintro e w4 ⟨rfl, k4, rfl⟩; have R4 : Blk (w3.drewN k4) w.heap.size 123 (Lay.of 0).row := R3)
            | (with_reducible refine wpl_seg_store sizeLay (.tmp 4) (.tmp 28) rfl rfl R4 0 (Lay.of 0).row HL0.out (by rw [HL0.out]; exact Nat.le_refl _) (Lay.one _) rfl rfl _ hs00 ?_; intro w5 R5 g5 e5))
          have hp : Lay.parse x bs = none := by
            unfold Lay.parse
            rw [← HX.out, if_pos rfl, HT2.out]
            simp
          refine bodyPost_ret (lay_ret2 rfl _ R5 HL0.out rfl) rfl ?_
          rw [hp]
          exact ⟨rfl, (((HC.out.trans (Chg.of_grown g3 (fun k e => .inl (Option.some.inj e)))).trans (Chg.of_below (drewN_below w3 k4))).trans (Chg.of_grown g5 (fun k e => .inr (by rw [Option.some.inj e]; exact Nat.le_refl _)))).more (fun k hk h => by omega)⟩
      · obtain rfl : j = x - 6 := by omega
        have hT2 : Lay.parse x bs = Lay.takeLost l rest := by
          unfold Lay.parse
          rw [← HX.out, if_pos rfl, HT.out, Nat.sub_self]
          rfl
        have HT2 := Lib.hid hT2
        have d1 : decide (((x - 6 : Nat) : Int) < ((x - 6 : Nat) : Int)) = false := by simp
        obtain ⟨W3, hW3⟩ : ∃ W3, W3 = wr := ⟨_, rfl⟩
        subst hW3
        clear hT2 HT
        go_wp2_with fail
        go_loopw [] (fun wr => ∃ (l : Lay) (rest : List UInt8) (bd : Bool), l.ok ∧ Blk wr (w.heap.size + 1) 123 l.row ∧ Blk wr w.heap.size 123 (Lay.of 0).row ∧ Rd wr g q rest bd ∧ Chg w wr (fun k => k = g ∨ w.heap.size ≤ k) ∧ Lay.parse x bs = Lay.takeLost l rest) (fun wr => match wr.cell? ⟨g, 0, none⟩ with | some (.slice _ n _) => n | _ => 0)
        case atStart => exact ⟨_, _, _, HOK.out, HL.out, HR.out, HQ.out, HC.out, HT2.out⟩
        case round =>
          rename_i wr
          obtain ⟨l, rest, bd, hok, hL, hR, hQ, hC, hT⟩ := hrel
          have hcell : ∃ A c, wr.cell? ⟨g, 0, none⟩ = some (.slice A rest.length c) := by
            obtain ⟨_, A, m, c, rfl, _, _, hblk, _⟩ := hQ
            exact ⟨A, c, by rw [blk_cell hblk]; rfl⟩
          obtain ⟨A0, cc0, hcell⟩ := hcell
          have HCL := Lib.hid hcell
          have HL := Lib.hid hL
          have HR := Lib.hid hR
          have HQ := Lib.hid hQ
          have HC := Lib.hid hC
          have HT := Lib.hid hT
          have HOK := Lib.hid hok
          have kl := left_any g q rest bd wr HQ.out
          clear hL hR hQ hC hT hok hcell
          cases rest with
          | nil =>
            have d2 : decide ((0 : Int) < (([] : List UInt8).length : Int)) = false := by simp
            have L0 := HL.out
            have R0 := HR.out
            have hs1 := segSet_all (HL0.out.trans (Lay.row_length HOK.out).symm)
            have hag := aggLay
            go_wp2_with (first
              | ((with_reducible refine kl.mono ?_); rintro e w3 ⟨rfl, rfl⟩)
              | (with_reducible refine wpl_seg_load aggLay sizeLay (.tmp 6) rfl rfl L0 0 l.row (by rw [List.drop_zero, List.take_of_length_le (by rw [Lay.row_length HOK.out]; exact Nat.le_refl _)]) (Lay.row_length HOK.out) rfl ?_)
              | (with_reducible refine wpl_seg_store sizeLay (.tmp 4) (.tmp 47) rfl rfl R0 0 l.row (Lay.row_length HOK.out) (by rw [HL0.out]; exact Nat.le_refl _) (Lay.one _) rfl rfl _ hs1 ?_; intro w5 R5 g5 e5))
            refine bodyPost_ret (lay_ret2 rfl _ R5 (Lay.row_length HOK.out) rfl) rfl ?_
            rw [HT.out]
            exact ⟨rfl, (HC.out.trans (Chg.of_grown g5 (fun k e => .inr (by rw [Option.some.inj e]; exact Nat.le_refl _)))).more (fun k hk h => by omega)⟩
          | cons b tl =>
            have d2 : decide ((0 : Int) < ((b :: tl).length : Int)) = true := by simp
            have k1 := rnum1 g q (b :: tl) bd wr HQ.out
            have hb : ((b :: tl).headD 0).toNat = b.toNat := rfl
            have htl : (b :: tl).tail = tl := rfl
            rw [hb, htl] at k1
            have hT2 : Lay.parse x bs = if l.isSpare (b.toNat : Nat) then Lay.takeLost (l.setLost b.toNat) tl else none := HT.out
            obtain ⟨y, hy⟩ : ∃ y, y = b.toNat := ⟨_, rfl⟩
            rw [← hy] at k1 hT2
            have hy256 : y < 256 := by rw [hy]; exact b.toNat_lt
            have hk2 : ∀ w3, wr.grownBy w3 (some g) → LayAt w3 (w.heap.size + 1) 0 l := fun w3 g3 => (HL.out.grown g3 (by simpa using hsz1.out)).lay HOK.out (by rw [List.drop_zero, List.take_of_length_le (by rw [Lay.row_length HOK.out]; exact Nat.le_refl _)])
            obtain ⟨t, ht⟩ : ∃ t, t = l.isSpare (y : Int) := ⟨_, rfl⟩
            have k2 : ∀ w3, wr.grownBy w3 (some g) → _ := fun w3 g3 => isSpare_any (w.heap.size + 1) 0 l (y : Int) w3 (hk2 w3 g3)
            rw [← ht] at hT2
            simp only [← ht] at k2
            have HT2 := Lib.hid hT2
            have HTT := Lib.hid ht
            clear hT2 ht hy hk2 hb htl
            cases t with
            | true =>
              have hlt2 := Lay.isSpare_lt HTT.out.symm
              have hn40 := HOK.out.n2
              have hj' : (y : Int) < 40 := by omega
              have hyn : Hid (y < 40) := Lib.hid (by omega)
              clear hlt2 hn40
              go_wp2_with (first
                | ((with_reducible refine kl.mono ?_); rintro e w3 ⟨rfl, rfl⟩)
                | ((with_reducible refine k1.mono ?_); rintro e w3 ⟨rfl, ⟨bad3, Q3⟩, g3⟩; have s3 := k2 w3 g3; have L3 := HL.out.grown g3 (by simpa using hsz1.out))
                | ((with_reducible refine s3.mono ?_); rintro e w4 ⟨rfl, k4, rfl⟩; have L4 : Blk (w3.drewN k4) (w.heap.size + 1) 123 l.row := L3)
                | (with_reducible refine wpl_blk_bool true bool_one (.tmp 46) (.const (.bool true)) rfl rfl L4 (35 + y) (by rw [Lay.row_length HOK.out]; have := hyn.out; omega) rfl rfl _ (Lay.row_setLost HOK.out y) ?_; intro w5 L5 g5 e5; simp only [Act.put]))
              have hszw : w.heap.size ≤ (w3.drewN k4).heap.size := Nat.le_trans HC.out.size g3.size
              have R5 := (HR.out.grown g3 (by simpa using hsz0.out)).grown (w := w3.drewN k4) g5 (by simp)
              have hgl : g < (w3.drewN k4).heap.size := Nat.lt_of_lt_of_le HG.out hszw
              have hql : q < (w3.drewN k4).heap.size := Nat.lt_of_lt_of_le HH.out hszw
              have Q5 := Q3.keep (w' := w5) (g5.block g hgl (by simp; have := HG.out; omega)) (g5.block q hql (by simp; have := HH.out; omega))
              have C5 : Chg w w5 (fun k => k = g ∨ w.heap.size ≤ k) := ((HC.out.trans (Chg.of_grown g3 (fun k e => .inl (Option.some.inj e)))).trans (Chg.of_below (drewN_below w3 k4))).trans (Chg.of_grown g5 (fun k e => .inr (by rw [Option.some.inj e]; omega)))
              have hc5 : ∃ A c, w5.cell? ⟨g, 0, none⟩ = some (.slice A tl.length c) := by
                obtain ⟨_, A, m, c, rfl, _, _, hblk, _⟩ := Q5
                exact ⟨A, c, by rw [blk_cell hblk]; rfl⟩
              obtain ⟨A5, cc5, hc5⟩ := hc5
              exact ⟨⟨l.setLost y, tl, bad3, Lay.setLost_ok HOK.out y, L5, R5, Q5, C5, by rw [HT2.out]; simp⟩, by rw [hc5, HCL.out]; simp⟩
            | false =>
              have hs00 := segSet_all (HL0.out.trans HL0.out.symm)
              go_wp2_with (first
                | ((with_reducible refine kl.mono ?_); rintro e w3 ⟨rfl, rfl⟩)
                | ((with_reducible refine k1.mono ?_); rintro e w3 ⟨rfl, ⟨bad3, Q3⟩, g3⟩; have s3 := k2 w3 g3; have R3 := HR.out.grown g3 (by simpa using hsz0.out))
                | ((with_reducible refine s3.mono ?_); rintro e w4 ⟨rfl, k4, rfl⟩; have R4 : Blk (w3.drewN k4) w.heap.size 123 (Lay.of 0).row := R3)
                | (with_reducible refine wpl_seg_store sizeLay (.tmp 4) (.tmp 43) rfl rfl R4 0 (Lay.of 0).row HL0.out (by rw [HL0.out]; exact Nat.le_refl _) (Lay.one _) rfl rfl _ hs00 ?_; intro w5 R5 g5 e5))
              have hp : Lay.parse x bs = none := by
                rw [HT2.out]
                simp
              refine bodyPost_ret (lay_ret2 rfl _ R5 HL0.out rfl) rfl ?_
              rw [hp]
              exact ⟨rfl, (((HC.out.trans (Chg.of_grown g3 (fun k e => .inl (Option.some.inj e)))).trans (Chg.of_below (drewN_below w3 k4))).trans (Chg.of_grown g5 (fun k e => .inr (by rw [Option.some.inj e]; exact Nat.le_refl _)))).more (fun k hk h => by omega)⟩
  · have d1 : ((x : Int) != (n : Int)) = true := by simp; omega
    have R2' := R2.out
    have hs00 := segSet_all (HL0.out.trans HL0.out.symm)
    have hp : Lay.parse n bs = none := by unfold Lay.parse; rw [← HX.out, if_neg hxn]
    have HP := Lib.hid hp
    clear hxn hp
    go_wp2_with (with_reducible refine wpl_seg_store sizeLay (.tmp 4) (.tmp 17) rfl rfl R2' 0 (Lay.of 0).row HL0.out (by rw [HL0.out]; exact Nat.le_refl _) (Lay.one _) rfl rfl _ hs00 ?_; intro w3 R3 g3 e3)
    refine bodyPost_ret (lay_ret2 rfl _ R3 HL0.out rfl) rfl ?_
    rw [HP.out]
    exact ⟨rfl, (C2.out.trans (Chg.of_grown g3 (fun k e => .inr (by rw [Option.some.inj e]; exact Nat.le_refl _)))).more (fun k hk h => by omega)⟩
end Go.Proofs.YtdiocjneakfdgaaGreatDoor

