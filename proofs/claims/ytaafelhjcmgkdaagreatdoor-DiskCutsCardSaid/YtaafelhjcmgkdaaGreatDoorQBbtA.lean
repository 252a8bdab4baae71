/- Several texts of the proof, joined: what each has is said at its head. -/
import Derived.Test.YtaafelhjcmgkdaaGreatDoorQCore
import Derived.Test.YtaafelhjcmgkdaaGreatDoorQNandA
import Derived.Deep.QuietTactic
import Derived.BigQuiet
import Derived.Laws.OwnMore
/- The layout of a table: what stands where, and the contracts of the calls that only look at it. No condition but that it is there. -/
namespace Go.Proofs.YtaafelhjcmgkdaaGreatDoor
open Go.RowKit
/-- a layout: how many blocks, those of the logical ones, which are lost -/
structure Lay where
  n : Nat
  at_ : List Nat
  lost : List Bool
def iv (zs : List Nat) : List Value := zs.map fun z : Nat => Value.int .i64 (z : Int)
def Lay.row (l : Lay) : List Value := .int .i64 (l.n : Int) :: (iv l.at_ ++ l.lost.map Value.bool)
structure Lay.ok (l : Lay) : Prop where
  n1 : 16 ≤ l.n
  n2 : l.n ≤ 40
  a : l.at_.length = 34
  o : l.lost.length = 40
def Lay.used (l : Lay) : List Nat := l.at_.take (l.n - 6)
def Lay.lostAt (l : Lay) (b : Nat) : Bool := l.lost.getD b false
def Lay.isSpare (l : Lay) (b : Int) : Bool := decide (2 ≤ b) && (decide (b < l.n) && (!l.lostAt b.toNat && !decide (b.toNat ∈ l.used)))
def Lay.lossesTo (l : Lay) (k : Nat) : Nat := ((List.range k).filter fun b => l.lostAt b).length
def Lay.losses (l : Lay) : Nat := l.lossesTo l.n
def Lay.spare (l : Lay) : Option Nat := (List.range l.n).find? fun b => l.isSpare (b : Int)
theorem Lay.lossesTo_succ (l : Lay) (k : Nat) : l.lossesTo (k + 1) = l.lossesTo k + if l.lostAt k then 1 else 0 := by
  unfold Lay.lossesTo
  rw [List.range_succ, List.filter_append, List.length_append]
  cases h : l.lostAt k <;> simp [h]
theorem Lay.lossesTo_le (l : Lay) (k : Nat) : l.lossesTo k ≤ k := by
  unfold Lay.lossesTo
  exact Nat.le_trans (List.length_filter_le _ _) (by simp)
theorem Lay.used_length {l : Lay} (h : l.ok) : l.used.length = l.n - 6 := by
  unfold Lay.used
  rw [List.length_take, h.a]
  have := h.n2
  omega
theorem Lay.row_length {l : Lay} (h : l.ok) : l.row.length = 75 := by
  simp [Lay.row, iv, h.a, h.o]
theorem Lay.row_at {l : Lay} (h : l.ok) {i : Nat} (hi : i < 34) : l.row[1 + i]? = some (.int .i64 ((l.at_.getD i 0 : Nat) : Int)) := by
  have hi' : i < l.at_.length := by rw [h.a]; exact hi
  rw [Nat.add_comm, Lay.row, List.getElem?_cons_succ, List.getElem?_append_left (by simpa [iv] using hi'), iv, List.getElem?_map, List.getD_eq_getElem?_getD, List.getElem?_eq_getElem hi']
  rfl
theorem Lay.row_lost {l : Lay} (h : l.ok) {i : Nat} (hi : i < 40) : l.row[35 + i]? = some (.bool (l.lostAt i)) := by
  have hi' : i < l.lost.length := by rw [h.o]; exact hi
  rw [show 35 + i = (34 + i) + 1 by omega, Lay.row, List.getElem?_cons_succ, List.getElem?_append_right (by simp [iv, h.a]), show 34 + i - (iv l.at_).length = i by simp [iv, h.a], Lay.lostAt, List.getElem?_map, List.getD_eq_getElem?_getD, List.getElem?_eq_getElem hi']
  rfl
/-- at the place o of block g lies a layout -/
structure LayAt (w : World) (g o : Nat) (l : Lay) : Prop where
  cell : ∀ (i : Nat) (v : Value), l.row[i]? = some v → w.cell? ⟨g, o + i, none⟩ = some v
  lt : g < w.heap.size
  ok : l.ok
section
variable {w w' : World} {g o : Nat} {l : Lay}
theorem LayAt.after (h : LayAt w g o l) (hb : Below w.heap.size w w') : LayAt w' g o l := ⟨fun i v hv => (hb.cell h.lt).trans (h.cell i v hv), Nat.lt_of_lt_of_le h.lt hb.size, h.ok⟩
theorem LayAt.drewN (h : LayAt w g o l) (k : Nat) : LayAt (w.drewN k) g o l := h.after ⟨rfl, rfl, rfl, Nat.le_refl _, fun _ _ => rfl⟩
theorem LayAt.n (h : LayAt w g o l) : w.cell? ⟨g, o, none⟩ = some (.int .i64 (l.n : Int)) := h.cell 0 _ rfl
theorem LayAt.at_ (h : LayAt w g o l) {i : Nat} (hi : i < 34) : w.cell? ⟨g, o + 1 + i, none⟩ = some (.int .i64 ((l.at_.getD i 0 : Nat) : Int)) := by
  rw [Nat.add_assoc]
  exact h.cell _ _ (Lay.row_at h.ok hi)
theorem LayAt.lost (h : LayAt w g o l) {i : Nat} (hi : i < 40) : w.cell? ⟨g, o + 35 + i, none⟩ = some (.bool (l.lostAt i)) := by
  rw [Nat.add_assoc]
  exact h.cell _ _ (Lay.row_lost h.ok hi)
theorem Blk.lay {t : TypeId} {cs : List Value} (h : Blk w g t cs) (hl : l.ok) (hc : (cs.drop o).take 75 = l.row) : LayAt w g o l :=
  ⟨fun i v hv => by
    rw [h.cell]
    have hlt := get_lt hv
    rw [Lay.row_length hl] at hlt
    rw [← hc, List.getElem?_take_of_lt hlt, List.getElem?_drop] at hv
    exact hv, h.lt, hl⟩
end
theorem lsize_any (g o : Nat) (l : Lay) (w : World) (h : LayAt w g o l) : Calls Tryz.prog 72 #[.pointer (some ⟨g, o, none⟩)] w fun e w' => e = .returned (.int .i64 ((l.n - 6 : Nat) : Int)) ∧ w = w' := by
  have c0 := h.n
  have h1 := h.ok.n1
  have h2 := h.ok.n2
  obtain ⟨m, hm⟩ : ∃ m, l.n = m + 6 := ⟨l.n - 6, by omega⟩
  rw [hm] at c0 h1 h2
  rw [hm, Nat.add_sub_cancel]
  clear h hm
  go_enter Tryz.func72, Tryz.ntmps72
  go_wp2
  go_ret
  refine ⟨?_, rfl⟩
  exact ret_int (by omega)
theorem lhas_any (g o : Nat) (l : Lay) (b : Int) (w : World) (h : LayAt w g o l) : Calls Tryz.prog 69 #[.pointer (some ⟨g, o, none⟩), .int .i64 b] w fun e w' => e = .returned (.bool (decide (0 ≤ b ∧ b < ((l.n - 6 : Nat) : Int)))) ∧ w = w' := by
  have k1 := lsize_any g o l w h
  clear h
  obtain ⟨m, hm⟩ : ∃ m, m = l.n - 6 := ⟨_, rfl⟩
  rw [← hm] at k1 ⊢
  clear hm
  by_cases c1 : 0 ≤ b
  · have d1 : decide (0 ≤ b) = true := by simp [c1]
    obtain ⟨d, hd⟩ : ∃ d, d = decide (b < (m : Int)) := ⟨_, rfl⟩
    have hh : decide (0 ≤ b ∧ b < (m : Int)) = d := by rw [hd]; simp [c1]
    rw [hh]
    have hd' := hd.symm
    clear c1 hh hd
    go_enter Tryz.func69, Tryz.ntmps69
    go_wp2_with ((with_reducible refine k1.mono ?_); rintro e w' ⟨rfl, rfl⟩)
    go_ret
    exact ⟨rfl, rfl⟩
  · have d1 : decide (0 ≤ b) = false := by simp [c1]
    rw [decide_eq_false (fun h => c1 h.1)]
    clear c1
    go_enter Tryz.func69, Tryz.ntmps69
    go_wp2_with fail
    go_ret
    exact ⟨rfl, rfl⟩
/-- the first place of b in zs, from there on -/
theorem index_int (A : Option Addr) (zs : List Nat) (c : Nat) (b : Int) (w : World) (B : Nat) (hr : Row w B A (iv zs)) (hz : zs.length ≤ 1000) :
    Calls Tryz.prog 97 #[.slice A zs.length c, .int .i64 b] w fun e w' => (∃ i : Int, e = .returned (.int .i64 i) ∧ decide (0 ≤ i) = (zs.map Int.ofNat).contains b) ∧ w = w' := by
  have HR := Lib.hid hr
  clear hr
  go_enter Tryz.func97, Tryz.ntmps97
  go_wp2_with fail
  go_loopw [8] (fun i wr => ∃ j : Nat, j ≤ zs.length ∧ i = .int .i64 j ∧ wr = w ∧ ((zs.take j).map Int.ofNat).contains b = false) (fun i _ => zs.length - (intOf i).toNat)
  case atStart => exact ⟨0, Nat.zero_le _, rfl, rfl, by simp⟩
  case round =>
    obtain ⟨j, hj, rfl, rfl, hno⟩ := hrel
    have HN := Lib.hid hno
    clear hno
    by_cases hlt : j < zs.length
    · obtain ⟨a, rfl, hab, hcell⟩ := HR.out.at_ (k := j) (by simpa [iv] using hlt)
      simp only [iv, List.getElem_map] at hcell
      have ht := take_snoc zs (List.getElem?_eq_getElem hlt)
      have hmem := List.getElem_mem hlt
      obtain ⟨z, hz⟩ : ∃ z, z = zs[j] := ⟨_, rfl⟩
      rw [← hz] at hcell ht hmem
      have HT := Lib.hid ht
      have HM := Lib.hid hmem
      clear ht hz hmem
      by_cases hb : b = (z : Int)
      · have d1 : decide (b = (z : Int)) = true := by simp [hb]
        have d2 : (b == (z : Int)) = true := by simp [hb]
        have HB := Lib.hid hb
        clear hb
        go_wp2_with fail
        go_ret
        refine ⟨⟨_, rfl, ?_⟩, rfl⟩
        rw [decide_eq_true (by omega)]
        rw [HB.out]
        simp
        exact ⟨z, HM.out, rfl⟩
      · have d1 : decide (b = (z : Int)) = false := by simp [hb]
        have d2 : (b == (z : Int)) = false := by simp [hb]
        have HB := Lib.hid hb
        clear hb
        go_wp2_with fail
        exact ⟨⟨j + 1, by omega, by go_num, by first | rfl | trivial, by
          rw [HT.out, List.map_append, List.contains_append, HN.out]
          simpa using HB.out⟩, by simp [intOf]; omega⟩
    · obtain rfl : j = zs.length := by omega
      go_wp2_with fail
      go_ret
      refine ⟨⟨_, rfl, ?_⟩, rfl⟩
      have h := HN.out
      rw [List.take_length] at h
      rw [decide_eq_false (by omega), h]
theorem contains_int (A : Option Addr) (zs : List Nat) (c : Nat) (b : Int) (w : World) (B : Nat) (hr : Row w B A (iv zs)) (hz : zs.length ≤ 1000) :
    Calls Tryz.prog 85 #[.slice A zs.length c, .int .i64 b] w fun e w' => e = .returned (.bool ((zs.map Int.ofNat).contains b)) ∧ w = w' := by
  have k1 := index_int A zs c b w B hr hz
  obtain ⟨d, hd⟩ : ∃ d, d = (zs.map Int.ofNat).contains b := ⟨_, rfl⟩
  rw [← hd] at k1 ⊢
  clear hr hz hd
  go_enter Tryz.func85, Tryz.ntmps85
  go_wp2_with fail
  ((with_reducible refine k1.mono ?_); rintro e w' ⟨⟨i, rfl, hi⟩, rfl⟩)
  go_wp2
  go_ret
  exact ⟨rfl, rfl⟩
end Go.Proofs.YtaafelhjcmgkdaaGreatDoor

/- The contracts of isSpare, spare and losses. No condition but that the layout is there. -/
namespace Go.Proofs.YtaafelhjcmgkdaaGreatDoor
open Go.RowKit
theorem drewN_below (w : World) (k : Nat) : Below w.heap.size w (w.drewN k) := ⟨rfl, rfl, rfl, Nat.le_refl _, fun _ _ => rfl⟩
theorem LayAt.rowU {w : World} {g o : Nat} {l : Lay} (h : LayAt w g o l) : Row w w.heap.size (some ⟨g, o + 1, none⟩) (iv l.used) := fun j u hu => by
  have hj := get_lt hu
  have hj' : j < l.n - 6 := by rw [← Lay.used_length h.ok]; simpa [iv] using hj
  have h2 := h.ok.n2
  have ha := h.ok.a
  refine ⟨_, rfl, h.lt, ?_⟩
  rw [add_off, h.at_ (by omega), ← hu]
  unfold iv Lay.used
  rw [List.getElem?_map, List.getElem?_take_of_lt hj', List.getD_eq_getElem?_getD, List.getElem?_eq_getElem (by omega)]
  rfl
theorem contains_used {l : Lay} {b : Int} (hb : 0 ≤ b) : (l.used.map Int.ofNat).contains b = decide (b.toNat ∈ l.used) := by
  obtain ⟨n, rfl⟩ : ∃ n : Nat, b = n := ⟨b.toNat, by omega⟩
  by_cases h : n ∈ l.used
  · rw [Int.toNat_natCast, decide_eq_true h]
    simpa using ⟨n, h, rfl⟩
  · rw [Int.toNat_natCast, decide_eq_false h]
    have : ¬ (n : Int) ∈ l.used.map Int.ofNat := fun hm => by
      obtain ⟨a, ha, he⟩ := List.mem_map.1 hm
      have : a = n := by have h2 : (a : Int) = n := he; omega
      exact h (this ▸ ha)
    simpa using this
set_option maxHeartbeats 4000000 in
theorem isSpare_any (g o : Nat) (l : Lay) (b : Int) (w : World) (h : LayAt w g o l) : Calls Tryz.prog 71 #[.pointer (some ⟨g, o, none⟩), .int .i64 b] w fun e w' => e = .returned (.bool (l.isSpare b)) ∧ ∃ k, w' = w.drewN k := by
  have c0 := h.n
  have hn1 := h.ok.n1
  have hn2 := h.ok.n2
  have H := Lib.hid h
  obtain ⟨n, hn⟩ : ∃ n, n = l.n := ⟨_, rfl⟩
  rw [← hn] at c0 hn1 hn2
  have HN := Lib.hid hn
  unfold Lay.isSpare
  rw [← hn]
  clear h hn
  by_cases c1 : 2 ≤ b
  · have d1 : decide ((2 : Int) ≤ b) = true := by simp [c1]
    rw [d1, Bool.true_and]
    by_cases c2 : b < (n : Int)
    · have d2 : decide (b < (n : Int)) = true := by simp [c2]
      rw [d2, Bool.true_and]
      obtain ⟨m, rfl⟩ : ∃ m : Nat, b = m := ⟨b.toNat, by omega⟩
      have c3 := H.out.lost (i := m) (by omega)
      rw [Int.toNat_natCast]
      have hm : (m : Int) < 40 := by omega
      have hm0 : (0 : Int) ≤ (m : Int) := by omega
      obtain ⟨t, ht⟩ : ∃ t, t = l.lostAt m := ⟨_, rfl⟩
      rw [← ht] at c3 ⊢
      clear ht
      have hlen : (((n - 6 : Nat)) : Int) ≤ 34 := by omega
      have hl0 : (0 : Int) ≤ ((n - 6 : Nat) : Int) := by omega
      cases t with
      | true =>
        go_enter Tryz.func71, Tryz.ntmps71
        go_wp2_with fail
        go_quiet (fail)
        go_wp2_with fail
        go_ret
        exact ⟨rfl, _, rfl⟩
      | false =>
        have k1 := fun (k : Nat) => (lsize_any g o l (w.drewN k) (H.out.drewN k)).mono (fun _ _ h => (⟨h.1, h.2.symm⟩ : _ ∧ _ = w.drewN k))
        have k2 := fun (k : Nat) => (contains_int (some ⟨g, o + 1, none⟩) l.used 34 (m : Int) (w.drewN k) (w.drewN k).heap.size (H.out.drewN k).rowU (by rw [Lay.used_length H.out.ok, ← HN.out]; omega)).mono (fun _ _ h => (⟨h.1, h.2.symm⟩ : _ ∧ _ = w.drewN k))
        rw [← HN.out] at k1
        rw [Lay.used_length H.out.ok, ← HN.out, contains_used (by omega), Int.toNat_natCast] at k2
        go_enter Tryz.func71, Tryz.ntmps71
        go_wp2_with fail
        go_quiet (first | (go_at_call 72; exact Calls.quiet_of_same (k1 _)) | (go_at_call 85; exact Calls.quiet_of_same (k2 _)))
        go_wp2_with fail
        go_ret
        exact ⟨rfl, _, rfl⟩
    · have d2 : decide (b < (n : Int)) = false := by simp [c2]
      rw [d2, Bool.false_and]
      clear c1 c2
      go_enter Tryz.func71, Tryz.ntmps71
      go_wp2_with fail
      go_quiet (fail)
      go_wp2_with fail
      go_ret
      exact ⟨rfl, _, rfl⟩
  · have d1 : decide ((2 : Int) ≤ b) = false := by simp [c1]
    rw [d1, Bool.false_and]
    clear c1
    go_enter Tryz.func71, Tryz.ntmps71
    go_wp2_with fail
    go_quiet (fail)
    go_wp2_with fail
    go_ret
    exact ⟨rfl, _, rfl⟩
set_option maxHeartbeats 2000000 in
theorem spare_any (g o : Nat) (l : Lay) (w : World) (h : LayAt w g o l) : Calls Tryz.prog 70 #[.pointer (some ⟨g, o, none⟩)] w fun e w' => e = .returned (.tuple #[.int .i64 ((l.spare.getD 0 : Nat) : Int), .bool l.spare.isSome]) ∧ ∃ k, w' = w.drewN k := by
  have c0 := h.n
  have hn1 := h.ok.n1
  have hn2 := h.ok.n2
  have H := Lib.hid h
  obtain ⟨n, hn⟩ : ∃ n, n = l.n := ⟨_, rfl⟩
  rw [← hn] at c0 hn1 hn2
  have HN := Lib.hid hn
  clear h hn
  go_enter Tryz.func70, Tryz.ntmps70
  go_wp2_with fail
  go_loopw [9] (fun i wr => ∃ j : Nat, j ≤ n ∧ i = .int .i64 j ∧ (∃ k, wr = w.drewN k) ∧ ∀ b, b < j → l.isSpare (b : Int) = false) (fun i _ => n - (intOf i).toNat)
  case atStart => exact ⟨0, Nat.zero_le _, rfl, ⟨0, rfl⟩, fun b h => by omega⟩
  case round =>
    obtain ⟨j, hj, rfl, ⟨k, rfl⟩, hno⟩ := hrel
    have HNo := Lib.hid hno
    clear hno
    by_cases hlt : j < n
    · have k1 := isSpare_any g o l (j : Int) (w.drewN k) (H.out.drewN k)
      obtain ⟨t, ht⟩ : ∃ t, t = l.isSpare (j : Int) := ⟨_, rfl⟩
      rw [← ht] at k1
      have HT := Lib.hid ht
      clear ht
      cases t with
      | true =>
        go_wp2_with ((with_reducible refine k1.mono ?_); rintro e w2 ⟨rfl, k2, rfl⟩)
        go_ret2
        have hs : l.spare = some j := by
          unfold Lay.spare
          rw [List.find?_eq_some_iff_append]
          refine ⟨HT.out.symm, List.range j, (List.range' (j + 1) (n - j - 1)), ?_, fun a ha => by rw [HNo.out a (List.mem_range.1 ha)]; rfl⟩
          rw [← HN.out, List.range_eq_range', List.range_eq_range', show n = j + (1 + (n - j - 1)) by omega, ← List.range'_append_1, ← List.range'_append_1]
          simp
        rw [hs]
        exact ⟨rfl, k + k2, rfl⟩
      | false =>
        go_wp2_with ((with_reducible refine k1.mono ?_); rintro e w2 ⟨rfl, k2, rfl⟩)
        exact ⟨⟨j + 1, by omega, by go_num, ⟨k + k2, rfl⟩, fun b hb => by
          rcases Nat.lt_or_ge b j with h | h
          · exact HNo.out b h
          · rw [show b = j by omega]; exact HT.out.symm⟩, by simp [intOf]; omega⟩
    · obtain rfl : j = n := by omega
      go_wp2_with fail
      go_ret2
      have hs : l.spare = none := by
        unfold Lay.spare
        rw [List.find?_eq_none]
        intro b hb
        rw [← HN.out] at hb
        rw [HNo.out b (List.mem_range.1 hb)]
        simp
      rw [hs]
      exact ⟨rfl, _, rfl⟩
set_option maxHeartbeats 2000000 in
theorem losses_any (g o : Nat) (l : Lay) (w : World) (h : LayAt w g o l) : Calls Tryz.prog 53 #[.pointer (some ⟨g, o, none⟩)] w fun e w' => e = .returned (.int .i64 (l.losses : Int)) ∧ w = w' := by
  have c0 := h.n
  have hn1 := h.ok.n1
  have hn2 := h.ok.n2
  have H := Lib.hid h
  unfold Lay.losses
  obtain ⟨n, hn⟩ : ∃ n, n = l.n := ⟨_, rfl⟩
  rw [← hn] at c0 hn1 hn2 ⊢
  clear h hn
  go_enter Tryz.func53, Tryz.ntmps53
  go_wp2_with fail
  go_loopw [3, 9] (fun s i wr => ∃ j : Nat, j ≤ n ∧ i = .int .i64 j ∧ s = .int .i64 (l.lossesTo j : Int) ∧ wr = w) (fun _ i _ => n - (intOf i).toNat)
  case atStart => exact ⟨0, Nat.zero_le _, rfl, rfl, rfl⟩
  case round =>
    obtain ⟨j, hj, rfl, rfl, rfl⟩ := hrel
    by_cases hlt : j < n
    · have c1 := H.out.lost (i := j) (by omega)
      have hs := l.lossesTo_succ j
      have hle := l.lossesTo_le j
      obtain ⟨q, hq⟩ : ∃ q, q = l.lossesTo j := ⟨_, rfl⟩
      rw [← hq] at hs hle ⊢
      obtain ⟨t, ht⟩ : ∃ t, t = l.lostAt j := ⟨_, rfl⟩
      rw [← ht] at c1 hs
      have HS := Lib.hid hs
      clear ht hs hq
      cases t with
      | true =>
        go_wp2_with fail
        exact ⟨⟨j + 1, by omega, by go_num, by rw [HS.out]; go_num, by first | rfl | trivial⟩, by simp [intOf]; omega⟩
      | false =>
        go_wp2_with fail
        exact ⟨⟨j + 1, by omega, by go_num, by rw [HS.out]; rfl, by first | rfl | trivial⟩, by simp [intOf]; omega⟩
    · obtain rfl : j = n := by omega
      go_wp2_with fail
      go_ret
      exact ⟨rfl, rfl⟩
end Go.Proofs.YtaafelhjcmgkdaaGreatDoor

/- The contract of a layout's bytes. No condition but that the layout is there. -/
namespace Go.Proofs.YtaafelhjcmgkdaaGreatDoor
open Go.RowKit
theorem u64Tys : OneCell Tryz.prog 157 107 (.int .u64 0) 8 := OneCell.mk' Tryz.underlying157 (by kernel_rfl) (by decide)
/-- which of the first k blocks are lost -/
def Lay.lostTo (l : Lay) (k : Nat) : List Nat := (List.range k).filter fun b => l.lostAt b
theorem Lay.lostTo_succ (l : Lay) (k : Nat) : l.lostTo (k + 1) = l.lostTo k ++ if l.lostAt k then [k] else [] := by
  unfold Lay.lostTo
  rw [List.range_succ, List.filter_append]
  cases h : l.lostAt k <;> simp [h]
theorem Lay.lostTo_le (l : Lay) (k : Nat) : (l.lostTo k).length ≤ k := Nat.le_trans (List.length_filter_le _ _) (by simp)
def Lay.list (l : Lay) : List Nat := l.n :: (l.used ++ l.lostTo l.n)
def Lay.bytes (l : Lay) : List UInt8 := l.list.flatMap (numB 1)
theorem Lay.list_length {l : Lay} (h : l.ok) : l.list.length ≤ 75 := by
  have := Lay.lostTo_le l l.n
  have := h.n2
  have h1 := Lay.used_length h
  simp only [Lay.list, List.length_cons, List.length_append]
  omega
theorem uv_append (a b : List Nat) : uv (a ++ b) = uv a ++ uv b := by simp [uv]
theorem used_take {l : Lay} (h : l.ok) {j : Nat} (hj : j < l.n - 6) : l.used.take (j + 1) = l.used.take j ++ [l.at_.getD j 0] := by
  have h2 := h.n2
  have ha := h.a
  have hu := Lay.used_length h
  rw [take_snoc l.used (List.getElem?_eq_getElem (by omega))]
  congr 2
  unfold Lay.used
  rw [List.getElem_take, List.getD_eq_getElem?_getD, List.getElem?_eq_getElem (by omega)]
  rfl
set_option maxRecDepth 100000 in
set_option maxHeartbeats 4000000 in
theorem lbytes_any (g o : Nat) (l : Lay) (w : World) (h : LayAt w g o l) (hat : ∀ x ∈ l.at_, x < 1000) : Calls Tryz.prog 89 #[.pointer (some ⟨g, o, none⟩)] w fun e w' => ∃ A n c, e = .returned (.slice A n c) ∧ n = l.bytes.length ∧ Own 5 w' w.heap.size (.slice A n c) l.bytes ∧ Below w.heap.size w w' := by
  have c0 := h.n
  have hn1 := h.ok.n1
  have hn2 := h.ok.n2
  have H := Lib.hid h
  have HA := Lib.hid hat
  have k0 := lsize_any g o l
  obtain ⟨n, hn⟩ : ∃ n, n = l.n := ⟨_, rfl⟩
  rw [← hn] at c0 hn1 hn2
  simp only [← hn] at k0
  have HN := Lib.hid hn
  clear h hn hat
  have b1 := (Below.refl w.heap.size w).alloc (Nat.le_refl _) (.cells #[.int .u64 (n : Int)] 107)
  have L1 := H.out.after b1
  have k1 := k0 _ L1
  have O1 : (w.alloc (.cells #[.int .u64 (n : Int)] 107)).ownsRow w.heap.size 107 1 (.slice (some ⟨w.heap.size, 0, none⟩) 1 1) 1 (uv [n]) := World.ownsRow_lit w #[.int .u64 (n : Int)] 1 (Nat.le_refl _) (by simp [maxLen]) rfl
  have HB1 := Lib.hid b1
  have HO1 := Lib.hid O1
  clear b1 L1 O1 k0
  go_enter Tryz.func89, Tryz.ntmps89
  go_wp2_with ((with_reducible refine k1.mono ?_); rintro e w' ⟨rfl, rfl⟩)
  clear k1
  go_loopw [3, 14] (fun v i wr => ∃ j : Nat, j ≤ n - 6 ∧ i = .int .i64 j ∧ ∃ A c, v = .slice A (j + 1) c ∧ wr.ownsRow w.heap.size 107 1 (.slice A (j + 1) c) (j + 1) (uv (n :: l.used.take j)) ∧ Below w.heap.size w wr) (fun _ i _ => (n - 6) - (intOf i).toNat)
  case atStart => exact ⟨0, Nat.zero_le _, rfl, _, _, rfl, HO1.out, HB1.out⟩
  case round =>
    rename_i wr
    obtain ⟨j, hj, rfl, A, c, rfl, hO, hb⟩ := hrel
    have HB := Lib.hid hb
    have HO := Lib.hid hO
    clear hb hO
    by_cases hlt : j < n - 6
    · have hu := used_take H.out.ok (j := j) (by rw [← HN.out]; exact hlt)
      have hx := HA.out (l.at_.getD j 0)
      have hx2 : l.at_.getD j 0 < 1000 := by
        have ha := H.out.ok.a
        rw [List.getD_eq_getElem?_getD, List.getElem?_eq_getElem (by omega)]
        exact HA.out _ (List.getElem_mem _)
      have c1 := (H.out.after HB.out).at_ (i := j) (by omega)
      obtain ⟨x, hxx⟩ : ∃ x, x = l.at_.getD j 0 := ⟨_, rfl⟩
      rw [← hxx] at hu hx2 c1
      have HU := Lib.hid hu
      have hbr := HB.out.alloc HB.out.size (.cells #[.int .u64 (x : Int)] 107)
      have hbs : w.heap.size ≤ (wr.alloc (.cells #[.int .u64 (x : Int)] 107)).heap.size := hbr.size
      have HB2 := Lib.hid hbr
      have R2 : Row (wr.alloc (.cells #[.int .u64 (x : Int)] 107)) (wr.heap.size + 1) (some ⟨wr.heap.size, 0, none⟩) [.int .u64 (x : Int)] := Row.new wr #[.int .u64 (x : Int)] 107 (0, 0) wr.heap.size rfl (Nat.lt_succ_self _)
      have O2 := World.ownsRow.alloc HO.out (.cells #[.int .u64 (x : Int)] 107)
      have HOO := Lib.hid O2
      have HR := Lib.hid R2
      have hm : j + 1 + 1 ≤ maxLen := by simp only [maxLen]; omega
      have HM := Lib.hid hm
      have hj' : (j : Int) < 34 := by omega
      clear hu hx hxx hbr R2 O2 hm
      go_wp2_with (at_builtin; refine wpl_append_vals u64Tys rfl (.tmp 17) (.tmp 25) rfl (j + 1) rfl HOO.out _ _ _ [.int .u64 (x : Int)] 1 rfl rfl HR.out (by intro u hu; simp at hu; subst hu; rfl) (by omega) HM.out hbs (j + 1 + 1) rfl ?_; intro A8 c8 w8 O8 g8 h8)
      have O9 : w8.ownsRow w.heap.size 107 1 (.slice A8 (j + 1 + 1) c8) (j + 1 + 1) (uv (n :: l.used.take (j + 1))) := by
        rw [HU.out]
        have := O8
        rw [show ([Value.int .u64 (x : Int)] : List Value) = uv [x] from rfl, ← uv_append] at this
        exact this
      have b9 : Below w.heap.size w w8 := HB2.out.grown g8 hbs (fun k e => (World.ownsRow.lt HOO.out k e).1)
      exact ⟨⟨j + 1, by omega, by go_num, A8, c8, rfl, O9, b9⟩, by simp [intOf]; omega⟩
    · obtain rfl : j = n - 6 := by omega
      have hfull : l.used.take (n - 6) = l.used := List.take_of_length_le (by rw [Lay.used_length H.out.ok, HN.out]; exact Nat.le_refl _)
      obtain ⟨m, hm⟩ : ∃ m, m = n - 6 + 1 := ⟨_, rfl⟩
      have O0 := HO.out
      rw [hfull, ← hm] at O0
      have HO3 := Lib.hid O0
      have c1 := (H.out.after HB.out).n
      rw [← HN.out] at c1
      have hm35 : m ≤ 35 := by omega
      have HFm : Hid (m = (n :: l.used).length) := Lib.hid (by rw [List.length_cons, Lay.used_length H.out.ok, ← HN.out, hm])
      simp only [← hm]
      obtain ⟨W, hW⟩ : ∃ W, W = wr := ⟨_, rfl⟩
      subst hW
      have hml : (n - 6 : Nat) + 1 = m := hm.symm
      clear O0 HO hfull hj hm
      have d1 : decide (((n - 6 : Nat) : Int) < ((n - 6 : Nat) : Int)) = false := by simp
      go_wp2_with fail
      go_loopw [3, 32] (fun v i wr => ∃ j : Nat, j ≤ n ∧ i = .int .i64 j ∧ ∃ A c q, v = .slice A q c ∧ q ≤ m + j ∧ Hid (q = (n :: (l.used ++ l.lostTo j)).length) ∧ wr.ownsRow w.heap.size 107 1 (.slice A q c) q (uv (n :: (l.used ++ l.lostTo j))) ∧ Below w.heap.size w wr) (fun _ i _ => n - (intOf i).toNat)
      case atStart => exact ⟨0, Nat.zero_le _, rfl, _, _, _, rfl, Nat.le_refl _, Lib.hid (by rw [HFm.out]; simp [Lay.lostTo]), (by rw [show l.lostTo 0 = [] from rfl, List.append_nil]; exact HO3.out), HB.out⟩
      case round =>
        rename_i wr
        obtain ⟨j, hj, rfl, A, c, q, rfl, hq, HQ, hO, hb⟩ := hrel
        have HB3 := Lib.hid hb
        have HO4 := Lib.hid hO
        clear hb hO c1
        by_cases hlt : j < n
        · have c2 := (H.out.after HB3.out).lost (i := j) (by omega)
          have hj' : (j : Int) < 40 := by omega
          have hs := l.lostTo_succ j
          obtain ⟨t, ht⟩ : ∃ t, t = l.lostAt j := ⟨_, rfl⟩
          rw [← ht] at c2 hs
          have HS := Lib.hid hs
          clear ht hs
          cases t with
          | true =>
            have hbr := HB3.out.alloc HB3.out.size (.cells #[.int .u64 (j : Int)] 107)
            have hbs : w.heap.size ≤ (wr.alloc (.cells #[.int .u64 (j : Int)] 107)).heap.size := hbr.size
            have HB2 := Lib.hid hbr
            have R2 : Row (wr.alloc (.cells #[.int .u64 (j : Int)] 107)) (wr.heap.size + 1) (some ⟨wr.heap.size, 0, none⟩) [.int .u64 (j : Int)] := Row.new wr #[.int .u64 (j : Int)] 107 (0, 0) wr.heap.size rfl (Nat.lt_succ_self _)
            have O2 := World.ownsRow.alloc HO4.out (.cells #[.int .u64 (j : Int)] 107)
            have HOO := Lib.hid O2
            have HR := Lib.hid R2
            have hmx : q + 1 ≤ maxLen := by simp only [maxLen]; omega
            have HM := Lib.hid hmx
            clear hbr R2 O2 hmx
            go_wp2_with (at_builtin; refine wpl_append_vals u64Tys rfl (.tmp 41) (.tmp 44) rfl q rfl HOO.out _ _ _ [.int .u64 (j : Int)] 1 rfl rfl HR.out (by intro u hu; simp at hu; subst hu; rfl) (by omega) HM.out hbs (q + 1) rfl ?_; intro A8 c8 w8 O8 g8 h8)
            have O9 : w8.ownsRow w.heap.size 107 1 (.slice A8 (q + 1) c8) (q + 1) (uv (n :: (l.used ++ l.lostTo (j + 1)))) := by
              rw [HS.out, if_pos rfl, ← List.append_assoc, ← List.cons_append, uv_append]
              exact O8
            have b9 : Below w.heap.size w w8 := HB2.out.grown g8 hbs (fun k e => (World.ownsRow.lt HOO.out k e).1)
            exact ⟨⟨j + 1, by omega, by go_num, A8, c8, q + 1, rfl, by omega, Lib.hid (by rw [HS.out, if_pos rfl, HQ.out]; simp; omega), O9, b9⟩, by simp [intOf]; omega⟩
          | false =>
            go_wp2_with fail
            exact ⟨⟨j + 1, by omega, by go_num, A, c, q, rfl, by omega, Lib.hid (by rw [HS.out, if_neg (by simp), List.append_nil]; exact HQ.out), (by rw [HS.out, if_neg (by simp), List.append_nil]; exact HO4.out), HB3.out⟩, by simp [intOf]; omega⟩
        · obtain rfl : j = n := by omega
          have hO5 : wr.ownsRow w.heap.size 107 1 (.slice A q c) q (uv l.list) := by
            unfold Lay.list
            rw [← HN.out]
            exact HO4.out
          have hql : q = l.list.length := by
            unfold Lay.list
            rw [← HN.out]
            exact HQ.out
          subst hql
          have kn := nums_any 1 A l.list c wr wr.heap.size (Nat.le_refl _) (ownsRow_row hO5) (by have := Lay.list_length H.out.ok; omega)
          have HB5 := Lib.hid HB3.out
          clear HB3 HQ HO4 hO5
          go_wp2_with ((with_reducible refine kn.mono ?_); rintro e w9 ⟨A9, n9, c9, rfl, hn9, O9, b9⟩; have HN9 := Lib.hid hn9; clear hn9)
          go_ret
          have e1 : wid 1 = 1 := rfl
          have hn9 := HN9.out
          rw [e1] at O9 hn9
          exact ⟨A9, n9, c9, rfl, hn9, O9.lower HB5.out.size, HB5.out.trans (b9.mono HB5.out.size)⟩
end Go.Proofs.YtaafelhjcmgkdaaGreatDoor

