/- The contract of fresh: the layout in which only those blocks are lost that are bad. Condition: the chip is there. -/
import Derived.Test.YtdiocjneakfdgaaGreatDoorQBbtE
namespace Go.Proofs.YtdiocjneakfdgaaGreatDoor
open Go.RowKit
/-- of the first j blocks those are lost that f tells -/
def Lay.mark (n : Nat) (f : Nat → Bool) (j : Nat) : Lay := ⟨n, List.replicate 34 0, (List.range 40).map fun i => decide (i < j) && f i⟩
/-- the first j logical blocks get the least spares -/
def Lay.fills : Nat → Lay → Lay
  | 0, l => l
  | j + 1, l => (Lay.fills j l).setAt j ((Lay.fills j l).spare.getD 0)
def Lay.markRefuse (l : Lay) : Bool := l.lostAt 0 || (l.lostAt 1 || decide (4 < l.losses))
def Lay.fresh (n : Nat) (f : Nat → Bool) : Option Lay := if (Lay.mark n f n).markRefuse then none else some (Lay.fills (n - 6) (Lay.mark n f n))
def Lay.putLost (l : Lay) (b : Nat) (v : Bool) : Lay := { l with lost := l.lost.set b v }
theorem Lay.row_putLost {l : Lay} (h : l.ok) (j : Nat) (v : Bool) : l.row.set (35 + j) (.bool v) = (l.putLost j v).row := by
  rw [show 35 + j = (34 + j) + 1 by omega, Lay.row, List.set_cons_succ, List.set_append_right _ _ (by simp [iv, h.a]), show 34 + j - (iv l.at_).length = j by simp [iv, h.a]]
  simp [Lay.row, Lay.putLost, iv, List.map_set]
theorem Lay.mark_ok {n : Nat} (h1 : 16 ≤ n) (h2 : n ≤ 40) (f : Nat → Bool) (j : Nat) : (Lay.mark n f j).ok := ⟨h1, h2, by simp [Lay.mark], by simp [Lay.mark]⟩
theorem Lay.mark_zero (n : Nat) (f : Nat → Bool) : Lay.mark n f 0 = Lay.of n := by
  unfold Lay.mark Lay.of
  congr 1
theorem Lay.mark_step (n : Nat) (f : Nat → Bool) (j : Nat) : (Lay.mark n f j).putLost j (f j) = Lay.mark n f (j + 1) := by
  unfold Lay.putLost Lay.mark
  congr 1
  simp only
  apply List.ext_getElem?
  intro i
  rw [List.getElem?_set, List.getElem?_map, List.getElem?_map, List.length_map, List.length_range]
  rcases Nat.lt_or_ge i 40 with h | h
  · rw [List.getElem?_range h]
    by_cases e : j = i
    · subst e
      simp [h]
    · rw [if_neg e]
      simp only [Option.map_some]
      rw [decide_eq_decide.2 (show i < j ↔ i < j + 1 by omega)]
  · rw [List.getElem?_eq_none (l := List.range 40) (by simpa using h)]
    by_cases e : j = i
    · rw [if_pos e, if_neg (by omega)]
      rfl
    · rw [if_neg e]
      rfl
theorem Lay.fills_ok : ∀ (j : Nat) {l : Lay}, l.ok → (Lay.fills j l).ok
  | 0, _, h => h
  | j + 1, _, h => Lay.setAt_ok (Lay.fills_ok j h) _ _
theorem Lay.fills_n : ∀ (j : Nat) (l : Lay), (Lay.fills j l).n = l.n
  | 0, _ => rfl
  | j + 1, l => Lay.fills_n j l
theorem Lay.spare_lt {l : Lay} (h : l.ok) : l.spare.getD 0 < 40 := by
  cases e : l.spare with
  | none => show 0 < 40; omega
  | some b =>
    unfold Lay.spare at e
    have := List.mem_range.1 (List.mem_of_find?_eq_some e)
    have := h.n2
    show b < 40
    omega
def Ch.badAt (S : Ch) (b : Nat) : Bool := S.isBad (b : Int)
def Ch.fresh (S : Ch) : Option Lay := Lay.fresh S.bs.length S.badAt
set_option maxRecDepth 100000 in
set_option maxHeartbeats 8000000 in
theorem fresh_any (a : At) (S : Ch) (s : NM.Pwr) (w : World) (hD : Dev w a S s) :
    Calls Tryz.prog 66 #[.pointer (some ⟨a.c, 0, none⟩)] w fun e w' => e = .returned (.tuple #[.agg (S.fresh.getD (Lay.of 0)).row.toArray, .bool S.fresh.isSome]) ∧ Below w.heap.size w w' := by
  have z := zeroLay
  have y0 := buildLay0
  have hlen := hD.pc.len
  have kb : ∀ X, Below w.heap.size w X → Calls Tryz.prog 89 #[.pointer (some ⟨a.c, 0, none⟩)] X fun e w' => e = .returned (.int .i64 (S.bs.length : Int)) ∧ X = w' := fun X hb => blocks_any a S X (hD.pc.after hb)
  have kd : ∀ X (b : Nat), Below w.heap.size w X → Calls Tryz.prog 90 #[.pointer (some ⟨a.c, 0, none⟩), .int .i64 (b : Int)] X fun e w' => e = .returned (.bool (S.badAt b)) ∧ X = w' := fun X b hb => isbad_any a S (b : Int) X (hD.pc.after hb)
  unfold Ch.fresh
  obtain ⟨n, hn⟩ : ∃ n, n = S.bs.length := ⟨_, rfl⟩
  obtain ⟨f, hf⟩ : ∃ f, f = S.badAt := ⟨_, rfl⟩
  rw [← hn] at hlen kb ⊢
  rw [← hf] at kd ⊢
  have R0 : Blk ((w.alloc (.cells (Lay.of 0).row.toArray 123)).alloc (.cells (Lay.of 0).row.toArray 123)) w.heap.size 123 (Lay.of 0).row := (Blk.new w _ _).alloc _
  have L0 : Blk ((w.alloc (.cells (Lay.of 0).row.toArray 123)).alloc (.cells (Lay.of 0).row.toArray 123)) (w.heap.size + 1) 123 (Lay.of 0).row := by
    have := Blk.new (w.alloc (.cells (Lay.of 0).row.toArray 123)) 123 (Lay.of 0).row
    rw [World.size_alloc] at this
    exact this
  have bR : Below w.heap.size w (w.alloc (.cells (Lay.of 0).row.toArray 123)) := (Below.refl _ _).alloc (Nat.le_refl _) _
  have b0 : Below w.heap.size w ((w.alloc (.cells (Lay.of 0).row.toArray 123)).alloc (.cells (Lay.of 0).row.toArray 123)) := bR.alloc (by simp) _
  have hln : (Lay.of n).row.length = 75 := rfl
  have hl0 : (Lay.of 0).row.length = 75 := rfl
  have hs0 := segSet_all (hl0.trans hln.symm)
  have hs00 := segSet_all (hl0.trans hl0.symm)
  have k0 := kb _ bR
  have hc1 : ∀ X, Blk X (w.heap.size + 1) 123 (Lay.of n).row → X.cell? ⟨w.heap.size + 1, 0, none⟩ = some (.int .i64 (n : Int)) := fun X h => h.cell 0
  have HR := Lib.hid R0
  have HB := Lib.hid b0
  have HL0 := Lib.hid hl0
  have HLN := Lib.hid hln
  have HN := Lib.hid hlen
  have HD := Lib.hid kd
  have hn40 : (n : Int) ≤ 40 := by have := hlen.2; omega
  have hn0 : (0 : Int) ≤ (n : Int) := by omega
  clear R0 b0 bR hl0 hln hlen kd kb hD hn hf
  go_enter Tryz.func66, Tryz.ntmps66
  go_wp2_with (first
    | ((with_reducible refine k0.mono ?_); rintro e w' ⟨rfl, rfl⟩)
    | (with_reducible refine wpl_seg_store sizeLay (.tmp 4) (.tmp 9) rfl rfl L0 0 (Lay.of n).row HLN.out (by rw [HL0.out]; exact Nat.le_refl _) (Lay.one _) rfl rfl _ hs0 ?_; intro w1 L1 g1 e1; have c0 := hc1 _ L1))
  have R1 := Lib.hid (HR.out.grown g1 (by simp))
  have B1 : Hid (Below w.heap.size w w1) := Lib.hid (HB.out.grown g1 (by simp; omega) (fun k e => by cases e; omega))
  have M1 : Hid (Blk w1 (w.heap.size + 1) 123 (Lay.mark n f 0).row) := Lib.hid (by rw [Lay.mark_zero]; exact L1)
  clear L0 L1 g1 e1 HR HB k0
  go_loopw [12] (fun i wr => ∃ j : Nat, j ≤ n ∧ i = .int .i64 j ∧ Blk wr (w.heap.size + 1) 123 (Lay.mark n f j).row ∧ Blk wr w.heap.size 123 (Lay.of 0).row ∧ Below w.heap.size w wr) (fun i _ => n - (intOf i).toNat)
  case atStart => exact ⟨0, Nat.zero_le _, rfl, M1.out, R1.out, B1.out⟩
  case round =>
    obtain ⟨j, hj, rfl, hL, hR, hB⟩ := hrel
    clear M1 R1 B1 c0
    have HL := Lib.hid hL
    have HR := Lib.hid hR
    have HB := Lib.hid hB
    clear hL hR hB
    by_cases hlt : j < n
    · have k1 := HD.out wr j HB.out
      have hok := Lay.mark_ok HN.out.1 HN.out.2 f j
      have hj40 : j < 40 := by have := HN.out.2; omega
      have hj' : (j : Int) < 40 := by omega
      have hst := (Lay.row_putLost hok j (f j)).trans (congrArg Lay.row (Lay.mark_step n f j))
      have hrl := Lay.row_length hok
      have L2 := HL.out
      have HJ := Lib.hid hj40
      have HRL := Lib.hid hrl
      have HST := Lib.hid hst
      clear hok hj40 hrl hst
      go_wp2_with (first
        | ((with_reducible refine k1.mono ?_); rintro e w' ⟨rfl, rfl⟩)
        | (with_reducible refine wpl_blk_bool (f j) bool_one (.tmp 20) (.tmp 18) rfl rfl L2 (35 + j) (by rw [HRL.out]; have := HJ.out; omega) rfl rfl _ HST.out ?_; intro w5 L5 g5 e5; simp only [Act.put]))
      have hsz : w.heap.size ≤ wr.heap.size := HB.out.size
      have R5 := HR.out.grown g5 (by simp)
      have B5 := HB.out.grown g5 hsz (fun k e => by cases e; omega)
      exact ⟨⟨j + 1, by omega, by go_num, L5, R5, B5⟩, by simp [intOf]; omega⟩
    · obtain rfl : j = n := by omega
      clear hlt HD
      have hok := Lay.mark_ok HN.out.1 HN.out.2 f j
      obtain ⟨l, hl⟩ : ∃ l, l = Lay.mark j f j := ⟨_, rfl⟩
      have hF : Lay.fresh j f = if l.markRefuse then none else some (Lay.fills (j - 6) l) := by rw [hl]; rfl
      have hln : l.n = j := by rw [hl]; rfl
      rw [← hl] at HL hok
      have HOK := Lib.hid hok
      have hA := HL.out.lay hok (by rw [List.drop_zero, List.take_of_length_le (by rw [Lay.row_length hok]; exact Nat.le_refl _)]) (o := 0)
      have c0 : wr.cell? ⟨w.heap.size + 1, 35, none⟩ = some (.bool (l.lostAt 0)) := hA.lost (i := 0) (by omega)
      have c1 : wr.cell? ⟨w.heap.size + 1, 36, none⟩ = some (.bool (l.lostAt 1)) := hA.lost (i := 1) (by omega)
      have k2 := losses_any (w.heap.size + 1) 0 l wr hA
      have k3 := lsize_any (w.heap.size + 1) 0 l wr hA
      rw [hln] at k3
      have hml : l.losses ≤ 40 := by
        unfold Lay.losses
        have := Lay.lossesTo_le l l.n
        have := hok.n2
        omega
      obtain ⟨m, hm⟩ : ∃ m, m = l.losses := ⟨_, rfl⟩
      have hmr : l.markRefuse = (l.lostAt 0 || (l.lostAt 1 || decide (4 < m))) := by rw [hm]; rfl
      rw [← hm] at k2 hml
      rw [hmr] at hF
      obtain ⟨x0, hx0⟩ : ∃ x, x = l.lostAt 0 := ⟨_, rfl⟩
      obtain ⟨x1, hx1⟩ : ∃ x, x = l.lostAt 1 := ⟨_, rfl⟩
      rw [← hx0] at c0 hF
      rw [← hx1] at c1 hF
      have HF := Lib.hid hF
      have HLN2 := Lib.hid hln
      have HRR := HR.out
      clear hm hx0 hx1 hmr hF hl hok hA hln
      cases x0 with
      | true =>
        clear k2 k3
        go_wp2_with (with_reducible refine wpl_seg_store sizeLay (.tmp 2) (.tmp 34) rfl rfl HRR 0 (Lay.of 0).row HL0.out (by rw [HL0.out]; exact Nat.le_refl _) (Lay.one _) rfl rfl _ hs00 ?_; intro w3 R3 g3 e3)
        refine bodyPost_ret (lay_ret2 rfl _ R3 HL0.out rfl) rfl ?_
        have hp : Lay.fresh j f = none := by rw [HF.out]; simp
        rw [hp]
        exact ⟨rfl, HB.out.grown g3 HB.out.size (fun k e => by cases e; omega)⟩
      | false =>
        cases x1 with
        | true =>
          clear k2 k3
          go_wp2_with (with_reducible refine wpl_seg_store sizeLay (.tmp 2) (.tmp 34) rfl rfl HRR 0 (Lay.of 0).row HL0.out (by rw [HL0.out]; exact Nat.le_refl _) (Lay.one _) rfl rfl _ hs00 ?_; intro w3 R3 g3 e3)
          refine bodyPost_ret (lay_ret2 rfl _ R3 HL0.out rfl) rfl ?_
          have hp : Lay.fresh j f = none := by rw [HF.out]; simp
          rw [hp]
          exact ⟨rfl, HB.out.grown g3 HB.out.size (fun k e => by cases e; omega)⟩
        | false =>
          by_cases h4 : 4 < m
          · have d4 : decide ((4 : Int) < (m : Int)) = true := by simp; omega
            have H4 := Lib.hid h4
            clear k3 h4
            go_wp2_with (first
              | ((with_reducible refine k2.mono ?_); rintro e w' ⟨rfl, rfl⟩)
              | (with_reducible refine wpl_seg_store sizeLay (.tmp 2) (.tmp 34) rfl rfl HRR 0 (Lay.of 0).row HL0.out (by rw [HL0.out]; exact Nat.le_refl _) (Lay.one _) rfl rfl _ hs00 ?_; intro w3 R3 g3 e3))
            refine bodyPost_ret (lay_ret2 rfl _ R3 HL0.out rfl) rfl ?_
            have hp : Lay.fresh j f = none := by rw [HF.out]; simp[H4.out]
            rw [hp]
            exact ⟨rfl, HB.out.grown g3 HB.out.size (fun k e => by cases e; omega)⟩
          · have d4 : decide ((4 : Int) < (m : Int)) = false := by simp; omega
            have H4 := Lib.hid h4
            clear h4
            go_wp2_with (first
              | ((with_reducible refine k2.mono ?_); rintro e w' ⟨rfl, rfl⟩)
              | ((with_reducible refine k3.mono ?_); rintro e w' ⟨rfl, rfl⟩))
            clear k2 k3 c0 c1 d4 HRR
            go_loopw [36] (fun i wr => ∃ k : Nat, k ≤ j - 6 ∧ i = .int .i64 k ∧ Blk wr (w.heap.size + 1) 123 (Lay.fills k l).row ∧ Blk wr w.heap.size 123 (Lay.of 0).row ∧ Below w.heap.size w wr) (fun i _ => (j - 6) - (intOf i).toNat)
            case atStart => exact ⟨0, Nat.zero_le _, rfl, HL.out, HR.out, HB.out⟩
            case round =>
              obtain ⟨k, hk, rfl, hL, hR, hB⟩ := hrel
              clear HL HR HB
              have hok := Lay.fills_ok k HOK.out
              have HL := Lib.hid hL
              have HR := Lib.hid hR
              have HB := Lib.hid hB
              by_cases hlt : k < j - 6
              · have k1 := spare_any (w.heap.size + 1) 0 (Lay.fills k l) wr (hL.lay hok (by rw [List.drop_zero, List.take_of_length_le (by rw [Lay.row_length hok]; exact Nat.le_refl _)]))
                have hy := Lay.spare_lt hok
                obtain ⟨y, hyy⟩ : ∃ y, y = (Lay.fills k l).spare.getD 0 := ⟨_, rfl⟩
                rw [← hyy] at k1 hy
                have hk34 : k < 34 := by have := HN.out.2; omega
                have hk' : (k : Int) < 34 := by omega
                have hst : (Lay.fills k l).row.set (1 + k) (.int .i64 (y : Int)) = (Lay.fills (k + 1) l).row := by
                  rw [Lay.row_setAt hok hk34, hyy]
                  rfl
                have HST := Lib.hid hst
                have HRL := Lib.hid (Lay.row_length hok)
                have HK := Lib.hid hk34
                clear hst hok hk34 hyy hL hR hB
                go_wp2_with (first
                  | ((with_reducible refine k1.mono ?_); rintro e w4 ⟨rfl, k4, rfl⟩; have L4 : Blk (wr.drewN k4) (w.heap.size + 1) 123 (Lay.fills k l).row := HL.out)
                  | (with_reducible refine wpl_blk_int .i64 (y : Int) int_one (.tmp 45) (.tmp 42) rfl rfl L4 (1 + k) (by rw [HRL.out]; have := HK.out; omega) rfl rfl _ HST.out ?_; intro w5 L5 g5 e5))
                have hsz : w.heap.size ≤ (wr.drewN k4).heap.size := HB.out.size
                have R5 := HR.out.grown (w := wr.drewN k4) g5 (by simp)
                have B5 : Below w.heap.size w w5 := (HB.out.trans ((drewN_below wr k4).mono HB.out.size)).grown g5 hsz (fun k e => by cases e; omega)
                exact ⟨⟨k + 1, by omega, by go_num, L5, R5, B5⟩, by simp [intOf]; omega⟩
              · obtain rfl : k = j - 6 := by omega
                have L4 := HL.out
                have R4 := HR.out
                have HRL := Lib.hid (Lay.row_length hok)
                have hs1 := segSet_all (HL0.out.trans (Lay.row_length hok).symm)
                clear hL hR hB hok
                go_wp2_with (first
                  | (with_reducible refine wpl_seg_load aggLay sizeLay (.tmp 4) rfl rfl L4 0 (Lay.fills (j - 6) l).row (by rw [List.drop_zero, List.take_of_length_le (by rw [HRL.out]; exact Nat.le_refl _)]) HRL.out rfl ?_)
                  | (with_reducible refine wpl_seg_store sizeLay (.tmp 2) (.tmp 47) rfl rfl R4 0 (Lay.fills (j - 6) l).row HRL.out (by rw [HL0.out]; exact Nat.le_refl _) (Lay.one _) rfl rfl _ hs1 ?_; intro w5 R5 g5 e5))
                refine bodyPost_ret (lay_ret2 rfl _ R5 HRL.out rfl) rfl ?_
                have hp : Lay.fresh j f = some (Lay.fills (j - 6) l) := by rw [HF.out]; simp [H4.out]
                rw [hp]
                exact ⟨rfl, HB.out.grown g5 HB.out.size (fun k e => by cases e; omega)⟩
end Go.Proofs.YtdiocjneakfdgaaGreatDoor

