/- The walk of WearRoom: it answers true, and changes nothing that was there. No condition. -/
import Derived.Test.YtdmganpblkepfaaWearOpen
namespace Go.Proofs.Ytdmganpblkepfaa
open Go.RowKit WM
theorem gap_le (L : List LV) {i j : Nat} (hi : i < L.length) (hj : j < L.length) : (at_ L i).wear - (at_ L j).wear ≤ gapN L := by
  have h1 : (at_ L (lfold (fun a b => lessWorn (at_ L a) (at_ L b)) L.length)).wear ≤ (at_ L j).wear := lfold_min (fun i => (at_ L i).wear) L.length j hj
  have h2 : (at_ L i).wear ≤ (at_ L (lfold (fun a b => moreWorn (at_ L a) (at_ L b)) L.length)).wear := lfold_max (fun i => (at_ L i).wear) L.length i hi
  unfold gapN
  omega
theorem gap_is (L : List LV) (h : 0 < L.length) : ∃ i j, i < L.length ∧ j < L.length ∧ gapN L = (at_ L i).wear - (at_ L j).wear :=
  ⟨_, _, lfold_lt _ (Nat.le_refl _) h, lfold_lt _ (Nat.le_refl _) h, rfl⟩
theorem gap_nil : gapN [] = 0 := rfl
/-- what of the pairs is above the gap so far -/
structure Upto (L : List LV) (k q G : Nat) : Prop where
  le : G ≤ gapN L
  full : ∀ i j, i < k → j < L.length → (at_ L i).wear - (at_ L j).wear ≤ G
  part : ∀ j, j < q → (at_ L k).wear - (at_ L j).wear ≤ G
theorem Upto.start (L : List LV) : Upto L 0 0 0 := ⟨Nat.zero_le _, fun i j hi => absurd hi (by omega), fun j hj => absurd hj (by omega)⟩
theorem Upto.next {L : List LV} {k G : Nat} (h : Upto L k L.length G) : Upto L (k + 1) 0 G :=
  ⟨h.le, fun i j hi hj => by
    rcases Nat.lt_or_ge i k with h' | h'
    · exact h.full i j h' hj
    · obtain rfl : i = k := by omega
      exact h.part j hj, fun j hj => absurd hj (by omega)⟩
theorem Upto.skip {L : List LV} {k q G : Nat} (h : Upto L k q G) (hle : (at_ L k).wear - (at_ L q).wear ≤ G) : Upto L k (q + 1) G :=
  ⟨h.le, h.full, fun j hj => by
    rcases Nat.lt_or_ge j q with h' | h'
    · exact h.part j h'
    · obtain rfl : j = q := by omega
      exact hle⟩
theorem Upto.more {L : List LV} {k q G : Nat} (h : Upto L k q G) (hk : k < L.length) (hq : q < L.length) (hlt : G ≤ (at_ L k).wear - (at_ L q).wear) : Upto L k (q + 1) ((at_ L k).wear - (at_ L q).wear) :=
  ⟨gap_le L hk hq, fun i j hi hj => Nat.le_trans (h.full i j hi hj) hlt, fun j hj => by
    rcases Nat.lt_or_ge j q with h' | h'
    · exact Nat.le_trans (h.part j h') hlt
    · obtain rfl : j = q := by omega
      exact Nat.le_refl _⟩
theorem Upto.done {L : List LV} {G : Nat} (h : Upto L L.length 0 G) : G = gapN L := by
  rcases Nat.eq_zero_or_pos L.length with h0 | h0
  · obtain rfl : L = [] := List.eq_nil_of_length_eq_zero h0
    have := h.le
    rw [gap_nil] at this ⊢
    omega
  · obtain ⟨i, j, hi, hj, e⟩ := gap_is L h0
    have := h.full i j hi hj
    have := h.le
    omega
set_option maxRecDepth 100000 in
set_option maxHeartbeats 8000000 in
theorem wearRoom_any (b : Int) (v : Value) (w : World) (hb : (Lit.int .i64 b).wf = true) (hn : ∃ L, Loads w w.heap.size v L) :
    Calls Try.prog 9 #[.int .i64 b, v] w fun e w' => e = .returned (.bool true) ∧ Below w.heap.size w w' := by
  obtain ⟨L, A, c, rfl, hr, hok⟩ := hn
  have HR := Lib.hid hr
  have HOK := Lib.hid hok
  have hbb : -9223372036854775808 ≤ b ∧ b ≤ 9223372036854775807 := by
    simp only [Lit.wf, Bool.and_eq_true, IntKind.min, IntKind.max, IntKind.signed, IntKind.bits] at hb
    simp at hb
    exact hb
  clear hr hok hb
  by_cases hl : 100 < L.length
  · have d1 : decide ((100 : Int) < (L.length : Int)) = true := by simp; omega
    go_enter Try.func9, Try.ntmps9
    go_wp2_with fail
    refine (wearspeaks_any _).mono ?_
    rintro e' w2 ⟨rfl, hb2⟩
    go_wp2
    go_ret
    exact ⟨rfl, hb2⟩
  · have d1 : decide ((100 : Int) < (L.length : Int)) = false := by simp; omega
    by_cases hbl : 1099511627776 < b
    · have d2 : decide ((1099511627776 : Int) < b) = true := by simp; omega
      go_enter Try.func9, Try.ntmps9
      go_wp2_with fail
      refine (wearspeaks_any _).mono ?_
      rintro e' w2 ⟨rfl, hb2⟩
      go_wp2
      go_ret
      exact ⟨rfl, hb2⟩
    · have d2 : decide ((1099511627776 : Int) < b) = false := by simp; omega
      obtain ⟨rm, hrm⟩ : ∃ rm : Int, rm = max (3 * (max b 3 - 3) - 2) 0 := ⟨_, rfl⟩
      have KM := Lib.hid (fun w => room_any b w (by omega))
      rw [← hrm] at KM
      rcases (show b ≤ 3 ∨ 3 < b by omega) with h3 | h3
      · obtain rfl : rm = 0 := by omega
        have d3 : decide (3 < b) = false := by simp; omega
        clear hrm
        go_enter Try.func9, Try.ntmps9
        go_wp2_with fail
        refine (wearspeaks_any _).mono ?_
        rintro e' w1 ⟨rfl, h1⟩
        have T1 := Lib.hid h1
        clear h1
        go_wp2_with ((with_reducible refine (KM.out _).mono ?_); rintro e w' ⟨rfl, hw⟩; rw [← hw]; clear hw w')
        clear d1 d2 d3 KM
        go_loopw [6, 33] (fun g i wr => ∃ k : Nat, k ≤ L.length ∧ i = .int .i64 k ∧ (∃ G : Nat, g = .int .u64 G ∧ Hid (Upto L k 0 G)) ∧ Hid (Below w.heap.size w wr)) (fun _ i _ => L.length - (intOf i).toNat)
        case atStart => exact ⟨0, Nat.zero_le _, rfl, ⟨0, rfl, Lib.hid (Upto.start L)⟩, T1⟩
        case round =>
          clear T1
          obtain ⟨k, hk, rfl, ⟨G, rfl, hG⟩, hb⟩ := hrel
          by_cases hlt : k < L.length
          · obtain ⟨a, rfl, hab, hck⟩ := HR.out.elem rrow_len (by omega) (at_get hlt)
            have hxo := HOK.out _ (List.mem_of_getElem? (at_get hlt))
            obtain ⟨x, hx⟩ : ∃ x, x = at_ L k := ⟨_, rfl⟩
            rw [← hx] at hck hxo
            have HX := Lib.hid hx
            have HXO := Lib.hid hxo.wear
            have HCK := Lib.hid (show ∀ j u, ([.int .u64 (x.seq : Int), .int .u64 (x.wear : Int), .int .i64 x.block, .int .i64 x.counts] : List Value)[j]? = some u → wr.cell? ((a.add (k * 4)).add j) = some u from fun j u hu => (hb.out.cell (p := (a.add (k * 4)).add j) (by rw [add_block, add_block]; omega)).trans (hck j u hu))
            have W1 := Lib.hid (hb.out.alloc hb.out.size (.cells #[.int .u64 (x.seq : Int), .int .u64 (x.wear : Int), .int .i64 x.block, .int .i64 x.counts] 65))
            have B1 := Lib.hid (show Blk (wr.alloc (.cells #[.int .u64 (x.seq : Int), .int .u64 (x.wear : Int), .int .i64 x.block, .int .i64 x.counts] 65)) wr.heap.size 65 [.int .u64 (x.seq : Int), .int .u64 (x.wear : Int), .int .i64 x.block, .int .i64 x.counts] from heap_alloc_new wr _)
            clear hck hx hxo
            go_wp2_with (with_reducible refine wpl_cells (q := a.add (k * 4)) (row := [.int .u64 (x.seq : Int), .int .u64 (x.wear : Int), .int .i64 x.block, .int .i64 x.counts]) aggR sizeR (.tmp 35) rfl rfl rfl rfl HCK.out ?_)
            obtain ⟨g8, hg8⟩ : ∃ g8, g8 = wr.heap.size := ⟨_, rfl⟩
            obtain ⟨V, hV⟩ : ∃ V, V = wr.alloc (.cells #[.int .u64 (x.seq : Int), .int .u64 (x.wear : Int), .int .i64 x.block, .int .i64 x.counts] 65) := ⟨_, rfl⟩
            rw [← hg8] at B1 ⊢
            rw [← hV] at W1 B1 ⊢
            clear hg8 hV HCK hb
            go_loopw [6, 39] (fun g i wr => ∃ q : Nat, q ≤ L.length ∧ i = .int .i64 q ∧ (∃ G : Nat, g = .int .u64 G ∧ Hid (Upto L k q G)) ∧ Hid (Below V.heap.size V wr)) (fun _ i _ => L.length - (intOf i).toNat)
            case atStart => exact ⟨0, Nat.zero_le _, rfl, ⟨G, rfl, hG⟩, Lib.hid (Below.refl _ _)⟩
            case round =>
              clear hG
              obtain ⟨q, hq, rfl, ⟨G, rfl, hG⟩, hb⟩ := hrel
              by_cases hlq : q < L.length
              · obtain ⟨a', e', _, hcm⟩ := HR.out.elem rrow_len (by omega) (at_get hlq)
                cases e'
                have hyo := HOK.out _ (List.mem_of_getElem? (at_get hlq))
                obtain ⟨y, hy⟩ : ∃ y, y = at_ L q := ⟨_, rfl⟩
                rw [← hy] at hcm hyo
                have HY := Lib.hid hy
                have HYO := Lib.hid hyo.wear
                have TW := Lib.hid (W1.out.trans (hb.out.mono W1.out.size))
                have HCM := Lib.hid (show ∀ j u, ([.int .u64 (y.seq : Int), .int .u64 (y.wear : Int), .int .i64 y.block, .int .i64 y.counts] : List Value)[j]? = some u → wr.cell? ((a.add (q * 4)).add j) = some u from fun j u hu => (TW.out.cell (p := (a.add (q * 4)).add j) (by rw [add_block, add_block]; omega)).trans (hcm j u hu))
                have W2 := Lib.hid (hb.out.alloc hb.out.size (.cells #[.int .u64 (y.seq : Int), .int .u64 (y.wear : Int), .int .i64 y.block, .int .i64 y.counts] 65))
                have B2 := (B1.out.after W2.out).cell 1
                simp only [List.getElem?_cons_zero, List.getElem?_cons_succ] at B2
                obtain ⟨xw, hxw⟩ : ∃ xw, xw = x.wear := ⟨_, rfl⟩
                rw [← hxw] at B2
                have HW := Lib.hid hxw
                have hxo2 : xw < 18446744073709551616 := by rw [hxw]; exact HXO.out
                have hyo2 := HYO.out
                clear hcm hy hyo hxw
                by_cases hxy : y.wear < xw
                · have d5 : decide ((y.wear : Int) < (xw : Int)) = true := by simp; omega
                  have HD := Lib.hid (show ((xw - y.wear : Nat) : Int) = (xw : Int) - (y.wear : Int) by omega)
                  by_cases hGm : G < xw - y.wear
                  · have HU := Lib.hid (show Upto L k (q + 1) (xw - y.wear) by rw [HW.out, HX.out, HY.out]; exact hG.out.more hlt hlq (by rw [← HX.out, ← HY.out, ← HW.out]; exact Nat.le_of_lt hGm))
                    go_wp2_with (with_reducible refine wpl_cells (q := a.add (q * 4)) (row := [.int .u64 (y.seq : Int), .int .u64 (y.wear : Int), .int .i64 y.block, .int .i64 y.counts]) aggR sizeR (.tmp 41) rfl rfl rfl rfl HCM.out ?_)
                    go_roundw
                    case rel => exact ⟨q + 1, by omega, by go_num, ⟨xw - y.wear, by rw [HD.out], HU⟩, W2⟩
                    case measure => simp [intOf]; omega
                  · have HU := Lib.hid (hG.out.skip (by rw [← HX.out, ← HY.out, ← HW.out]; omega))
                    go_wp2_with (with_reducible refine wpl_cells (q := a.add (q * 4)) (row := [.int .u64 (y.seq : Int), .int .u64 (y.wear : Int), .int .i64 y.block, .int .i64 y.counts]) aggR sizeR (.tmp 41) rfl rfl rfl rfl HCM.out ?_)
                    go_roundw
                    case rel => exact ⟨q + 1, by omega, by go_num, ⟨G, rfl, HU⟩, W2⟩
                    case measure => simp [intOf]; omega
                · have d5 : decide ((y.wear : Int) < (xw : Int)) = false := by simp; omega
                  have HU := Lib.hid (hG.out.skip (by rw [← HX.out, ← HY.out, ← HW.out]; omega))
                  go_wp2_with (with_reducible refine wpl_cells (q := a.add (q * 4)) (row := [.int .u64 (y.seq : Int), .int .u64 (y.wear : Int), .int .i64 y.block, .int .i64 y.counts]) aggR sizeR (.tmp 41) rfl rfl rfl rfl HCM.out ?_)
                  go_roundw
                  case rel => exact ⟨q + 1, by omega, by go_num, ⟨G, rfl, HU⟩, W2⟩
                  case measure => simp [intOf]; omega
              · obtain rfl : q = L.length := by omega
                have HU := Lib.hid hG.out.next
                have TW := Lib.hid (W1.out.trans (hb.out.mono W1.out.size))
                clear hG
                go_wp2
                go_roundw
                case rel => exact ⟨k + 1, by omega, by go_num, ⟨G, rfl, HU⟩, TW⟩
                case measure => simp [intOf]; omega
          · obtain rfl : k = L.length := by omega
            obtain rfl : G = gapN L := hG.out.done
            clear hG
            go_wp2_with fail
            ((with_reducible refine (loads_any A L c wr w.heap.size hb.out.size (HR.out.below hb.out) (by omega)).mono ?_); rintro e w2 ⟨X, c', rfl, O2, h2⟩)
            have T2 := Lib.hid (hb.out.trans (h2.mono hb.out.size))
            have kg := Lib.hid (gap_any X L c' w2 w2.heap.size (Nat.le_refl _) (loads_row O2) (by omega) HOK.out)
            clear O2 h2
            go_wp2_with fail
            refine kg.out.mono ?_
            rintro e w3 ⟨rfl, h3⟩
            have T3 := Lib.hid (T2.out.trans (h3.mono T2.out.size))
            clear h3
            go_wp2
            go_ret
            exact ⟨rfl, T3.out⟩
      · obtain rfl : rm = 3 * (b - 3) - 2 := by omega
        have d3 : decide (3 < b) = true := by simp; omega
        have d4 : 0 < 3 * (b - 3) - 2 := by omega
        clear hrm
        go_enter Try.func9, Try.ntmps9
        go_wp2_with fail
        refine (wearspeaks_any _).mono ?_
        rintro e' w1 ⟨rfl, h1⟩
        have T1 := Lib.hid h1
        clear h1
        go_wp2_with ((with_reducible refine (KM.out _).mono ?_); rintro e w' ⟨rfl, hw⟩; rw [← hw]; clear hw w')
        clear d1 d2 d3 KM
        go_loopw [6, 33] (fun g i wr => ∃ k : Nat, k ≤ L.length ∧ i = .int .i64 k ∧ (∃ G : Nat, g = .int .u64 G ∧ Hid (Upto L k 0 G)) ∧ Hid (Below w.heap.size w wr)) (fun _ i _ => L.length - (intOf i).toNat)
        case atStart => exact ⟨0, Nat.zero_le _, rfl, ⟨0, rfl, Lib.hid (Upto.start L)⟩, T1⟩
        case round =>
          clear T1
          obtain ⟨k, hk, rfl, ⟨G, rfl, hG⟩, hb⟩ := hrel
          by_cases hlt : k < L.length
          · obtain ⟨a, rfl, hab, hck⟩ := HR.out.elem rrow_len (by omega) (at_get hlt)
            have hxo := HOK.out _ (List.mem_of_getElem? (at_get hlt))
            obtain ⟨x, hx⟩ : ∃ x, x = at_ L k := ⟨_, rfl⟩
            rw [← hx] at hck hxo
            have HX := Lib.hid hx
            have HXO := Lib.hid hxo.wear
            have HCK := Lib.hid (show ∀ j u, ([.int .u64 (x.seq : Int), .int .u64 (x.wear : Int), .int .i64 x.block, .int .i64 x.counts] : List Value)[j]? = some u → wr.cell? ((a.add (k * 4)).add j) = some u from fun j u hu => (hb.out.cell (p := (a.add (k * 4)).add j) (by rw [add_block, add_block]; omega)).trans (hck j u hu))
            have W1 := Lib.hid (hb.out.alloc hb.out.size (.cells #[.int .u64 (x.seq : Int), .int .u64 (x.wear : Int), .int .i64 x.block, .int .i64 x.counts] 65))
            have B1 := Lib.hid (show Blk (wr.alloc (.cells #[.int .u64 (x.seq : Int), .int .u64 (x.wear : Int), .int .i64 x.block, .int .i64 x.counts] 65)) wr.heap.size 65 [.int .u64 (x.seq : Int), .int .u64 (x.wear : Int), .int .i64 x.block, .int .i64 x.counts] from heap_alloc_new wr _)
            clear hck hx hxo
            go_wp2_with (with_reducible refine wpl_cells (q := a.add (k * 4)) (row := [.int .u64 (x.seq : Int), .int .u64 (x.wear : Int), .int .i64 x.block, .int .i64 x.counts]) aggR sizeR (.tmp 35) rfl rfl rfl rfl HCK.out ?_)
            obtain ⟨g8, hg8⟩ : ∃ g8, g8 = wr.heap.size := ⟨_, rfl⟩
            obtain ⟨V, hV⟩ : ∃ V, V = wr.alloc (.cells #[.int .u64 (x.seq : Int), .int .u64 (x.wear : Int), .int .i64 x.block, .int .i64 x.counts] 65) := ⟨_, rfl⟩
            rw [← hg8] at B1 ⊢
            rw [← hV] at W1 B1 ⊢
            clear hg8 hV HCK hb
            go_loopw [6, 39] (fun g i wr => ∃ q : Nat, q ≤ L.length ∧ i = .int .i64 q ∧ (∃ G : Nat, g = .int .u64 G ∧ Hid (Upto L k q G)) ∧ Hid (Below V.heap.size V wr)) (fun _ i _ => L.length - (intOf i).toNat)
            case atStart => exact ⟨0, Nat.zero_le _, rfl, ⟨G, rfl, hG⟩, Lib.hid (Below.refl _ _)⟩
            case round =>
              clear hG
              obtain ⟨q, hq, rfl, ⟨G, rfl, hG⟩, hb⟩ := hrel
              by_cases hlq : q < L.length
              · obtain ⟨a', e', _, hcm⟩ := HR.out.elem rrow_len (by omega) (at_get hlq)
                cases e'
                have hyo := HOK.out _ (List.mem_of_getElem? (at_get hlq))
                obtain ⟨y, hy⟩ : ∃ y, y = at_ L q := ⟨_, rfl⟩
                rw [← hy] at hcm hyo
                have HY := Lib.hid hy
                have HYO := Lib.hid hyo.wear
                have TW := Lib.hid (W1.out.trans (hb.out.mono W1.out.size))
                have HCM := Lib.hid (show ∀ j u, ([.int .u64 (y.seq : Int), .int .u64 (y.wear : Int), .int .i64 y.block, .int .i64 y.counts] : List Value)[j]? = some u → wr.cell? ((a.add (q * 4)).add j) = some u from fun j u hu => (TW.out.cell (p := (a.add (q * 4)).add j) (by rw [add_block, add_block]; omega)).trans (hcm j u hu))
                have W2 := Lib.hid (hb.out.alloc hb.out.size (.cells #[.int .u64 (y.seq : Int), .int .u64 (y.wear : Int), .int .i64 y.block, .int .i64 y.counts] 65))
                have B2 := (B1.out.after W2.out).cell 1
                simp only [List.getElem?_cons_zero, List.getElem?_cons_succ] at B2
                obtain ⟨xw, hxw⟩ : ∃ xw, xw = x.wear := ⟨_, rfl⟩
                rw [← hxw] at B2
                have HW := Lib.hid hxw
                have hxo2 : xw < 18446744073709551616 := by rw [hxw]; exact HXO.out
                have hyo2 := HYO.out
                clear hcm hy hyo hxw
                by_cases hxy : y.wear < xw
                · have d5 : decide ((y.wear : Int) < (xw : Int)) = true := by simp; omega
                  have HD := Lib.hid (show ((xw - y.wear : Nat) : Int) = (xw : Int) - (y.wear : Int) by omega)
                  by_cases hGm : G < xw - y.wear
                  · have HU := Lib.hid (show Upto L k (q + 1) (xw - y.wear) by rw [HW.out, HX.out, HY.out]; exact hG.out.more hlt hlq (by rw [← HX.out, ← HY.out, ← HW.out]; exact Nat.le_of_lt hGm))
                    go_wp2_with (with_reducible refine wpl_cells (q := a.add (q * 4)) (row := [.int .u64 (y.seq : Int), .int .u64 (y.wear : Int), .int .i64 y.block, .int .i64 y.counts]) aggR sizeR (.tmp 41) rfl rfl rfl rfl HCM.out ?_)
                    go_roundw
                    case rel => exact ⟨q + 1, by omega, by go_num, ⟨xw - y.wear, by rw [HD.out], HU⟩, W2⟩
                    case measure => simp [intOf]; omega
                  · have HU := Lib.hid (hG.out.skip (by rw [← HX.out, ← HY.out, ← HW.out]; omega))
                    go_wp2_with (with_reducible refine wpl_cells (q := a.add (q * 4)) (row := [.int .u64 (y.seq : Int), .int .u64 (y.wear : Int), .int .i64 y.block, .int .i64 y.counts]) aggR sizeR (.tmp 41) rfl rfl rfl rfl HCM.out ?_)
                    go_roundw
                    case rel => exact ⟨q + 1, by omega, by go_num, ⟨G, rfl, HU⟩, W2⟩
                    case measure => simp [intOf]; omega
                · have d5 : decide ((y.wear : Int) < (xw : Int)) = false := by simp; omega
                  have HU := Lib.hid (hG.out.skip (by rw [← HX.out, ← HY.out, ← HW.out]; omega))
                  go_wp2_with (with_reducible refine wpl_cells (q := a.add (q * 4)) (row := [.int .u64 (y.seq : Int), .int .u64 (y.wear : Int), .int .i64 y.block, .int .i64 y.counts]) aggR sizeR (.tmp 41) rfl rfl rfl rfl HCM.out ?_)
                  go_roundw
                  case rel => exact ⟨q + 1, by omega, by go_num, ⟨G, rfl, HU⟩, W2⟩
                  case measure => simp [intOf]; omega
              · obtain rfl : q = L.length := by omega
                have HU := Lib.hid hG.out.next
                have TW := Lib.hid (W1.out.trans (hb.out.mono W1.out.size))
                clear hG
                go_wp2
                go_roundw
                case rel => exact ⟨k + 1, by omega, by go_num, ⟨G, rfl, HU⟩, TW⟩
                case measure => simp [intOf]; omega
          · obtain rfl : k = L.length := by omega
            obtain rfl : G = gapN L := hG.out.done
            clear hG
            go_wp2_with fail
            ((with_reducible refine (loads_any A L c wr w.heap.size hb.out.size (HR.out.below hb.out) (by omega)).mono ?_); rintro e w2 ⟨X, c', rfl, O2, h2⟩)
            have T2 := Lib.hid (hb.out.trans (h2.mono hb.out.size))
            have kg := Lib.hid (gap_any X L c' w2 w2.heap.size (Nat.le_refl _) (loads_row O2) (by omega) HOK.out)
            clear O2 h2
            go_wp2_with fail
            refine kg.out.mono ?_
            rintro e w3 ⟨rfl, h3⟩
            have T3 := Lib.hid (T2.out.trans (h3.mono T2.out.size))
            clear h3
            go_wp2
            go_ret
            exact ⟨rfl, T3.out⟩
end Go.Proofs.Ytdmganpblkepfaa
