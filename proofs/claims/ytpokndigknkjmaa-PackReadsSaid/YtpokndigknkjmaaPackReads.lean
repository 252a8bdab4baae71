/- The walk of PackReads: it answers true, and changes nothing that was there. No condition. -/
import Derived.Test.YtpokndigknkjmaaPackEye
import Derived.Test.YtpokndigknkjmaaPackNums
namespace Go.Proofs.Ytpokndigknkjmaa
open Go.RowKit

theorem par1 (k : Nat) (hk : k < 1000) : bits .and .i64 (k : Int) 1 = ((k % 2 : Nat) : Int) := by
  have h : ∀ k : Nat, k < 1000 → bits .and .i64 (k : Int) 1 = ((k % 2 : Nat) : Int) := by decide +kernel
  exact h k hk
theorem Ey.keep {w w' : World} {q base : Nat} {l : List UInt8} {i : Nat} {bad : Bool} (h : Ey w q base l i bad) (hq : w'.heap[q]? = w.heap[q]?) (hb : ∀ p : Addr, p.block < base → w'.cell? p = w.cell? p) : Ey w' q base l i bad := by
  obtain ⟨a1, a2, A, c, a3, a4, a5, a6⟩ := h
  exact ⟨a1, a2, A, c, a3, a4, hq.trans a5, a6.keep hb⟩
theorem Ey.lt {w : World} {q base : Nat} {l : List UInt8} {i : Nat} {bad : Bool} (h : Ey w q base l i bad) : q < w.heap.size := by
  obtain ⟨_, _, A, c, _, _, a5, _⟩ := h
  exact blk_lt a5
/-- the three blocks of the law: they stay while another one is written -/
def Three (w : World) (g h q base : Nat) (l : List UInt8) (i : Nat) (bad : Bool) : Prop :=
  Rd w g h (l.drop i) bad ∧ Ey w q base l i bad ∧ g ≠ q ∧ h ≠ q ∧ h < w.heap.size ∧ base ≤ g ∧ base ≤ h ∧ i ≤ l.length
theorem Three.other {w w' : World} {g h q base x : Nat} {l : List UInt8} {i : Nat} {bad : Bool} (t : Three w g h q base l i bad) (hw : w.grownBy w' (some x)) (hx : x ≠ g ∧ x ≠ h ∧ x ≠ q) (hbw : base ≤ w.heap.size) (hb : base ≤ x) : Three w' g h q base l i bad := by
  obtain ⟨a1, a2, a3, a4, a5, a6, a7, a8⟩ := t
  refine ⟨a1.keep (hw.block g a1.lt (by intro e; injection e with e; exact hx.1 e.symm)) (hw.block h a5 (by intro e; injection e with e; exact hx.2.1 e.symm)),
    a2.keep (hw.block q a2.lt (by intro e; injection e with e; exact hx.2.2 e.symm)) fun p hp => World.cell?_of_block (hw.block p.block (by omega) (by intro e; injection e with e; omega)), a3, a4, Nat.lt_of_lt_of_le a5 hw.size, a6, a7, a8⟩

theorem quiet_any {P : Program} {f : FuncId} {args : Array Value} {w : World} {m : Nat} {v : Value} (h : Calls P f args (w.drewN m) fun e w' => e = .returned v ∧ w' = w.drewN m) : Calls P f args (w.drewN m) fun e w'' => e = .returned v ∧ ∃ k, w'' = w.drewN k :=
  h.mono fun _ _ ⟨a, b⟩ => ⟨a, m, b⟩

set_option maxHeartbeats 3200000 in
theorem reads_main (v : Value) (l : List UInt8) (A : Option Addr) (zs : List Int) (c : Nat) (w : World) (hv : Bytes w w.heap.size v l) (hl : l.length ≤ 5000) (hr : Row w w.heap.size A (zs.map (Value.int .i64))) (hz : zs.length ≤ 200) :
    Calls Try.prog 6 #[v, .slice A zs.length c] w fun e w' => e = .returned (.bool true) ∧ Below w.heap.size w w' := by
  obtain ⟨A0, c0, rfl, hc0, hm0, hrow0⟩ := id hv
  have HV := Lib.hid hv
  clear hv hrow0
  have d1 : decide ((5000 : Int) < (l.length : Int)) = false := by simp; omega
  have d2 : decide ((200 : Int) < (zs.length : Int)) = false := by simp; omega
  go_enter Try.func6, Try.ntmps6
  go_wp2_with fail
  refine (speaks_any _).mono ?_
  rintro e w1 ⟨rfl, hb1⟩
  have hb2 := hb1.alloc hb1.size (.cells #[] 5)
  have O2 := Own.made (e := 5) (base := w.heap.size) #[] 0 hb1.size (by simp) rfl w1.heap.size rfl
  have hz2 := hb2.size
  have D2 := Lib.hid (HV.out.below hb2)
  go_wp2_with (at_builtin; refine wpl_append_bytes byteTys rfl (.tmp 23) (.tmp 24) rfl rfl O2 _ _ _ rfl D2.out (by simp; omega) hz2 l.length (by simp) ?_; intro A3 c3 w3 O3 g3 h3; rw [List.nil_append] at O3; have hb3 := hb2.trans g3; have D3 := Lib.hid (O3.bytes (by simp only [maxLen]; omega)))
  clear d1 d2 h3
  ((with_reducible refine (newreader_any _ _ _ D3.out (by omega)).mono ?_); rintro e w4 ⟨g, h, rfl, hrd, hg, hh, hh2, hb4⟩)
  have hb5 := hb3.trans (hb4.mono hb3.size)
  have HRD := Lib.hid hrd
  have HO3 := Lib.hid ((O3.below hb4).alloc (.cells #[.slice A0 l.length c0, .int .i64 0, .bool false] 41))
  have HIN := Lib.hid (World.ownsRow.lt O3)
  have hz3 := hb3.size
  have hz4 := hb4.size
  have hb6 := hb5.alloc hb5.size (.cells #[.slice A0 l.length c0, .int .i64 0, .bool false] 41)
  obtain ⟨q, hq⟩ : ∃ q, q = w4.heap.size := ⟨_, rfl⟩
  have HT : Hid (Three (w4.alloc (.cells #[.slice A0 l.length c0, .int .i64 0, .bool false] 41)) g h q w.heap.size l 0 false) := by
    have hgl := hrd.lt
    have hbb := (Below.refl w4.heap.size w4).alloc (Nat.le_refl _) (.cells #[.slice A0 l.length c0, .int .i64 0, .bool false] 41)
    obtain ⟨A', c', e1, e2, e3, e4⟩ := HV.out
    cases e1
    refine ⟨by rw [List.drop_zero]; exact hrd.same hbb hh2, ⟨by omega, Nat.zero_le _, _, _, e2, e3, by rw [hq]; exact heap_alloc_new w4 _, (e4.keep fun p hp => (hb5.cell (p := p) hp)).keep fun p hp => hbb.cell (by omega)⟩, by omega, by omega, by simp; omega, by omega, by omega, Nat.zero_le _⟩
  clear D3 O3 g3 hb2 O2 D2 hz2 hb1 hrd HRD
  go_wp2
  rw [← hq]
  have HQ := Lib.hid hq
  clear hq
  obtain ⟨W5, hW5⟩ : ∃ W, W = w4.alloc (.cells #[.slice A0 l.length c0, .int .i64 0, .bool false] 41) := ⟨_, rfl⟩
  rw [← hW5] at HO3 HT hb6 ⊢
  clear hW5
  go_loopw [35] (fun i wr => ∃ k : Nat, k ≤ l.length ∧ i = .int .i64 k ∧ ∃ l', Hid (Own 5 wr w.heap.size (.slice A3 l.length c3) l') ∧ Hid (l'.length = l.length) ∧ Hid (Three wr g h q w.heap.size l 0 false) ∧ Below w.heap.size w wr) (fun i _ => l.length - (intOf i).toNat)
  case atStart => exact ⟨0, Nat.zero_le _, rfl, l, HO3, rfl, HT, hb6⟩
  case round =>
    obtain ⟨k, hk, rfl, l', hO, hl', hT, hbr⟩ := hrel
    clear hb6
    by_cases hlt : k < l.length
    · obtain ⟨gi, rfl, hgi, _⟩ := hO.out.addr (by rw [hl'.out]; omega)
      obtain ⟨hx1, hx2⟩ := HIN.out gi rfl
      have cc := hO.out.cell (List.getElem?_eq_getElem (by rw [hl'.out]; exact hlt))
      have cf := hO.out.free k
      go_wp2
      clear cc cf
      go_roundw
      case rel => exact ⟨k + 1, by omega, by go_num, _, hO.out.set k 238, by rw [List.length_set]; exact hl'.out, hT.out.other (only_set _ ⟨gi, k, none⟩ _) (by have := HQ.out; exact ⟨by show gi ≠ g; omega, by show gi ≠ h; omega, by show gi ≠ q; omega⟩) hbr.size hgi, hbr.setCell hgi _⟩
      case measure => simp [intOf]; omega
    · clear hO hl'
      go_wp2
      go_loopw [44] (fun i wl => ∃ k : Nat, k ≤ zs.length ∧ i = .int .i64 k ∧ ∃ i0 bad, Hid (Three wl g h q w.heap.size l i0 bad) ∧ Below w.heap.size w wl) (fun i _ => zs.length - (intOf i).toNat)
      case atStart => exact ⟨0, Nat.zero_le _, rfl, 0, false, hT, hbr⟩
      case round =>
        clear hT hbr
        obtain ⟨k, hk, rfl, i0, bad, hT, hbr⟩ := hrel
        by_cases hlt3 : k < zs.length
        · obtain ⟨a, rfl, hab, hcell⟩ := hr.at_ (k := k) (by simpa using hlt3)
          have hc2 := (hbr.cell (p := a.add k) (by rw [add_block]; exact hab)).trans hcell
          rw [List.getElem_map] at hc2
          obtain ⟨z, hz⟩ : ∃ z, z = zs[k] := ⟨_, rfl⟩
          rw [← hz] at hc2
          have hp := par1 k (by omega)
          clear hcell hz
          obtain ⟨t1, t2, t3, t4, t5, t6, t7, t8⟩ := id hT.out
          have T1 := Lib.hid t1
          have T2 := Lib.hid t2
          clear t1 t2
          have hqx := T2.out.lt
          rcases (show k % 2 = 0 ∨ k % 2 = 1 by omega) with h2 | h2
          · rw [h2] at hp
            have H2 := Lib.hid h2
            clear h2
            obtain ⟨v, i1, bad1, hsn⟩ := sn_any l i0 bad z
            have HSN := Lib.hid hsn
            clear hsn
            go_wp2_with fail
            ((with_reducible refine (rn_any g h l i0 bad z v i1 bad1 HSN.out _ T1.out t8).mono ?_); rintro e w5 ⟨rfl, hrd5, hg5⟩)
            have hbr5 := Below.only hbr hg5 hbr.size t6
            have hh5 := Nat.lt_of_lt_of_le t5 hg5.size
            have T2' := Lib.hid (T2.out.keep (hg5.block q hqx (by intro e; injection e with e; omega)) fun p hp => World.cell?_of_block (hg5.block p.block (by have := hbr.size; omega) (by intro e; injection e with e; omega)))
            have hqx5 := Nat.lt_of_lt_of_le hqx hg5.size
            have HRD5 := Lib.hid hrd5
            clear hrd5 hg5 T1 T2 hbr
            go_wp2_with fail
            ((with_reducible refine (en_any q w.heap.size l i0 bad z v i1 bad1 HSN.out _ T2'.out (by omega)).mono ?_); rintro e w6 ⟨rfl, hey6, hg6⟩)
            have hbr6 := Below.only hbr5 hg6 hbr5.size hey6.1
            have T6 : Hid (Three w6 g h q w.heap.size l i1 bad1) := Lib.hid ⟨HRD5.out.keep (hg6.block g HRD5.out.lt (by intro e; injection e with e; omega)) (hg6.block h hh5 (by intro e; injection e with e; omega)), hey6, t3, t4, Nat.lt_of_lt_of_le hh5 hg6.size, t6, t7, hey6.2.1⟩
            clear hey6 hg6 T2' hbr5 HRD5
            go_wp2
            obtain ⟨a1, a2, a3, a4, a5, a6, a7, a8⟩ := id T6.out
            obtain ⟨_, _, A9, c9, _, _, hblk, _⟩ := a2
            have c90 := blk_cell hblk 0
            have c91 := blk_cell hblk 1
            have c92 := blk_cell hblk 2
            simp at c90 c91 c92
            obtain ⟨D, hD⟩ : ∃ D, D = (l.drop i1).length := ⟨_, rfl⟩
            have hDi : (l.length : Int) - (i1 : Int) = (D : Int) := by rw [hD, List.length_drop]; omega
            have hDw : IntKind.i64.wrap ((l.length : Int) - (i1 : Int)) = (D : Int) := by rw [hDi]; exact IntWalk.i64_in _ (by rw [List.length_drop] at hD; omega)
            have Q1 : Hid (∀ m, Calls Try.prog 15 #[.pointer (some ⟨g, 0, none⟩)] (w6.drewN m) fun e w' => e = .returned (.int .i64 (D : Int)) ∧ w' = w6.drewN m) := Lib.hid fun m => (hD ▸ left_any g h _ _ (w6.drewN m) a1).mono fun _ _ ⟨x, y⟩ => ⟨x, y.symm⟩
            have Q2 : Hid (∀ m, Calls Try.prog 16 #[.pointer (some ⟨g, 0, none⟩)] (w6.drewN m) fun e w' => e = .returned (.bool bad1) ∧ w' = w6.drewN m) := Lib.hid fun m => (bad_any g h _ _ (w6.drewN m) a1).mono fun _ _ ⟨x, y⟩ => ⟨x, y.symm⟩
            have hb6d : ∀ m, Below w.heap.size w (w6.drewN m) := fun m => ⟨hbr6.os, hbr6.tape, hbr6.output, hbr6.size, hbr6.block⟩
            have T6d : Hid (∀ m, Three (w6.drewN m) g h q w.heap.size l i1 bad1) := Lib.hid fun m => T6.out
            have HB6D := Lib.hid hb6d
            clear a1 hblk hD hDi hb6d
            go_quiet ((first | (go_at_call 15; exact quiet_any (Q1.out _)) | (go_at_call 16; exact quiet_any (Q2.out _))))
            clear c90 c91 c92 hDw
            go_wp2
            go_roundw
            case rel => exact ⟨k + 1, by omega, by go_num, i1, bad1, T6d.out _, HB6D.out _⟩
            case measure => simp [intOf]; omega
          · rw [h2] at hp
            have H2 := Lib.hid h2
            clear h2
            obtain ⟨r, i1, bad1, hst⟩ := st_any l i0 bad z
            have hrl := st_len hst
            obtain ⟨N, hN⟩ : ∃ N, r.length = N := ⟨_, rfl⟩
            rw [hN] at hrl
            have HST := Lib.hid hst
            have HN := Lib.hid hN
            clear hst hN
            go_wp2_with fail
            ((with_reducible refine (rb_any g h l i0 bad z r i1 bad1 HST.out N HN.out _ T1.out t8 t5 (by omega)).mono ?_); rintro e w5 ⟨gx, c5, rfl, hx5, O5, hrd5, hg5⟩)
            have hgl := T1.out.lt
            have hbr5 := Below.only hbr hg5 hbr.size t6
            have hh5 := Nat.lt_of_lt_of_le t5 hg5.size
            have hzr := hbr.size
            have hz5 := hg5.size
            have T2' := Lib.hid (T2.out.keep (hg5.block q hqx (by intro e; injection e with e; omega)) fun p hp => World.cell?_of_block (hg5.block p.block (by omega) (by intro e; injection e with e; omega)))
            have hqx5 := Nat.lt_of_lt_of_le hqx hg5.size
            have HRD5 := Lib.hid hrd5
            have hg5x : gx < w5.heap.size := (World.ownsRow.lt O5 gx rfl).2
            have S5 := str_of (O5.bytes (by rw [HN.out]; simp only [maxLen]; omega))
            have S5d := str_of (Bytes.keep (w' := World.drew w5) (O5.bytes (by rw [HN.out]; simp only [maxLen]; omega)) fun p _ => rfl)
            have HO5 := Lib.hid O5
            clear hrd5 hg5 T1 T2 hbr O5
            go_wp2_with fail
            go_region_with (first
              | (go_at_call 20; refine (eb_any q w.heap.size l i0 bad z r i1 bad1 HST.out N HN.out _ (by exact T2'.out) (by exact Nat.le_trans hzr hz5) (by omega)).mono ?_; rintro e w6 ⟨A6, c6, rfl, O6, hey6, hg6⟩; have S6 := str_of (O6.bytes (by rw [HN.out]; simp only [maxLen]; omega)); have HO7 := Lib.hid (Own.kept (w := World.drew w5) HO5.out hg6 (.inr (by show (some gx : Option Nat) ≠ some q; intro e; injection e with e; omega))); have S7 := str_of (HO7.out.bytes (by rw [HN.out]; simp only [maxLen]; omega)); have HEY6 := Lib.hid hey6; have HG6 := Lib.hid hg6; clear hey6 hg6 O6))
            all_goals
              have hg6 : w5.grownBy w6 (some q) := ⟨HG6.out.os, HG6.out.tape, HG6.out.output, HG6.out.size, HG6.out.block⟩
              have hbr6 := Below.only hbr5 hg6 hbr5.size HEY6.out.1
              have T6 : Hid (Three w6 g h q w.heap.size l i1 bad1) := Lib.hid ⟨HRD5.out.keep (hg6.block g HRD5.out.lt (by intro e; injection e with e; omega)) (hg6.block h hh5 (by intro e; injection e with e; omega)), HEY6.out, t3, t4, Nat.lt_of_lt_of_le hh5 hg6.size, t6, t7, HEY6.out.2.1⟩
              clear hg6 HG6 HEY6 T2' hbr5 HRD5 HO5
              go_wp2
              clear S5 S5d S6 S7
              go_loopw [71] (fun i wl => ∃ j : Nat, j ≤ N ∧ i = .int .i64 j ∧ ∃ r', Hid (Own 5 wl w.heap.size (.slice (some ⟨gx, 0, none⟩) N c5) r') ∧ Hid (r'.length = N) ∧ Hid (Three wl g h q w.heap.size l i1 bad1) ∧ Below w.heap.size w wl) (fun i _ => N - (intOf i).toNat)
              case atStart => exact ⟨0, Nat.zero_le _, rfl, r, Lib.hid (HO7.out.lower hzr), HN, T6, hbr6⟩
              case round =>
                clear T6 hbr6 HO7
                obtain ⟨j, hj, rfl, r', hO9, hl9, T6, hbl9⟩ := hrel
                by_cases hlt9 : j < N
                · have cc := hO9.out.cell (List.getElem?_eq_getElem (by rw [hl9.out]; exact hlt9))
                  have cf := hO9.out.free j
                  go_wp2
                  clear cc cf
                  go_roundw
                  case rel => exact ⟨j + 1, by omega, by go_num, _, hO9.out.set j 238, by rw [List.length_set]; exact hl9.out, T6.out.other (only_set _ ⟨gx, j, none⟩ _) ⟨by show gx ≠ g; omega, by show gx ≠ h; omega, by show gx ≠ q; omega⟩ hbl9.size (by show w.heap.size ≤ gx; omega), hbl9.setCell (by show w.heap.size ≤ gx; omega) _⟩
                  case measure => simp [intOf]; omega
                · clear hO9 hl9
                  go_wp2
                  obtain ⟨a1, a2, a3, a4, a5, a6, a7, a8⟩ := id T6.out
                  obtain ⟨_, _, A9, c9, _, _, hblk, _⟩ := a2
                  have c90 := blk_cell hblk 0
                  have c91 := blk_cell hblk 1
                  have c92 := blk_cell hblk 2
                  simp at c90 c91 c92
                  obtain ⟨D, hD⟩ : ∃ D, D = (l.drop i1).length := ⟨_, rfl⟩
                  have hDi : (l.length : Int) - (i1 : Int) = (D : Int) := by rw [hD, List.length_drop]; omega
                  have hDw : IntKind.i64.wrap ((l.length : Int) - (i1 : Int)) = (D : Int) := by rw [hDi]; exact IntWalk.i64_in _ (by rw [List.length_drop] at hD; omega)
                  have Q1 : Hid (∀ m, Calls Try.prog 15 #[.pointer (some ⟨g, 0, none⟩)] (wr.drewN m) fun e w' => e = .returned (.int .i64 (D : Int)) ∧ w' = wr.drewN m) := Lib.hid fun m => (hD ▸ left_any g h _ _ (wr.drewN m) a1).mono fun _ _ ⟨x, y⟩ => ⟨x, y.symm⟩
                  have Q2 : Hid (∀ m, Calls Try.prog 16 #[.pointer (some ⟨g, 0, none⟩)] (wr.drewN m) fun e w' => e = .returned (.bool bad1) ∧ w' = wr.drewN m) := Lib.hid fun m => (bad_any g h _ _ (wr.drewN m) a1).mono fun _ _ ⟨x, y⟩ => ⟨x, y.symm⟩
                  have hb6d : ∀ m, Below w.heap.size w (wr.drewN m) := fun m => ⟨hbl9.os, hbl9.tape, hbl9.output, hbl9.size, hbl9.block⟩
                  have T6d : Hid (∀ m, Three (wr.drewN m) g h q w.heap.size l i1 bad1) := Lib.hid fun m => T6.out
                  have HB6D := Lib.hid hb6d
                  clear a1 hblk hD hDi hb6d
                  go_quiet ((first | (go_at_call 15; exact quiet_any (Q1.out _)) | (go_at_call 16; exact quiet_any (Q2.out _))))
                  clear c90 c91 c92 hDw
                  go_wp2
                  go_roundw
                  case rel => exact ⟨k + 1, by omega, by go_num, i1, bad1, T6d.out _, HB6D.out _⟩
                  case measure => simp [intOf]; omega
        · go_wp2
          go_ret
          exact ⟨rfl, hbr⟩

set_option maxHeartbeats 1000000 in
theorem packReads_any (v u : Value) (w : World) (h : ∃ l, Bytes w w.heap.size v l) (h2 : ∃ zs, Nums w w.heap.size .i64 u zs) :
    Calls Try.prog 6 #[v, u] w fun e w' => e = .returned (.bool true) ∧ Below w.heap.size w w' := by
  obtain ⟨l, hv⟩ := h
  obtain ⟨zs, A, c, rfl, hzc, hcm, hr, _⟩ := h2
  by_cases hL : l.length ≤ 5000 ∧ zs.length ≤ 200
  · exact reads_main v l A zs c w hv hL.1 hr hL.2
  · obtain ⟨A0, c0, rfl, _, _, _⟩ := hv
    clear hr
    by_cases h1 : 5000 < l.length
    · have d1 : decide ((5000 : Int) < (l.length : Int)) = true := by simp; omega
      clear hL h1
      go_enter Try.func6, Try.ntmps6
      go_wp2_with fail
      refine (speaks_any _).mono ?_
      rintro e w1 ⟨rfl, hb1⟩
      go_wp2
      go_ret
      exact ⟨rfl, hb1⟩
    · have d1 : decide ((5000 : Int) < (l.length : Int)) = false := by simp; omega
      have d2 : decide ((200 : Int) < (zs.length : Int)) = true := by simp; omega
      clear hL h1
      go_enter Try.func6, Try.ntmps6
      go_wp2_with fail
      refine (speaks_any _).mono ?_
      rintro e w1 ⟨rfl, hb1⟩
      go_wp2
      go_ret
      exact ⟨rfl, hb1⟩
end Go.Proofs.Ytpokndigknkjmaa
