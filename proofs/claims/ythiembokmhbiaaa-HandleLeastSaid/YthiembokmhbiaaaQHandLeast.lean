/- The walk of HandleLeast: it answers true, and changes nothing that was there. No condition. (written by gen_hand.py) -/
import Derived.Test.YthiembokmhbiaaaQHandPlays
import Derived.Test.YthiembokmhbiaaaQNandAnd
import Derived.Test.YthiembokmhbiaaaQYieldsOne
namespace Go.Proofs.Ythiembokmhbiaaa
open Go.RowKit
theorem and_7 (z : Int) : ∃ m : Nat, m < 8 ∧ Value.int .i64 (bits .and .i64 z 7) = .int .i64 (m : Int) := by
  have := and_low z 3 7 rfl (by omega)
  rw [show ((7 : Nat) : Int) = 7 from rfl] at this
  exact ⟨_, Nat.mod_lt _ (by decide), by rw [this]⟩
/-- which of the numbers 0 to 7 are handles -/
def useL (S : List (Bool × Int)) : List Bool := false :: (S.map Prod.fst ++ [false])
theorem useL_at {S : List (Bool × Int)} (h : S.length = 6) {m : Nat} (hm : m < 8) : (useL S)[m]? = some (slotOf S (m : Int)).1 := by
  obtain ⟨a, b, c, d, e, f, rfl⟩ := hcells_six h
  rcases (show m = 0 ∨ m = 1 ∨ m = 2 ∨ m = 3 ∨ m = 4 ∨ m = 5 ∨ m = 6 ∨ m = 7 by omega) with rfl | rfl | rfl | rfl | rfl | rfl | rfl | rfl <;> rfl
theorem useL_close {S : List (Bool × Int)} (h : S.length = 6) {m : Nat} (hm : m < 8) : (useL S).set m false = useL (closeS S (m : Int)) := by
  unfold closeS
  cases hb : (slotOf S (m : Int)).1 with
  | false =>
    rw [if_neg (by simp)]
    have := useL_at h hm
    rw [hb] at this
    obtain ⟨h1, h2⟩ := List.getElem?_eq_some_iff.1 this
    rw [← h2]
    exact List.set_getElem_self h1
  | true =>
    rw [if_pos rfl]
    obtain ⟨a, b, c, d, e, f, rfl⟩ := hcells_six h
    rcases (show m = 0 ∨ m = 1 ∨ m = 2 ∨ m = 3 ∨ m = 4 ∨ m = 5 ∨ m = 6 ∨ m = 7 by omega) with rfl | rfl | rfl | rfl | rfl | rfl | rfl | rfl
    · cases hb
    · rfl
    · rfl
    · rfl
    · rfl
    · rfl
    · rfl
    · cases hb
theorem useL_open {S : List (Bool × Int)} (h : S.length = 6) {k : Nat} (hk : k < 6) (n : Int) : (useL S).set (k + 1) true = useL (S.set k (true, n)) := by
  obtain ⟨a, b, c, d, e, f, rfl⟩ := hcells_six h
  rcases (show k = 0 ∨ k = 1 ∨ k = 2 ∨ k = 3 ∨ k = 4 ∨ k = 5 by omega) with rfl | rfl | rfl | rfl | rfl | rfl <;> rfl
def ucells (S : List (Bool × Int)) : List Value := (useL S).map Value.bool
theorem ucells_at {S : List (Bool × Int)} (h : S.length = 6) {m : Nat} (hm : m < 8) : (ucells S)[m]? = some (.bool (slotOf S (m : Int)).1) := by
  unfold ucells
  rw [List.getElem?_map, useL_at h hm]
  rfl
/-- the program's table, and the law's list of its handles -/
structure HList (w w' : World) (g u : Nat) (S : List (Bool × Int)) : Prop where
  t : HT w' g S
  l : Blk w' u 46 (ucells S)
  gw : w.heap.size ≤ g
  uw : w.heap.size ≤ u
  ne : g ≠ u
  b : Below w.heap.size w w'
theorem HList.after {w w1 w2 : World} {g u : Nat} {S : List (Bool × Int)} (h : HList w w1 g u S) (hb : Below w1.heap.size w1 w2) : HList w w2 g u S :=
  ⟨h.t.after hb, h.l.after hb, h.gw, h.uw, h.ne, h.b.trans (hb.mono h.b.size)⟩
theorem slot_is {S : List (Bool × Int)} {m : Nat} (h : (slotOf S (m : Int)).1 = true) : 1 ≤ m ∧ m ≤ 6 := by
  by_cases hh : 1 ≤ (m : Int) ∧ (m : Int) ≤ 6
  · omega
  · rw [slotOf_out (by omega)] at h
    cases h
set_option maxRecDepth 100000 in
set_option maxHeartbeats 8000000 in
theorem handleLeast_any (v : Value) (w : World) (hs : ∃ os, Script22 w w.heap.size v os) :
    Calls Try.prog 5 #[v] w fun e w' => e = .returned (.bool true) ∧ Below w.heap.size w w' := by
  obtain ⟨os, hs⟩ := hs
  obtain ⟨A, c, rfl, _⟩ := id hs
  have HS := Lib.hid hs
  clear hs
  by_cases hl : 200 < os.length
  · have d1 : decide ((200 : Int) < (os.length : Int)) = true := by simp; omega
    go_enter Try.func5, Try.ntmps5
    go_wp2_with fail
    refine (handspeaks_any _).mono ?_
    rintro e' w1 ⟨rfl, b1⟩
    go_wp2_with fail
    go_ret
    exact ⟨rfl, b1⟩
  · have d1 : decide ((200 : Int) < (os.length : Int)) = false := by simp; omega
    have HLN : Hid (os.length ≤ 200) := Lib.hid (by omega)
    clear hl
    go_enter Try.func5, Try.ntmps5
    go_wp2_with fail
    refine (handspeaks_any _).mono ?_
    rintro e' w1 ⟨rfl, b1⟩
    have B1 := Lib.hid b1
    clear b1
    go_wp2_with ((with_reducible refine (new_any _).mono ?_); rintro e w2 ⟨g, rfl, hg, H1, b2⟩; have HN := Lib.hid (Blk.new w2 46 (ucells hS0)); have HT1 := Lib.hid H1; have HG := Lib.hid hg; have HB2 := Lib.hid b2; clear H1 hg b2)
    clear d1
    obtain ⟨u, hu⟩ : ∃ u, u = w2.heap.size := ⟨_, rfl⟩
    obtain ⟨W, hW⟩ : ∃ W, W = w2.alloc (.cells #[.bool false, .bool false, .bool false, .bool false, .bool false, .bool false, .bool false, .bool false] 46) := ⟨_, rfl⟩
    rw [← hu, show w2.alloc (.cells (ucells hS0).toArray 46) = W from hW.symm] at HN
    rw [← hu, ← hW]
    have P0 : Hid (HList w W g u hS0) := Lib.hid (by
      have hlt := HT1.out.lt
      have b := B1.out.trans (HB2.out.mono B1.out.size)
      have b2 : Below w2.heap.size w2 W := by rw [hW]; exact (Below.refl _ _).alloc (Nat.le_refl _) _
      exact ⟨HT1.out.after b2, HN.out, Nat.le_trans B1.out.size HG.out, by rw [hu]; exact b.size, by omega, b.trans (b2.mono b.size)⟩)
    clear hu hW HN HT1 HG HB2 B1
    go_loopw [22] (fun i wr => ∃ j : Nat, j ≤ os.length ∧ i = .int .i64 j ∧ ∃ S, Hid (HList w wr g u S)) (fun i _ => os.length - (intOf i).toNat)
    case atStart => exact ⟨0, by omega, rfl, hS0, P0⟩
    case round =>
      clear P0
      obtain ⟨j, hj, rfl, S, hP⟩ := hrel
      have hj2 : j ≤ 200 := by have := HLN.out; omega
      by_cases hlt : j < os.length
      · obtain ⟨p, rfl, hok, hld⟩ := HS.out.at_ hlt hP.out.b
        obtain ⟨⟨k, n⟩, ho⟩ : ∃ o, o = os[j] := ⟨_, rfl⟩
        rw [← ho] at hok hld
        have HLD := Lib.hid (show (loadVar 32 (p.add (j * 2))).run Try.prog wr = .ok (.agg #[.int .i64 k, .int .i64 n]) wr from hld)
        have PV0 := Lib.hid (fun o => hP.out.after ((Below.refl wr.heap.size wr).alloc (Nat.le_refl _) o))
        have NG0 : Hid (g < wr.heap.size ∧ u < wr.heap.size) := Lib.hid ⟨hP.out.t.lt, hP.out.l.lt⟩
        have CV0 := Lib.hid (Blk.new wr 32 [.int .i64 k, .int .i64 n])
        clear ho hld hok hP HS
        by_cases hk : bits .and .i64 k 1 = 0
        · obtain ⟨m, hm, hkm⟩ := and_7 n
          have HM8 := Lib.hid hm
          clear hm
          go_wp2_with (with_reducible refine wpl_o22load (.tmp 24) rfl rfl rfl HLD.out ?_)
          obtain ⟨V, hV⟩ : ∃ V, V = wr.alloc (.cells #[.int .i64 k, .int .i64 n] 32) := ⟨_, rfl⟩
          have PV := Lib.hid (PV0.out (.cells #[.int .i64 k, .int .i64 n] 32))
          rw [← hV] at PV ⊢
          clear CV0 NG0 PV0 HLD hV hk hkm
          have hm8 := HM8.out
          obtain ⟨T, hT⟩ : ∃ T, T = closeS S (m : Int) := ⟨_, rfl⟩
          have HU2 := Lib.hid (useL_close PV.out.t.six hm8)
          have KC := Lib.hid (closeT g S (m : Int) V.drew PV.out.t.drew)
          have c1 := (PV.out.l.cell m).trans (ucells_at PV.out.t.six hm8)
          rw [← hT] at KC HU2
          unfold closeA at KC
          clear hT
          have NU : Hid (∀ w3, V.drew.grownBy w3 (some g) → w3.cell? ⟨u, m, none⟩ = some (.bool (slotOf S (m : Int)).1)) := Lib.hid (fun w3 G => ((PV.out.l.grown (w := V.drew) G (by simp only [ne_eq, Option.some.injEq]; exact fun e => PV.out.ne e.symm)).cell m).trans (ucells_at PV.out.t.six hm8))
          have PU : Hid (∀ w3 w5, V.drew.grownBy w3 (some g) → HT w3 g T → Blk w5 u 46 ((ucells S).set m (.bool false)) → w3.grownBy w5 (some u) → HList w w5 g u T) := Lib.hid (fun w3 w5 G3 T3 B5 G5 =>
            ⟨T3.grown G5 (by simp only [ne_eq, Option.some.injEq]; exact PV.out.ne), by
              have := B5
              unfold ucells at this ⊢
              rw [← HU2.out, List.map_set]
              exact this, PV.out.gw, PV.out.uw, PV.out.ne, ((PV.out.b.trans ((Below.refl V.heap.size V).drew.mono PV.out.b.size)).grown G3 (Nat.le_trans PV.out.b.size (Nat.le_refl _)) (fun k e => by cases e; exact PV.out.gw)).grown G5 (Nat.le_trans PV.out.b.size G3.size) (fun k e => by cases e; exact PV.out.uw)⟩)
          have HBU : Hid (∀ w3, V.drew.grownBy w3 (some g) → Blk w3 u 46 (ucells S)) := Lib.hid (fun w3 G => PV.out.l.grown (w := V.drew) G (by simp only [ne_eq, Option.some.injEq]; exact fun e => PV.out.ne e.symm))
          have hul : m < (ucells S).length := by unfold ucells; rw [List.length_map]; unfold useL; rw [List.length_cons, List.length_append, List.length_map, PV.out.t.six]; simp; omega
          obtain ⟨b, hb⟩ : ∃ b, b = (slotOf S (m : Int)).1 := ⟨_, rfl⟩
          rw [← hb] at KC c1 NU
          cases b with
          | true =>
            have hm16 := slot_is hb.symm
            have d1 : decide ((1 : Int) ≤ (m : Int)) = true := by simp; omega
            have d2 : decide ((m : Int) ≤ 6) = true := by simp; omega
            have d0 : (0 : Int) ≤ (m : Int) := by omega
            have d8 : (m : Int) < 8 := by omega
            clear hb hm16
            rw [if_pos rfl] at KC
            go_region_held3 (fun w' => w'.cell? ⟨u, m, none⟩ = some (.bool true))
              (first | go_keep | exact c1 | exact c31)
              (first
                | (go_at_call 8; (with_reducible refine KC.out.mono ?_); rintro x w3 ⟨rfl, T3, G3⟩; have c31 := NU.out _ G3))
            have HB3 := HBU.out _ G3
            go_wp2_with ((with_reducible refine wpl_blk_bool false boolOne (.tmp 50) (.const (.bool false)) rfl rfl HB3 m hul rfl rfl _ rfl ?_); intro w5 B5 G5 e5)
            exact ⟨⟨j + 1, by omega, by go_num, T, Lib.hid (PU.out _ _ G3 T3 B5 G5)⟩, by simp [intOf]; omega⟩
          | false =>
            have d0 : (0 : Int) ≤ (m : Int) := by omega
            have d8 : (m : Int) < 8 := by omega
            clear hb
            rw [if_neg (by simp)] at KC
            have S1 : V.drew.cell? ⟨u, m, none⟩ = some (.bool false) := c1
            refine wp_region_held_drew (S := (fun w' => w'.cell? ⟨u, m, none⟩ = some (.bool false))) (by kernel_rfl) S1 (fun _ => ?_)
            refine wpAnyH_take (i := 0) (v := .pointer (some ⟨g, 0, none⟩)) rfl (by kernel_rfl) (by kernel_rfl) (by kernel_rfl) (fun _ _ _ h => h) (Or.inl ⟨by kernel_rfl, fun w _ => by go_simp⟩) S1 ?_
            simp only [Act.put, List.getElem_toArray, List.getElem_cons_zero, List.setIfInBounds_toArray, List.set_cons_zero, List.set_cons_succ]
            refine wpAnyH_take (i := 1) (v := .int .i64 (m : Int)) rfl (by kernel_rfl) (by kernel_rfl) (by kernel_rfl) (fun _ _ _ h => h) (Or.inl ⟨by kernel_rfl, fun w _ => by go_simp⟩) S1 ?_
            simp only [Act.put, List.getElem_toArray, List.getElem_cons_zero, List.getElem_cons_succ, List.setIfInBounds_toArray, List.set_cons_zero, List.set_cons_succ]
            refine wpAnyH_take (i := 4) (v := .int .i64 (m : Int)) rfl (by kernel_rfl) (by kernel_rfl) (by kernel_rfl) (fun _ _ _ h => h) (Or.inl ⟨by kernel_rfl, fun w _ => by go_simp⟩) S1 ?_
            simp only [Act.put, List.getElem_toArray, List.getElem_cons_zero, List.getElem_cons_succ, List.setIfInBounds_toArray, List.set_cons_zero, List.set_cons_succ]
            refine wpAnyH_take (i := 5) (v := .pointer (some ⟨u, m, none⟩)) rfl (by kernel_rfl) (by kernel_rfl) (by kernel_rfl) (fun _ _ _ h => h) (Or.inl ⟨by kernel_rfl, fun w _ => by go_simp⟩) S1 ?_
            simp only [Act.put, List.getElem_toArray, List.getElem_cons_zero, List.getElem_cons_succ, List.setIfInBounds_toArray, List.set_cons_zero, List.set_cons_succ]
            refine wpAnyH_take (i := 6) (v := .bool false) rfl (by kernel_rfl) (by kernel_rfl) (by kernel_rfl) (fun _ _ _ h => h) (yields_one (ty := 4) (fun w => by kernel_rfl) (.tmp 38) (by kernel_rfl) (by kernel_rfl) (by kernel_rfl) (fun w h => h)) S1 ?_
            simp only [Act.put, List.getElem_toArray, List.getElem_cons_zero, List.getElem_cons_succ, List.setIfInBounds_toArray, List.set_cons_zero, List.set_cons_succ]
            refine wpAnyH_ready (rs := [2]) (by kernel_rfl) (by simp) (AllReadyH.cons rfl (fun K hK => ?_) AllReadyH.nil)
            go_simp
            ((with_reducible refine KC.out.mono ?_); rintro x w3 ⟨rfl, T3, G3⟩)
            have S2 := NU.out _ G3
            refine hK _ _ S2 (fun _ => ?_)
            clear hK K
            refine wpAnyH_take (i := 3) (v := .bool false) rfl (by kernel_rfl) (by kernel_rfl) (by kernel_rfl) (fun _ _ _ h => h) (Or.inl ⟨by kernel_rfl, fun w _ => by go_simp⟩) S2 ?_
            simp only [Act.put, List.getElem_toArray, List.getElem_cons_zero, List.getElem_cons_succ, List.setIfInBounds_toArray, List.set_cons_zero, List.set_cons_succ]
            refine wpAnyH_take (i := 7) (v := .bool false) rfl (by kernel_rfl) (by kernel_rfl) (by kernel_rfl) (fun _ _ _ h => h) (Or.inl ⟨by kernel_rfl, fun w _ => by go_simp⟩) S2 ?_
            simp only [Act.put, List.getElem_toArray, List.getElem_cons_zero, List.getElem_cons_succ, List.setIfInBounds_toArray, List.set_cons_zero, List.set_cons_succ]
            refine wpAnyH_take (i := 8) (v := undef) rfl (by kernel_rfl) (by kernel_rfl) (by kernel_rfl) (fun _ _ _ h => h) (Or.inr ⟨by kernel_rfl, rfl⟩) S2 ?_
            simp only [Act.put, List.getElem_toArray, List.getElem_cons_zero, List.getElem_cons_succ, List.setIfInBounds_toArray, List.set_cons_zero, List.set_cons_succ]
            refine wpAnyH_take (i := 9) (v := undef) rfl (by kernel_rfl) (by kernel_rfl) (by kernel_rfl) (fun _ _ _ h => h) (Or.inr ⟨by kernel_rfl, rfl⟩) S2 ?_
            simp only [Act.put, List.getElem_toArray, List.getElem_cons_zero, List.getElem_cons_succ, List.setIfInBounds_toArray, List.set_cons_zero, List.set_cons_succ]
            refine wpAnyH_take (i := 10) (v := .bool false) rfl (by kernel_rfl) (by kernel_rfl) (by kernel_rfl) (fun _ _ _ h => h) (Or.inl ⟨by kernel_rfl, fun w _ => by go_simp⟩) S2 ?_
            simp only [Act.put, List.getElem_toArray, List.getElem_cons_zero, List.getElem_cons_succ, List.setIfInBounds_toArray, List.set_cons_zero, List.set_cons_succ]
            refine wpAnyH_take (i := 11) (v := .bool false) rfl (by kernel_rfl) (by kernel_rfl) (by kernel_rfl) (fun _ _ _ h => h) (Or.inl ⟨by kernel_rfl, fun w _ => by go_simp⟩) S2 ?_
            simp only [Act.put, List.getElem_toArray, List.getElem_cons_zero, List.getElem_cons_succ, List.setIfInBounds_toArray, List.set_cons_zero, List.set_cons_succ]
            refine wpAnyH_take (i := 12) (v := undef) rfl (by kernel_rfl) (by kernel_rfl) (by kernel_rfl) (fun _ _ _ h => h) (Or.inr ⟨by kernel_rfl, rfl⟩) S2 ?_
            simp only [Act.put, List.getElem_toArray, List.getElem_cons_zero, List.getElem_cons_succ, List.setIfInBounds_toArray, List.set_cons_zero, List.set_cons_succ]
            refine wpAnyH_take (i := 13) (v := undef) rfl (by kernel_rfl) (by kernel_rfl) (by kernel_rfl) (fun _ _ _ h => h) (Or.inr ⟨by kernel_rfl, rfl⟩) S2 ?_
            simp only [Act.put, List.getElem_toArray, List.getElem_cons_zero, List.getElem_cons_succ, List.setIfInBounds_toArray, List.set_cons_zero, List.set_cons_succ]
            refine wpAnyH_take (i := 14) (v := .bool false) rfl (by kernel_rfl) (by kernel_rfl) (by kernel_rfl) (fun _ _ _ h => h) (Or.inl ⟨by kernel_rfl, fun w _ => by go_simp⟩) S2 ?_
            simp only [Act.put, List.getElem_toArray, List.getElem_cons_zero, List.getElem_cons_succ, List.setIfInBounds_toArray, List.set_cons_zero, List.set_cons_succ]
            refine wpAnyH_take (i := 15) (v := .bool false) rfl (by kernel_rfl) (by kernel_rfl) (by kernel_rfl) (fun _ _ _ h => h) (Or.inl ⟨by kernel_rfl, fun w _ => by go_simp⟩) S2 ?_
            simp only [Act.put, List.getElem_toArray, List.getElem_cons_zero, List.getElem_cons_succ, List.setIfInBounds_toArray, List.set_cons_zero, List.set_cons_succ]
            refine wpAnyH_done (by kernel_rfl) ?_ _
            clear S1 S2
            go_simp
            have HB3 := HBU.out _ G3
            go_wp2_with ((with_reducible refine wpl_blk_bool false boolOne (.tmp 50) (.const (.bool false)) rfl rfl HB3 m hul rfl rfl _ rfl ?_); intro w5 B5 G5 e5)
            exact ⟨⟨j + 1, by omega, by go_num, T, Lib.hid (PU.out _ _ G3 T3 B5 G5)⟩, by simp [intOf]; omega⟩
        · go_wp2_with (with_reducible refine wpl_o22load (.tmp 24) rfl rfl rfl HLD.out ?_)
          obtain ⟨V, hV⟩ : ∃ V, V = wr.alloc (.cells #[.int .i64 k, .int .i64 n] 32) := ⟨_, rfl⟩
          have PV := Lib.hid (PV0.out (.cells #[.int .i64 k, .int .i64 n] 32))
          rw [← hV] at PV ⊢
          rw [show wr.alloc (.cells [Value.int .i64 k, .int .i64 n].toArray 32) = V from hV.symm] at CV0
          obtain ⟨q, hq⟩ : ∃ q, q = wr.heap.size := ⟨_, rfl⟩
          rw [← hq] at CV0 ⊢
          obtain ⟨kb, hkb⟩ : ∃ kb, kb = bits .and .i64 k 1 := ⟨_, rfl⟩
          (try rw [← hkb])
          clear NG0 PV0 HLD hV hq hk hkb
          have c0 : V.cell? ⟨q, 0, none⟩ = some (.int .i64 k) := CV0.out.cell 0
          have c1 : V.cell? ⟨q, 1, none⟩ = some (.int .i64 n) := CV0.out.cell 1
          have KO := Lib.hid (openT g S n V PV.out.t)
          clear CV0
          go_loopw [8] (fun i wx => ∃ l : Nat, 1 ≤ l ∧ l ≤ 7 ∧ i = .int .i64 l ∧ Hid (wx = V) ∧ Hid (l ≤ fstS S + 1)) (fun i _ => 7 - (intOf i).toNat)
          case atStart => exact ⟨1, by omega, by omega, rfl, Lib.hid rfl, Lib.hid (by omega)⟩
          case round =>
            obtain ⟨l, hl1, hl7, rfl, hw, hf⟩ := hrel
            rw [hw.out]
            by_cases hl6 : l < 7
            · obtain ⟨b, hb⟩ : ∃ b, b = (slotOf S (l : Int)).1 := ⟨_, rfl⟩
              have c2 := (PV.out.l.cell l).trans (ucells_at PV.out.t.six (by omega : l < 8))
              rw [← hb] at c2
              obtain ⟨s, hs⟩ : ∃ s, S[l - 1]? = some s := ⟨_, List.getElem?_eq_getElem (by have := PV.out.t.six; omega)⟩
              have hb2 : b = s.1 := by
                rw [hb]
                have := slotOf_in (S := S) (k := l - 1) (by omega)
                rw [show ((l - 1 : Nat) : Int) + 1 = (l : Int) by omega, List.getD_eq_getElem?_getD, hs, Option.getD_some] at this
                rw [this]
              cases b with
              | true =>
                have hnx := Lib.hid (fst_open (by have := hf.out; omega) hs hb2.symm)
                clear hb hb2 hs
                go_wp2_with fail
                exact ⟨⟨l + 1, by omega, by omega, by go_num, Lib.hid (by trivial), Lib.hid (by have := hnx.out; omega)⟩, by simp [intOf]; omega⟩
              | false =>
                have hfs := fst_shut (by have := hf.out; omega) hs hb2.symm
                have hox : openX S = (l : Int) := by unfold openX; rw [if_pos (by omega)]; omega
                have hoe : openE S = 0 := by unfold openE; rw [if_pos (by omega)]
                rw [hox, hoe] at KO
                have HFS := Lib.hid hfs
                clear hb hb2 hs hox hoe hfs
                have dx : ((l : Int) != (l : Int)) = false := by simp
                have NU : Hid (∀ w3, V.grownBy w3 (some g) → Blk w3 u 46 (ucells S)) := Lib.hid (fun w3 G => PV.out.l.grown G (by simp only [ne_eq, Option.some.injEq]; exact fun e => PV.out.ne e.symm))
                have hul : l < (ucells S).length := by unfold ucells; rw [List.length_map]; unfold useL; rw [List.length_cons, List.length_append, List.length_map, PV.out.t.six]; simp; omega
                have PU : Hid (∀ w3 w5, V.grownBy w3 (some g) → HT w3 g (S.set (fstS S) (true, n)) → Blk w5 u 46 ((ucells S).set l (.bool true)) → w3.grownBy w5 (some u) → HList w w5 g u (S.set (fstS S) (true, n))) := Lib.hid (fun w3 w5 G3 T3 B5 G5 =>
                  ⟨T3.grown G5 (by simp only [ne_eq, Option.some.injEq]; exact PV.out.ne), by
                    have := B5
                    unfold ucells at this ⊢
                    rw [HFS.out, ← useL_open PV.out.t.six (by omega) n, List.map_set, show l - 1 + 1 = l by omega]
                    exact this, PV.out.gw, PV.out.uw, PV.out.ne, (PV.out.b.grown G3 PV.out.b.size (fun k e => by cases e; exact PV.out.gw)).grown G5 (Nat.le_trans PV.out.b.size G3.size) (fun k e => by cases e; exact PV.out.uw)⟩)
                go_wp2_with (first | ((with_reducible refine KO.out.mono ?_); rintro e w3 ⟨rfl, T3, G3⟩; have HB3 := NU.out _ G3) | ((with_reducible refine wpl_blk_bool true boolOne (.tmp 79) (.const (.bool true)) rfl rfl HB3 l hul rfl rfl _ rfl ?_); intro w5 B5 G5 e5))
                exact ⟨⟨j + 1, by omega, by go_num, _, Lib.hid (PU.out _ _ G3 T3 B5 G5)⟩, by simp [intOf]; omega⟩
            · obtain rfl : l = 7 := by omega
              have hfs : fstS S = 6 := by have := fst_le S; have := PV.out.t.six; have := hf.out; omega
              have hox : openX S = 0 := by unfold openX; rw [if_neg (by omega)]
              have hoe : openE S = 67 := by unfold openE; rw [if_neg (by omega)]
              rw [hox, hoe, hfs, List.set_eq_of_length_le (by have := PV.out.t.six; omega)] at KO
              clear hfs hox hoe
              go_wp2_with (first | ((with_reducible refine KO.out.mono ?_); rintro e w3 ⟨rfl, T3, G3⟩))
              exact ⟨⟨j + 1, by omega, by go_num, S, Lib.hid ⟨T3, PV.out.l.grown G3 (by simp only [ne_eq, Option.some.injEq]; exact fun e => PV.out.ne e.symm), PV.out.gw, PV.out.uw, PV.out.ne, PV.out.b.grown G3 PV.out.b.size (fun k e => by cases e; exact PV.out.gw)⟩⟩, by simp [intOf]; omega⟩
      · obtain rfl : j = os.length := by omega
        go_wp2_with fail
        go_ret
        exact ⟨rfl, hP.out.b⟩
end Go.Proofs.Ythiembokmhbiaaa

