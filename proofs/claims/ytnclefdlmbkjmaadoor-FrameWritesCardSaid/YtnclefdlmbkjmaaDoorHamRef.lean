/- The contract of the reference's Check: the check bits; nothing that was there is changed. No condition but the array's length. -/
import Derived.Test.YtnclefdlmbkjmaaDoorHamFix
namespace Go.Proofs.YtnclefdlmbkjmaaDoor
open Go.RowKit

/-- twelve numbers as an array's cells -/
def ca (f : Nat → Nat) : Array Value := (((List.range 12).map fun j => Value.int .i64 ((f j : Nat) : Int))).toArray
def Sm (w : World) (g : Nat) (f : Nat → Nat) : Prop := w.heap[g]? = some (.cells (ca f) 69 (0, 0))
theorem ca_get (f : Nat → Nat) {j : Nat} (h : j < 12) : (ca f)[j]? = some (.int .i64 ((f j : Nat) : Int)) := by simp [ca, h]
theorem ca_set (f : Nat → Nat) (j v : Nat) : (ca f).setIfInBounds j (.int .i64 (v : Int)) = ca (fun i => if i = j then v else f i) := by
  apply Array.ext_getElem?
  intro i
  rw [Array.getElem?_setIfInBounds]
  by_cases h : i < 12
  · rw [ca_get _ h, ca_get _ h]
    by_cases e : j = i
    · subst e
      simp [ca, h]
    · have e' : ¬ i = j := fun x => e x.symm
      simp [e, e']
  · have h1 : (ca f)[i]? = none := by simp [ca]; omega
    have h2 : (ca fun i => if i = j then v else f i)[i]? = none := by simp [ca]; omega
    rw [h1, h2]
    by_cases e : j = i
    · subst e
      have : ¬ j < (ca f).size := by simp [ca]; omega
      rw [if_pos rfl, if_neg this]
    · rw [if_neg e]
theorem ca_congr {f f' : Nat → Nat} (h : ∀ j, j < 12 → f j = f' j) : ca f = ca f' := by
  unfold ca
  congr 1
  apply List.map_congr_left
  intro j hj
  rw [h j (by simpa using hj)]
section
variable {w w' : World} {g B : Nat} {f f' : Nat → Nat}
theorem Sm.lt (h : Sm w g f) : g < w.heap.size := by
  rcases Nat.lt_or_ge g w.heap.size with h' | h'
  · exact h'
  · have h := h
    unfold Sm at h
    rw [Array.getElem?_eq_none h'] at h
    cases h
theorem Sm.below (h : Sm w g f) (hb : Below B w w') (hg : g < B) : Sm w' g f := (hb.block g hg).trans h
theorem Sm.after (h : Sm w g f) (hb : Below w.heap.size w w') : Sm w' g f := h.below hb h.lt
theorem Sm.cell (h : Sm w g f) {j : Nat} (hj : j < 12) : w.cell? ⟨g, j, none⟩ = some (.int .i64 ((f j : Nat) : Int)) := by
  have h' : w.heap[g]? = some (.cells (ca f) 69 (0, 0)) := h
  rw [cell_of_row w g j _ _ _ h', ca_get f hj]
theorem Sm.free (h : Sm w g f) (j : Nat) : w.frozen? ⟨g, j, none⟩ = false := frozen_of_row w g j _ _ h
theorem Sm.congr (h : Sm w g f) (hf : ∀ i, i < 12 → f i = f' i) : Sm w g f' := by
  unfold Sm
  rw [← ca_congr hf]
  exact h
theorem Sm.set (h : Sm w g f) (j v : Nat) (hf : ∀ i, i < 12 → f' i = if i = j then v else f i) : Sm (w.setCell ⟨g, j, none⟩ (.int .i64 (v : Int))) g f' := by
  unfold Sm
  rw [heap_setCell_same w g j _ _ _ h, ca_set, ca_congr hf]
end
/-- the place ahead of the bit k -/
def atP (k : Nat) : Nat := if k = 0 then 2 else HM.pl (k - 1)
theorem at_step {k : Nat} (hk : k < 2048) : HM.pw (HM.pl k) = false ∧ (atP k + 1 = HM.pl k ∨ atP k + 2 = HM.pl k ∧ HM.pw (atP k + 1) = true) := by
  have h2 := (HM.pl_next ⟨k, hk⟩).2.1
  refine ⟨h2, ?_⟩
  unfold atP
  by_cases h0 : k = 0
  · subst h0
    left
    rw [if_pos rfl, HM.pl_first]
  · rw [if_neg h0]
    have h1 := (HM.pl_next ⟨k - 1, by omega⟩).1
    simp only at h1
    rw [show k - 1 + 1 = k by omega] at h1
    by_cases hp : HM.pw (HM.pl (k - 1) + 1) = true
    · rw [if_pos hp] at h1
      exact .inr ⟨h1.symm, hp⟩
    · rw [if_neg hp] at h1
      exact .inl h1.symm
theorem atP_le {k : Nat} (hk : k ≤ 2048) : atP k ≤ 2060 := by
  unfold atP
  split
  · omega
  · exact (HM.pl_facts ⟨k - 1, by omega⟩).1.2.2
theorem ca_zero : ca (fun _ => 0) = #[.int .i64 0, .int .i64 0, .int .i64 0, .int .i64 0, .int .i64 0, .int .i64 0, .int .i64 0, .int .i64 0, .int .i64 0, .int .i64 0, .int .i64 0, .int .i64 0] := by rfl

set_option maxRecDepth 100000 in
set_option maxHeartbeats 4000000 in
theorem refCheck_any (L : List UInt8) (hL : L.length = 256) (w : World) : Calls Tryd.prog 21 #[.agg (cl L)] w fun e w' => e = .returned (.int .i64 ((HM.ck L : Nat) : Int)) ∧ Below w.heap.size w w' := by
  have hb0 : Below w.heap.size w ((w.alloc (.cells (cl L) 45)).alloc (.cells (ca fun _ => 0) 69)) := ((Below.refl w.heap.size w).alloc (Nat.le_refl _) _).alloc (by simp) _
  have A0 : Arr ((w.alloc (.cells (cl L) 45)).alloc (.cells (ca fun _ => 0) 69)) w.heap.size L := (Arr.new w hL).alloc _
  have S0 : Sm ((w.alloc (.cells (cl L) 45)).alloc (.cells (ca fun _ => 0) 69)) (w.heap.size + 1) (fun j => HM.cnt L j 0) := heap_alloc2_new w _ _
  rw [ca_zero] at hb0 A0 S0
  have HB0 := Lib.hid hb0
  have HA0 := Lib.hid A0
  have HS0 := Lib.hid S0
  clear hb0 A0 S0
  go_enter Tryd.func21, Tryd.ntmps21
  go_wp2_with fail
  go_loopw [4, 5, 6] (fun n a i wr => ∃ k : Nat, k ≤ 2048 ∧ i = .int .i64 k ∧ n = .int .i64 ((HM.N L k : Nat) : Int) ∧ a = .int .i64 ((atP k : Nat) : Int) ∧ Arr wr w.heap.size L ∧ Sm wr (w.heap.size + 1) (fun j => HM.cnt L j k) ∧ Below w.heap.size w wr) (fun _ _ i _ => 2048 - (intOf i).toNat)
  case atStart => exact ⟨0, by omega, rfl, rfl, rfl, HA0.out, HS0.out, HB0.out⟩
  case round =>
    rename_i wr
    obtain ⟨k, hk, rfl, rfl, rfl, hA, hS, hB⟩ := hrel
    clear HA0 HS0 HB0
    have HA := Lib.hid hA
    have HS := Lib.hid hS
    have HB := Lib.hid hB
    clear hA hS hB
    obtain ⟨M, hM⟩ : ∃ M, M = HM.N L k := ⟨_, rfl⟩
    have hM2 : M ≤ 2048 := by have := HM.N_le L k; omega
    obtain ⟨a, ha⟩ : ∃ a, a = atP k := ⟨_, rfl⟩
    have ha2 : a ≤ 2060 := ha ▸ atP_le hk
    rw [← hM, ← ha]
    have HMM := Lib.hid hM
    have Ha := Lib.hid ha
    clear hM ha
    by_cases hlt : k < 2048
    · have st := Lib.hid (at_step hlt)
      obtain ⟨p, hp⟩ : ∃ p, p = HM.pl k := ⟨_, rfl⟩
      rw [← hp, ← Ha.out] at st
      have HP := Lib.hid hp
      have hp2 : p ≤ 2060 := hp ▸ (HM.pl_facts ⟨k, hlt⟩).1.2.2
      clear hp
      have d1 : decide ((k : Int) < 2048) = true := by simp; omega
      obtain ⟨W, hW⟩ : ∃ W, W = wr := ⟨_, rfl⟩
      subst hW
      go_wp2_with fail
      go_loop [5] (fun v => ∃ x : Nat, v = .int .i64 x ∧ x ≤ 2060 ∧ (x = p ∨ x + 1 = p ∧ HM.pw x = true)) (fun v => 2061 - (intOf v).toNat)
      case atStart =>
        refine ⟨a + 1, by go_num, ?_, ?_⟩
        · rcases st.out.2 with h | ⟨h, _⟩ <;> omega
        · rcases st.out.2 with h | ⟨h, h'⟩
          · exact .inl h
          · exact .inr ⟨by omega, h'⟩
      case round =>
        obtain ⟨x, rfl, hx, hor⟩ := hrel
        rcases hor with rfl | ⟨h1, h2⟩
        · have c1 := power_any x (by omega) _ rfl
          rw [st.out.1] at c1
          go_wp2_with fail
          ((with_reducible refine (c1 _).mono ?_); rintro e w' ⟨rfl, rfl⟩)
          go_wp2_with (with_reducible refine wpl_load (.tmp 1) rfl rfl HA.out rfl ?_)
          rcases HM.bt_le L k with hbt | hbt
          · have c2 := bit_any L hL k hlt
            rw [hbt] at c2
            have H1 : Hid (HM.N L (k + 1) = M) := Lib.hid (by rw [HMM.out]; show HM.N L k + HM.bt L k = _; rw [hbt]; rfl)
            have H2 : Hid (∀ j, HM.cnt L j (k + 1) = HM.cnt L j k) := Lib.hid (fun j => by show HM.cnt L j k + HM.bt L k * _ = _; rw [hbt, Nat.zero_mul]; rfl)
            clear hbt c1
            ((with_reducible refine (c2 _).mono ?_); rintro e W2 ⟨rfl, hb2⟩)
            have HA2 := Lib.hid (HA.out.after hb2)
            have HS2 := Lib.hid (HS.out.after hb2)
            have HB2 := Lib.hid (HB.out.trans (hb2.mono HB.out.size))
            clear hb2
            go_wp2
            go_roundw
            case rel => exact ⟨k + 1, by omega, by go_num, by rw [H1.out], by rw [HP.out]; simp [atP], HA2.out, by rw [show (fun j => HM.cnt L j (k + 1)) = fun j => HM.cnt L j k from funext H2.out]; exact HS2.out, HB2.out⟩
            case measure => simp [intOf]; omega
          · have c2 := bit_any L hL k hlt
            rw [hbt] at c2
            have H1 : Hid (HM.N L (k + 1) = M + 1) := Lib.hid (by rw [HMM.out]; show HM.N L k + HM.bt L k = _; rw [hbt])
            have H2 : Hid (∀ j, HM.cnt L j (k + 1) = HM.cnt L j k + HM.pl k / 2 ^ j % 2) := Lib.hid (fun j => by show HM.cnt L j k + HM.bt L k * _ = _; rw [hbt, Nat.one_mul])
            clear hbt c1
            ((with_reducible refine (c2 _).mono ?_); rintro e W2 ⟨rfl, hb2⟩)
            have HA2 := Lib.hid (HA.out.after hb2)
            have HS2 := Lib.hid (HS.out.after hb2)
            have HB2 := Lib.hid (HB.out.trans (hb2.mono HB.out.size))
            clear hb2 HA HS HB
            go_wp2_with fail
            go_loopw [7] (fun j w5 => ∃ i : Nat, i ≤ 12 ∧ j = .int .i64 i ∧ Arr w5 w.heap.size L ∧ Sm w5 (w.heap.size + 1) (fun j => if j < i then HM.cnt L j (k + 1) else HM.cnt L j k) ∧ Below w.heap.size w w5) (fun j _ => 12 - (intOf j).toNat)
            case atStart => exact ⟨0, by omega, rfl, HA2.out, by simpa using HS2.out, HB2.out⟩
            case round =>
              obtain ⟨i, hi, rfl, hA5, hS5, hB5⟩ := hrel
              have HA5 := Lib.hid hA5
              have HS5 := Lib.hid hS5
              have HB5 := Lib.hid hB5
              clear hA5 hS5 hB5 HA2 HS2 HB2
              by_cases hi2 : i < 12
              · have hcell := HS5.out.cell hi2
                have hfree := HS5.out.free i
                simp only [Nat.lt_irrefl, if_false] at hcell
                obtain ⟨v, hv⟩ : ∃ v, v = HM.cnt L i k := ⟨_, rfl⟩
                have hv2 : v ≤ 2048 := by have := HM.cnt_le L i k; omega
                rw [← hv] at hcell
                obtain ⟨u, hu⟩ : ∃ u, u = x / 2 ^ i % 2 := ⟨_, rfl⟩
                have hu2 : u < 2 := hu ▸ Nat.mod_lt _ (by omega)
                have hand : bits .and .i64 ((x : Int) / 2 ^ i) 1 = (u : Int) := by rw [and1, hu]; push_cast; rfl
                have H3 : Hid (HM.cnt L i (k + 1) = v + u) := Lib.hid (by rw [H2.out, hv, hu, HP.out])
                clear hv hu
                go_wp2
                go_roundw
                case rel =>
                  refine ⟨i + 1, by omega, by go_num, HA5.out.other _ _ (by simp), ?_, HB5.out.setCell (by simp) _⟩
                  have := HS5.out.set (f' := fun j => if j < i + 1 then HM.cnt L j (k + 1) else HM.cnt L j k) i (v + u) (fun j _ => by
                    by_cases e : j = i
                    · subst e
                      rw [if_pos (by omega), if_pos rfl, H3.out]
                    · rw [if_neg e]
                      by_cases e2 : j < i
                      · rw [if_pos (by omega), if_pos e2]
                      · rw [if_neg (by omega), if_neg e2])
                  rw [show ((v + u : Nat) : Int) = (v : Int) + (u : Int) by omega] at this
                  exact this
                case measure => simp [intOf]; omega
              · obtain rfl : i = 12 := by omega
                go_wp2
                go_roundw
                case rel => exact ⟨k + 1, by omega, by go_num, by rw [H1.out]; go_num, by rw [HP.out]; simp [atP], HA5.out, HS5.out.congr (fun j hj => if_pos hj), HB5.out⟩
                case measure => simp [intOf]; omega
        · have c1 := power_any x (by omega) _ rfl
          rw [h2] at c1
          have H1 := Lib.hid h1
          clear h1 h2
          go_wp2_with fail
          ((with_reducible refine (c1 _).mono ?_); rintro e w' ⟨rfl, rfl⟩)
          go_wp2
          go_round
          case rel => exact ⟨x + 1, by go_num, by have := H1.out; omega, .inl H1.out⟩
          case measure => have := H1.out; simp [intOf]; omega
    · obtain rfl : k = 2048 := by omega
      clear Ha
      obtain ⟨s, hs⟩ : ∃ s, s = HM.S L 2048 := ⟨_, rfl⟩
      have hs4 : s < 4096 := hs ▸ HM.S_lt L _ (by omega)
      have HSS := Lib.hid hs
      have HR : Hid (s % 2 ^ 12 + (M + HM.popT s 12) % 2 * 4096 = HM.ck L) := Lib.hid (by unfold HM.ck; rw [← HMM.out, HM.pop_S, ← hs, Nat.mod_eq_of_lt hs4])
      have hs13 : ∀ j, j ≤ 12 → s % 2 ^ j < 4096 := fun j hj => Nat.lt_of_le_of_lt (Nat.mod_le _ _) hs4
      have HS13 := Lib.hid hs13
      clear hs hs13
      obtain ⟨W, hW⟩ : ∃ W, W = wr := ⟨_, rfl⟩
      subst hW
      go_wp2_with fail
      go_loop [4, 8, 9] (fun n o i => ∃ j : Nat, j ≤ 12 ∧ i = .int .i64 j ∧ o = .int .i64 ((s % 2 ^ j : Nat) : Int) ∧ n = .int .i64 ((M + HM.popT s j : Nat) : Int)) (fun _ _ i => 12 - (intOf i).toNat)
      case atStart => exact ⟨0, by omega, rfl, by simp [Nat.mod_one], rfl⟩
      case round =>
        obtain ⟨j, hj, rfl, rfl, rfl⟩ := hrel
        obtain ⟨o, ho⟩ : ∃ o, o = s % 2 ^ j := ⟨_, rfl⟩
        have ho4 : o < 4096 := ho ▸ HS13.out j hj
        obtain ⟨t, ht⟩ : ∃ t, t = HM.popT s j := ⟨_, rfl⟩
        have ht4 : t ≤ 12 := by have := HM.popT_le s j; omega
        rw [← ho, ← ht]
        by_cases hj2 : j < 12
        · have hcell := HS.out.cell hj2
          obtain ⟨v, hv⟩ : ∃ v, v = HM.cnt L j 2048 := ⟨_, rfl⟩
          have hv2 : v ≤ 2048 := by have := HM.cnt_le L j 2048; omega
          rw [← hv] at hcell
          obtain ⟨b, hb⟩ : ∃ b, b = s / 2 ^ j % 2 := ⟨_, rfl⟩
          have hb2 : b < 2 := hb ▸ Nat.mod_lt _ (by omega)
          have hvb : (v : Int) % 2 = (b : Int) := by
            have := HM.cnt_mod L j 2048
            rw [← hv, ← HSS.out, ← hb] at this
            omega
          have H3 : Hid (s % 2 ^ (j + 1) = o + b * 2 ^ j) := Lib.hid (by rw [Nat.mod_pow_succ, ho, hb, Nat.mul_comm])
          have H4 : Hid (HM.popT s (j + 1) = t + b) := Lib.hid (by rw [ht, hb]; rfl)
          have hp : b * 2 ^ j < 4096 := by have := HS13.out (j + 1) (by omega); rw [H3.out] at this; omega
          have hsh : wrap64 ((b : Int) * 2 ^ j) = ((b * 2 ^ j : Nat) : Int) := by
            have e : ((b * 2 ^ j : Nat) : Int) = (b : Int) * 2 ^ j := by push_cast; rfl
            rw [← e]
            unfold wrap64
            omega
          obtain ⟨e, he⟩ : ∃ e, e = b * 2 ^ j := ⟨_, rfl⟩
          rw [← he] at hp hsh H3
          clear hv hb ho ht he
          go_wp2
          go_round
          case rel => exact ⟨j + 1, by omega, by go_num, by rw [H3.out]; go_num, by rw [H4.out]; go_num⟩
          case measure => simp [intOf]; omega
        · obtain rfl : j = 12 := by omega
          have HO := Lib.hid ho
          have HT := Lib.hid ht
          clear ho ht
          go_wp2
          go_ret
          refine ⟨congrArg Ending.returned (congrArg (Value.int IntKind.i64) ?_), HB.out⟩
          rw [← HR.out, ← HO.out, ← HT.out]
          omega
end Go.Proofs.YtnclefdlmbkjmaaDoor
