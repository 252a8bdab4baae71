/- With and Without: the keys of a list put in, or taken out. No condition. (written by gen_lwith.py) -/
import Derived.Test.YtppodbijdhcclaaQLiveSet
import Derived.Deep.RegionHeld3
namespace Go.Proofs.Ytppodbijdhcclaa
open Go.RowKit
theorem set_self (L : List UInt8) (i : Nat) : L.set i (UInt8.ofNat (L.getD i 0).toNat) = L := by
  rw [UInt8.ofNat_toNat]
  apply List.ext_getElem (by simp)
  intro j h1 h2
  rw [List.getElem_set]
  by_cases e : i = j
  · subst e
    rw [if_pos rfl, List.getD_eq_getElem?_getD, List.getElem?_eq_getElem h2, Option.getD_some]
  · rw [if_neg e]
theorem or_put (L : List UInt8) (k : Nat) : L.set (k / 8) (UInt8.ofNat ((L.getD (k / 8) 0).toNat ||| 2 ^ (k % 8))) = putB L k true := by
  have e : (L.getD (k / 8) 0).toNat ||| 2 ^ (k % 8) = if hasB L k = true then (L.getD (k / 8) 0).toNat else (L.getD (k / 8) 0).toNat ^^^ 2 ^ (k % 8) := or_bit (getD_lt L (k / 8)) (show k % 8 < 8 from Nat.mod_lt _ (by omega))
  unfold putB
  by_cases h : hasB L k = true
  · rw [if_pos h, e, if_pos h, set_self]
  · rw [if_neg h, e, if_neg h]
theorem andNot_put (L : List UInt8) (k : Nat) : L.set (k / 8) (UInt8.ofNat ((L.getD (k / 8) 0).toNat &&& (255 - 2 ^ (k % 8)))) = putB L k false := by
  have e : (L.getD (k / 8) 0).toNat &&& (255 - 2 ^ (k % 8)) = if hasB L k = false then (L.getD (k / 8) 0).toNat else (L.getD (k / 8) 0).toNat ^^^ 2 ^ (k % 8) := andNot_bit (getD_lt L (k / 8)) (show k % 8 < 8 from Nat.mod_lt _ (by omega))
  unfold putB
  by_cases h : hasB L k = false
  · rw [if_pos h, e, if_pos h, set_self]
  · rw [if_neg h, e, if_neg h]
theorem or_ofNat {x p : Nat} (hx : x < 256) (hp : p < 256) : bits .or .u8 (x : Int) (p : Int) = (((UInt8.ofNat (x ||| p)).toNat : Nat) : Int) := by
  have h : x ||| p < 2 ^ 8 := Nat.or_lt_two_pow hx hp
  rw [bits_or8 hx hp, UInt8.toNat_ofNat', Nat.mod_eq_of_lt h]
theorem andNot_ofNat {x p : Nat} (hx : x < 256) (hp : p < 256) : bits .andNot .u8 (x : Int) (p : Int) = (((UInt8.ofNat (x &&& (255 - p))).toNat : Nat) : Int) := by
  have h : x &&& (255 - p) ≤ x := Nat.and_le_left
  rw [bits_andNot8 hx hp, UInt8.toNat_ofNat', Nat.mod_eq_of_lt (by omega)]
theorem take_snocI (zs : List Int) {k : Nat} (h : k < zs.length) : zs.take (k + 1) = zs.take k ++ [zs[k]] := by
  rw [List.take_add_one, List.getElem?_eq_getElem h]
  rfl
theorem lputs_take (L : List UInt8) (b : Bool) (zs : List Int) {k : Nat} (h : k < zs.length) : lputs L b (zs.take (k + 1)) = lput (lputs L b (zs.take k)) b zs[k] := by
  rw [take_snocI zs h, lputs_snoc]
set_option maxRecDepth 100000 in
set_option maxHeartbeats 8000000 in
theorem with_any (L : List UInt8) (hL : L.length = 32) (A : Option Addr) (c : Nat) (zs : List Int) (w : World) (hr : Row w w.heap.size A (zs.map (Value.int .i64))) (hz : zs.length ≤ 1000) :
    Calls Try.prog 64 #[.agg (cl L), .slice A zs.length c] w fun e w' => e = .returned (.agg (cl (lputs L true zs))) ∧ Below w.heap.size w w' := by
  have A0 := larr_one w hL lzeros
  have R0 := larr_two w L lzeros_length
  have B0 := Lib.hid (lhb_two w L lzeros)
  have z0 := zeroLive
  have HR := Lib.hid hr
  have HL := Lib.hid hL
  clear hr hL
  go_enter Try.func64, Try.ntmps64
  go_wp2_with fail
  go_loopw [9] (fun i wr => ∃ k : Nat, k ≤ zs.length ∧ i = .int .i64 k ∧ Hid (LArr wr w.heap.size (lputs L true (zs.take k))) ∧ Hid (LArr wr (w.heap.size + 1) lzeros) ∧ Hid (Below w.heap.size w wr)) (fun i _ => zs.length - (intOf i).toNat)
  case atStart => exact ⟨0, Nat.zero_le _, rfl, A0, R0, B0⟩
  case round =>
    clear A0 R0 B0
    rename_i wr
    obtain ⟨k, hk, rfl, hA, hR, hb⟩ := hrel
    by_cases hlt : k < zs.length
    · obtain ⟨a, rfl, hab, hcz⟩ := HR.out.at_ (k := k) (by simpa using hlt)
      rw [List.getElem_map] at hcz
      have HT := Lib.hid (lputs_take L true zs hlt)
      obtain ⟨z, hzq⟩ : ∃ z, z = zs[k] := ⟨_, rfl⟩
      rw [← hzq] at hcz HT
      have hc2 := (hb.out.cell (p := a.add k) (by rw [add_block]; exact hab)).trans hcz
      clear hzq hcz
      obtain ⟨M, hM⟩ : ∃ M, M = lputs L true (zs.take k) := ⟨_, rfl⟩
      rw [← hM] at HT hA
      clear hM
      by_cases hin : 0 ≤ z ∧ z < 256
      · obtain ⟨q, rfl⟩ : ∃ q : Nat, z = q := ⟨z.toNat, by omega⟩
        have hq : q < 256 := by omega
        have HT2 : Hid (lputs L true (zs.take (k + 1)) = putB M q true) := Lib.hid (by rw [HT.out, lput, if_pos hin, Int.toNat_natCast])
        have hi : (q : Int) / 8 = ((q / 8 : Nat) : Int) := by omega
        have h32 : q / 8 < 32 := by omega
        have hr8 : q % 8 < 8 := Nat.mod_lt _ (by omega)
        have hv := or_ofNat (getD_lt M (q / 8)) (pow8_lt hr8)
        have hp := or_put M q
        have hx := hA.out.byte h32
        have hf := hA.out.free (q / 8)
        have K2 : Hid (∀ w, Calls Try.prog 67 #[.int .i64 (q : Int)] w fun e w' => e = .returned (.int .u8 ((2 ^ (q % 8) : Nat) : Int)) ∧ w = w') := Lib.hid (fun w => weight_any q w hq)
        obtain ⟨p, hP⟩ : ∃ p, p = 2 ^ (q % 8) := ⟨_, rfl⟩
        obtain ⟨x, hX⟩ : ∃ x, x = (M.getD (q / 8) 0).toNat := ⟨_, rfl⟩
        obtain ⟨j, hJ⟩ : ∃ j, j = q / 8 := ⟨_, rfl⟩
        rw [← hP, ← hX] at hv hp
        rw [← hX] at hx
        rw [← hP] at K2
        rw [← hJ] at hi h32 hp hx hf
        obtain ⟨B, hB⟩ : ∃ B, B = UInt8.ofNat (x ||| p) := ⟨_, rfl⟩
        rw [← hB] at hv hp
        rw [← hp] at HT2
        clear hP hX hJ hB hp HT hr8
        have hj0 : (0 : Int) ≤ (j : Int) := by omega
        have hq0 : (0 : Int) ≤ (q : Int) := by omega
        have ht : (q : Int).tdiv 8 = (j : Int) := by rw [Int.tdiv_eq_ediv_of_nonneg hq0, hi]
        have hj1 : (j : Int) < 32 := by omega
        have hw : IntKind.i64.wrap (j : Int) = (j : Int) := by rw [IntKind.wrap_i64]; omega
        have KA : Hid (∀ v, LArr (wr.drew.setCell ⟨w.heap.size, j, none⟩ v) (w.heap.size + 1) lzeros) := Lib.hid (fun v => hR.out.drew.other _ v (by simp))
        have KB : Hid (∀ v, Below w.heap.size w (wr.drew.setCell ⟨w.heap.size, j, none⟩ v)) := Lib.hid (fun v => hb.out.drew.setCell (p := ⟨w.heap.size, j, none⟩) (Nat.le_refl _) v)
        have KM := Lib.hid (hA.out.drew.set j B)
        have hx' : wr.drew.cell? ⟨w.heap.size, j, none⟩ = some (.int .u8 (x : Int)) := hx
        have hf' : wr.drew.frozen? ⟨w.heap.size, j, none⟩ = false := hf
        clear hA hb hR
        go_wp2_with ((with_reducible refine (isKey_yes q hq _).mono ?_); rintro e w' ⟨rfl, rfl⟩)
        obtain ⟨W, hW⟩ : ∃ W, W = wr.drew := ⟨_, rfl⟩
        rw [← hW] at KA KB KM hx' hf'
        clear hx hf
        refine wp_region_held_drew (S := (fun _ => True)) (by kernel_rfl) trivial (fun _ => ?_)
        rw [← hW]
        clear hW hc2
        refine wpAnyH_take (i := 0) (v := .int .i64 q) rfl (by kernel_rfl) (by kernel_rfl) (by kernel_rfl) (fun _ _ _ h => h) (Or.inl ⟨by kernel_rfl, fun w _ => by go_simp⟩) trivial ?_
        refine wpAnyH_take (i := 1) (v := .int .i64 j) rfl (by kernel_rfl) (by kernel_rfl) (by kernel_rfl) (fun _ _ _ h => h) (Or.inl ⟨by kernel_rfl, fun w _ => by go_simp⟩) trivial ?_
        refine wpAnyH_take (i := 2) (v := .pointer (some ⟨w.heap.size, j, none⟩)) rfl (by kernel_rfl) (by kernel_rfl) (by kernel_rfl) (fun _ _ _ h => h) (Or.inl ⟨by kernel_rfl, fun w _ => by go_simp⟩) trivial ?_
        refine wpAnyH_take (i := 4) (v := .int .i64 q) rfl (by kernel_rfl) (by kernel_rfl) (by kernel_rfl) (fun _ _ _ h => h) (Or.inl ⟨by kernel_rfl, fun w _ => by go_simp⟩) trivial ?_
        refine wpAnyH_ready (rs := [3, 5]) (by kernel_rfl) (by simp) (AllReadyH.cons rfl (fun K hK => ?_) (AllReadyH.cons rfl (fun K hK => ?_) AllReadyH.nil))
        · go_simp
          refine hK.out _ _ trivial (fun _ => ?_)
          clear hK K
          refine wpAnyH_ready (rs := [5]) (by kernel_rfl) (by simp) (AllReadyH.cons rfl (fun K hK => ?_) AllReadyH.nil)
          go_simp
          ((with_reducible refine (K2.out _).mono ?_); rintro e w' ⟨rfl, rfl⟩)
          refine hK.out _ _ trivial (fun _ => ?_)
          clear hK K
          refine wpAnyH_take (i := 6) (v := .int .u8 (B.toNat : Int)) rfl (by kernel_rfl) (by kernel_rfl) (by kernel_rfl) (fun _ _ _ h => h) (Or.inl ⟨by kernel_rfl, fun w _ => by go_simp⟩) trivial ?_
          refine wpAnyH_take (i := 7) (v := .pointer (some ⟨w.heap.size, j, none⟩)) rfl (by kernel_rfl) (by kernel_rfl) (by kernel_rfl) (fun _ _ _ h => h) (Or.inl ⟨by kernel_rfl, fun w _ => by go_simp⟩) trivial ?_
          refine wpAnyH_ready (rs := [8]) (by kernel_rfl) (by simp) (AllReadyH.cons rfl (fun K hK => ?_) AllReadyH.nil)
          go_simp
          refine hK.out _ _ trivial (fun _ => ?_)
          clear hK K hx' hf'
          refine wpAnyH_done (by kernel_rfl) ?_ _
          go_simp
          go_wp2
          go_roundw
          case rel => exact ⟨k + 1, by omega, by go_num, Lib.hid (by rw [HT2.out]; exact KM.out), Lib.hid (KA.out _), Lib.hid (KB.out _)⟩
          case measure => simp [intOf]; omega
        · go_simp
          ((with_reducible refine (K2.out _).mono ?_); rintro e w' ⟨rfl, rfl⟩)
          refine hK.out _ _ trivial (fun _ => ?_)
          clear hK K
          refine wpAnyH_ready (rs := [3]) (by kernel_rfl) (by simp) (AllReadyH.cons rfl (fun K hK => ?_) AllReadyH.nil)
          go_simp
          refine hK.out _ _ trivial (fun _ => ?_)
          clear hK K
          refine wpAnyH_take (i := 6) (v := .int .u8 (B.toNat : Int)) rfl (by kernel_rfl) (by kernel_rfl) (by kernel_rfl) (fun _ _ _ h => h) (Or.inl ⟨by kernel_rfl, fun w _ => by go_simp⟩) trivial ?_
          refine wpAnyH_take (i := 7) (v := .pointer (some ⟨w.heap.size, j, none⟩)) rfl (by kernel_rfl) (by kernel_rfl) (by kernel_rfl) (fun _ _ _ h => h) (Or.inl ⟨by kernel_rfl, fun w _ => by go_simp⟩) trivial ?_
          refine wpAnyH_ready (rs := [8]) (by kernel_rfl) (by simp) (AllReadyH.cons rfl (fun K hK => ?_) AllReadyH.nil)
          go_simp
          refine hK.out _ _ trivial (fun _ => ?_)
          clear hK K hx' hf'
          refine wpAnyH_done (by kernel_rfl) ?_ _
          go_simp
          go_wp2
          go_roundw
          case rel => exact ⟨k + 1, by omega, by go_num, Lib.hid (by rw [HT2.out]; exact KM.out), Lib.hid (KA.out _), Lib.hid (KB.out _)⟩
          case measure => simp [intOf]; omega
      · have HT2 : Hid (lputs L true (zs.take (k + 1)) = M) := Lib.hid (by rw [HT.out, lput, if_neg hin])
        clear HT
        go_wp2_with ((with_reducible refine (isKey_no z (by omega) _).mono ?_); rintro e w' ⟨rfl, rfl⟩)
        go_roundw
        case rel => exact ⟨k + 1, by omega, by go_num, Lib.hid (by rw [HT2.out]; exact hA.out), hR, hb⟩
        case measure => simp [intOf]; omega
    · obtain rfl : k = zs.length := by omega
      rw [List.take_length] at hA
      have hl : Hid ((lputs L true zs).length = 32) := Lib.hid (by rw [lputs_length]; exact HL.out)
      go_wp2_with (first | (with_reducible refine wpl_lload (.tmp 2) rfl rfl hA.out rfl ?_) | (with_reducible refine wpl_lstore (.tmp 4) (.tmp 24) rfl rfl hR.out rfl hl.out rfl ?_; intro w4 R4 g4 e4))
      refine bodyPost_ret (lret1 rfl _ R4 rfl) rfl ?_
      exact ⟨rfl, hb.out.grown g4 hb.out.size (fun k e => by cases e; omega)⟩
set_option maxRecDepth 100000 in
set_option maxHeartbeats 8000000 in
theorem without_any (L : List UInt8) (hL : L.length = 32) (A : Option Addr) (c : Nat) (zs : List Int) (w : World) (hr : Row w w.heap.size A (zs.map (Value.int .i64))) (hz : zs.length ≤ 1000) :
    Calls Try.prog 65 #[.agg (cl L), .slice A zs.length c] w fun e w' => e = .returned (.agg (cl (lputs L false zs))) ∧ Below w.heap.size w w' := by
  have A0 := larr_one w hL lzeros
  have R0 := larr_two w L lzeros_length
  have B0 := Lib.hid (lhb_two w L lzeros)
  have z0 := zeroLive
  have HR := Lib.hid hr
  have HL := Lib.hid hL
  clear hr hL
  go_enter Try.func65, Try.ntmps65
  go_wp2_with fail
  go_loopw [9] (fun i wr => ∃ k : Nat, k ≤ zs.length ∧ i = .int .i64 k ∧ Hid (LArr wr w.heap.size (lputs L false (zs.take k))) ∧ Hid (LArr wr (w.heap.size + 1) lzeros) ∧ Hid (Below w.heap.size w wr)) (fun i _ => zs.length - (intOf i).toNat)
  case atStart => exact ⟨0, Nat.zero_le _, rfl, A0, R0, B0⟩
  case round =>
    clear A0 R0 B0
    rename_i wr
    obtain ⟨k, hk, rfl, hA, hR, hb⟩ := hrel
    by_cases hlt : k < zs.length
    · obtain ⟨a, rfl, hab, hcz⟩ := HR.out.at_ (k := k) (by simpa using hlt)
      rw [List.getElem_map] at hcz
      have HT := Lib.hid (lputs_take L false zs hlt)
      obtain ⟨z, hzq⟩ : ∃ z, z = zs[k] := ⟨_, rfl⟩
      rw [← hzq] at hcz HT
      have hc2 := (hb.out.cell (p := a.add k) (by rw [add_block]; exact hab)).trans hcz
      clear hzq hcz
      obtain ⟨M, hM⟩ : ∃ M, M = lputs L false (zs.take k) := ⟨_, rfl⟩
      rw [← hM] at HT hA
      clear hM
      by_cases hin : 0 ≤ z ∧ z < 256
      · obtain ⟨q, rfl⟩ : ∃ q : Nat, z = q := ⟨z.toNat, by omega⟩
        have hq : q < 256 := by omega
        have HT2 : Hid (lputs L false (zs.take (k + 1)) = putB M q false) := Lib.hid (by rw [HT.out, lput, if_pos hin, Int.toNat_natCast])
        have hi : (q : Int) / 8 = ((q / 8 : Nat) : Int) := by omega
        have h32 : q / 8 < 32 := by omega
        have hr8 : q % 8 < 8 := Nat.mod_lt _ (by omega)
        have hv := andNot_ofNat (getD_lt M (q / 8)) (pow8_lt hr8)
        have hp := andNot_put M q
        have hx := hA.out.byte h32
        have hf := hA.out.free (q / 8)
        have K2 : Hid (∀ w, Calls Try.prog 67 #[.int .i64 (q : Int)] w fun e w' => e = .returned (.int .u8 ((2 ^ (q % 8) : Nat) : Int)) ∧ w = w') := Lib.hid (fun w => weight_any q w hq)
        obtain ⟨p, hP⟩ : ∃ p, p = 2 ^ (q % 8) := ⟨_, rfl⟩
        obtain ⟨x, hX⟩ : ∃ x, x = (M.getD (q / 8) 0).toNat := ⟨_, rfl⟩
        obtain ⟨j, hJ⟩ : ∃ j, j = q / 8 := ⟨_, rfl⟩
        rw [← hP, ← hX] at hv hp
        rw [← hX] at hx
        rw [← hP] at K2
        rw [← hJ] at hi h32 hp hx hf
        obtain ⟨B, hB⟩ : ∃ B, B = UInt8.ofNat (x &&& (255 - p)) := ⟨_, rfl⟩
        rw [← hB] at hv hp
        rw [← hp] at HT2
        clear hP hX hJ hB hp HT hr8
        have hj0 : (0 : Int) ≤ (j : Int) := by omega
        have hq0 : (0 : Int) ≤ (q : Int) := by omega
        have ht : (q : Int).tdiv 8 = (j : Int) := by rw [Int.tdiv_eq_ediv_of_nonneg hq0, hi]
        have hj1 : (j : Int) < 32 := by omega
        have hw : IntKind.i64.wrap (j : Int) = (j : Int) := by rw [IntKind.wrap_i64]; omega
        have KA : Hid (∀ v, LArr (wr.drew.setCell ⟨w.heap.size, j, none⟩ v) (w.heap.size + 1) lzeros) := Lib.hid (fun v => hR.out.drew.other _ v (by simp))
        have KB : Hid (∀ v, Below w.heap.size w (wr.drew.setCell ⟨w.heap.size, j, none⟩ v)) := Lib.hid (fun v => hb.out.drew.setCell (p := ⟨w.heap.size, j, none⟩) (Nat.le_refl _) v)
        have KM := Lib.hid (hA.out.drew.set j B)
        have hx' : wr.drew.cell? ⟨w.heap.size, j, none⟩ = some (.int .u8 (x : Int)) := hx
        have hf' : wr.drew.frozen? ⟨w.heap.size, j, none⟩ = false := hf
        clear hA hb hR
        go_wp2_with ((with_reducible refine (isKey_yes q hq _).mono ?_); rintro e w' ⟨rfl, rfl⟩)
        obtain ⟨W, hW⟩ : ∃ W, W = wr.drew := ⟨_, rfl⟩
        rw [← hW] at KA KB KM hx' hf'
        clear hx hf
        refine wp_region_held_drew (S := (fun _ => True)) (by kernel_rfl) trivial (fun _ => ?_)
        rw [← hW]
        clear hW hc2
        refine wpAnyH_take (i := 0) (v := .int .i64 q) rfl (by kernel_rfl) (by kernel_rfl) (by kernel_rfl) (fun _ _ _ h => h) (Or.inl ⟨by kernel_rfl, fun w _ => by go_simp⟩) trivial ?_
        refine wpAnyH_take (i := 1) (v := .int .i64 j) rfl (by kernel_rfl) (by kernel_rfl) (by kernel_rfl) (fun _ _ _ h => h) (Or.inl ⟨by kernel_rfl, fun w _ => by go_simp⟩) trivial ?_
        refine wpAnyH_take (i := 2) (v := .pointer (some ⟨w.heap.size, j, none⟩)) rfl (by kernel_rfl) (by kernel_rfl) (by kernel_rfl) (fun _ _ _ h => h) (Or.inl ⟨by kernel_rfl, fun w _ => by go_simp⟩) trivial ?_
        refine wpAnyH_take (i := 4) (v := .int .i64 q) rfl (by kernel_rfl) (by kernel_rfl) (by kernel_rfl) (fun _ _ _ h => h) (Or.inl ⟨by kernel_rfl, fun w _ => by go_simp⟩) trivial ?_
        refine wpAnyH_ready (rs := [3, 5]) (by kernel_rfl) (by simp) (AllReadyH.cons rfl (fun K hK => ?_) (AllReadyH.cons rfl (fun K hK => ?_) AllReadyH.nil))
        · go_simp
          refine hK.out _ _ trivial (fun _ => ?_)
          clear hK K
          refine wpAnyH_ready (rs := [5]) (by kernel_rfl) (by simp) (AllReadyH.cons rfl (fun K hK => ?_) AllReadyH.nil)
          go_simp
          ((with_reducible refine (K2.out _).mono ?_); rintro e w' ⟨rfl, rfl⟩)
          refine hK.out _ _ trivial (fun _ => ?_)
          clear hK K
          refine wpAnyH_take (i := 6) (v := .int .u8 (B.toNat : Int)) rfl (by kernel_rfl) (by kernel_rfl) (by kernel_rfl) (fun _ _ _ h => h) (Or.inl ⟨by kernel_rfl, fun w _ => by go_simp⟩) trivial ?_
          refine wpAnyH_take (i := 7) (v := .pointer (some ⟨w.heap.size, j, none⟩)) rfl (by kernel_rfl) (by kernel_rfl) (by kernel_rfl) (fun _ _ _ h => h) (Or.inl ⟨by kernel_rfl, fun w _ => by go_simp⟩) trivial ?_
          refine wpAnyH_ready (rs := [8]) (by kernel_rfl) (by simp) (AllReadyH.cons rfl (fun K hK => ?_) AllReadyH.nil)
          go_simp
          refine hK.out _ _ trivial (fun _ => ?_)
          clear hK K hx' hf'
          refine wpAnyH_done (by kernel_rfl) ?_ _
          go_simp
          go_wp2
          go_roundw
          case rel => exact ⟨k + 1, by omega, by go_num, Lib.hid (by rw [HT2.out]; exact KM.out), Lib.hid (KA.out _), Lib.hid (KB.out _)⟩
          case measure => simp [intOf]; omega
        · go_simp
          ((with_reducible refine (K2.out _).mono ?_); rintro e w' ⟨rfl, rfl⟩)
          refine hK.out _ _ trivial (fun _ => ?_)
          clear hK K
          refine wpAnyH_ready (rs := [3]) (by kernel_rfl) (by simp) (AllReadyH.cons rfl (fun K hK => ?_) AllReadyH.nil)
          go_simp
          refine hK.out _ _ trivial (fun _ => ?_)
          clear hK K
          refine wpAnyH_take (i := 6) (v := .int .u8 (B.toNat : Int)) rfl (by kernel_rfl) (by kernel_rfl) (by kernel_rfl) (fun _ _ _ h => h) (Or.inl ⟨by kernel_rfl, fun w _ => by go_simp⟩) trivial ?_
          refine wpAnyH_take (i := 7) (v := .pointer (some ⟨w.heap.size, j, none⟩)) rfl (by kernel_rfl) (by kernel_rfl) (by kernel_rfl) (fun _ _ _ h => h) (Or.inl ⟨by kernel_rfl, fun w _ => by go_simp⟩) trivial ?_
          refine wpAnyH_ready (rs := [8]) (by kernel_rfl) (by simp) (AllReadyH.cons rfl (fun K hK => ?_) AllReadyH.nil)
          go_simp
          refine hK.out _ _ trivial (fun _ => ?_)
          clear hK K hx' hf'
          refine wpAnyH_done (by kernel_rfl) ?_ _
          go_simp
          go_wp2
          go_roundw
          case rel => exact ⟨k + 1, by omega, by go_num, Lib.hid (by rw [HT2.out]; exact KM.out), Lib.hid (KA.out _), Lib.hid (KB.out _)⟩
          case measure => simp [intOf]; omega
      · have HT2 : Hid (lputs L false (zs.take (k + 1)) = M) := Lib.hid (by rw [HT.out, lput, if_neg hin])
        clear HT
        go_wp2_with ((with_reducible refine (isKey_no z (by omega) _).mono ?_); rintro e w' ⟨rfl, rfl⟩)
        go_roundw
        case rel => exact ⟨k + 1, by omega, by go_num, Lib.hid (by rw [HT2.out]; exact hA.out), hR, hb⟩
        case measure => simp [intOf]; omega
    · obtain rfl : k = zs.length := by omega
      rw [List.take_length] at hA
      have hl : Hid ((lputs L false zs).length = 32) := Lib.hid (by rw [lputs_length]; exact HL.out)
      go_wp2_with (first | (with_reducible refine wpl_lload (.tmp 2) rfl rfl hA.out rfl ?_) | (with_reducible refine wpl_lstore (.tmp 4) (.tmp 24) rfl rfl hR.out rfl hl.out rfl ?_; intro w4 R4 g4 e4))
      refine bodyPost_ret (lret1 rfl _ R4 rfl) rfl ?_
      exact ⟨rfl, hb.out.grown g4 hb.out.size (fun k e => by cases e; omega)⟩
end Go.Proofs.Ytppodbijdhcclaa

