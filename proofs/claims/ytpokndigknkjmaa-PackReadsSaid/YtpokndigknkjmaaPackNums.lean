/- The walk of PackNums: it answers true, and changes nothing that was there. No condition. -/
import Derived.Test.YtpokndigknkjmaaPackReader
import Derived.Test.YtpokndigknkjmaaPackSpeaks
import Derived.Test.YtpokndigknkjmaaOpen
import Derived.Deep.RegionWith
namespace Go.Proofs.Ytpokndigknkjmaa
open Go.RowKit

theorem mask_k (x K : Nat) (hx : x < 18446744073709551616) (hK : K < 8) : bits .and .u64 (x : Int) (IntKind.u64.wrap (IntKind.u64.wrap (2 ^ (8 * K)) - 1)) = ((x % 256 ^ K : Nat) : Int) := by
  have h1 : ∀ K, K < 8 → IntKind.u64.wrap (IntKind.u64.wrap (2 ^ (8 * K)) - 1) = ((2 ^ (8 * K) - 1 : Nat) : Int) := by decide
  have h2 : 2 ^ (8 * K) ≤ 2 ^ 56 := Nat.pow_le_pow_right (by omega) (by omega)
  rw [h1 K hK, u64_and_nat x (2 ^ (8 * K) - 1) (by omega) (by omega), Nat.and_two_pow_sub_one_eq_mod, pow256]
/-- a number is read back -/
theorem rnum_back (g h : Nat) (s : Int) (K x : Nat) (hK : K = wid s) (r : List UInt8) (w : World) (hr : Rd w g h (numB K x ++ r) false) :
    Calls Try.prog 14 #[.pointer (some ⟨g, 0, none⟩), .int .i64 s] w fun e w' => e = .returned (.int .u64 ((x % 256 ^ K : Nat) : Int)) ∧ Rd w' g h r false ∧ w.grownBy w' (some g) := by
  subst hK
  have hl : (numB (wid s) x).length = wid s := numB_length _ _
  have h := rnum_yes g h _ false s w hr (by rw [List.length_append, hl]; omega)
  rw [List.take_append_of_le_length (by rw [hl]; exact Nat.le_refl _), List.take_of_length_le (by rw [hl]; exact Nat.le_refl _), List.drop_append_of_le_length (by rw [hl]; exact Nat.le_refl _), List.drop_of_length_le (by rw [hl]; exact Nat.le_refl _), List.nil_append, le_numB] at h
  exact h
theorem Below.only {B : Nat} {a b c : World} {g : Nat} (h : Below B a b) (hg : b.grownBy c (some g)) (hb : B ≤ b.heap.size) (hB : B ≤ g) : Below B a c :=
  h.grown hg hb fun k hk => by cases hk; exact hB

set_option maxHeartbeats 1600000 in
theorem nums_main (s : Int) (A : Option Addr) (zs : List Nat) (c : Nat) (w : World) (hr : Row w w.heap.size A (uv zs)) (hz : zs.length ≤ 1000) (hz64 : ∀ n ∈ zs, n < 18446744073709551616) :
    Calls Try.prog 4 #[.int .i64 s, .slice A zs.length c] w fun e w' => e = .returned (.bool true) ∧ Below w.heap.size w w' := by
  obtain ⟨K, hK⟩ : ∃ K, K = wid s := ⟨_, rfl⟩
  have hK8 : K ≤ 8 := by rw [hK]; exact wid_le s
  have HK := Lib.hid hK
  have HZ := Lib.hid hz64
  clear hK hz64
  have d1 : decide ((1000 : Int) < (zs.length : Int)) = false := by simp; omega
  go_enter Try.func4, Try.ntmps4
  go_wp2_with fail
  refine (speaks_any _).mono ?_
  rintro e w1 ⟨rfl, hb1⟩
  go_wp2
  clear d1
  have hb2 := hb1.alloc hb1.size (.cells #[] 5)
  have O2 := Own.made (e := 5) (base := w.heap.size) #[] 0 hb1.size (by simp) rfl w1.heap.size rfl
  go_loopw [5, 22] (fun u i wr => ∃ k : Nat, k ≤ zs.length ∧ i = .int .i64 k ∧ ∃ A' n c', u = .slice A' n c' ∧ n = ((zs.take k).flatMap (numB K)).length ∧ Own 5 wr w.heap.size (.slice A' n c') ((zs.take k).flatMap (numB K)) ∧ Below w.heap.size w wr) (fun _ i _ => zs.length - (intOf i).toNat)
  case atStart => exact ⟨0, Nat.zero_le _, rfl, _, _, _, rfl, rfl, O2, hb2⟩
  case round =>
    rename_i wr
    obtain ⟨k, hk, rfl, A', n, c', rfl, hn, hO, hbr⟩ := hrel
    clear O2 hb1 hb2
    have HN := Lib.hid hn
    clear hn
    by_cases hlt : k < zs.length
    · obtain ⟨a, rfl, hab, hcell⟩ := hr.at_ (k := k) (by rw [uv_length]; exact hlt)
      have hb : (uv zs)[k]? = some (.int .u64 (zs[k] : Int)) := uv_get hlt
      rw [List.getElem?_eq_getElem (by rw [uv_length]; exact hlt)] at hb
      rw [Option.some.inj hb] at hcell
      clear hb
      have hc2 := (hbr.cell (p := a.add k) (by rw [add_block]; exact hab)).trans hcell
      obtain ⟨x, hx⟩ : ∃ x, x = zs[k] := ⟨_, rfl⟩
      have HX64 : Hid (x < 18446744073709551616) := by rw [hx]; exact HZ.out _ (List.getElem_mem hlt)
      rw [← hx] at hc2
      have HX : Hid (zs[k]? = some x) := by rw [hx]; exact List.getElem?_eq_getElem hlt
      clear hcell hx
      go_wp2_with fail
      ((with_reducible refine (num_any s x _).mono ?_); rintro e w2 ⟨A2, c2, rfl, O2, hb2⟩)
      rw [← HK.out] at O2 ⊢
      have hz2 := hb2.size
      have D2 := O2.bytes (by rw [numB_length]; simp [maxLen]; omega)
      have hbr2 := hbr.trans (hb2.mono hbr.size)
      have S2 := str_of D2
      have S2d : (convert 24 9 (.slice A2 K c2)).run Try.prog w2.drew = .ok (.string ⟨(numB K x).toArray⟩) w2.drew := str_of (w := w2.drew) D2
      have HD2 := Lib.hid D2
      clear D2 O2
      go_wp2_with fail
      go_region_with (first
        | (go_at_call 10; refine (refnum_any s x HX64.out _).mono ?_; rintro e w3 ⟨A3, c3, rfl, O3, hb3⟩; rw [← HK.out] at O3 ⊢; have D3 := O3.bytes (by rw [numB_length]; simp [maxLen]; omega); have S3 := str_of D3; have S2' := str_of (Bytes.below (w := w2.drew) HD2.out hb3)))
      all_goals
        have hb3' : Below w2.heap.size w2 w3 := ⟨hb3.os, hb3.tape, hb3.output, hb3.size, hb3.block⟩
        have hbr3 := hbr2.trans (hb3'.mono hbr2.size)
        have hO3 := hO.below (hb2.trans (hb3'.mono hz2))
        have D4 := Lib.hid (HD2.out.below hb3')
        have hz3 := hbr3.size
        have hlen : ((zs.take k).flatMap (numB K)).length ≤ 8000 := by
          rw [flat_numB, List.length_take]
          have : K * min k zs.length ≤ 8 * 1000 := Nat.mul_le_mul hK8 (by omega)
          omega
        have H1 : Hid (((zs.take k).flatMap (numB K)).length + (numB K x).length ≤ 1000000) := Lib.hid (by rw [numB_length]; omega)
        have H2 : Hid (((zs.take k).flatMap (numB K)).length + (numB K x).length = n + K) := Lib.hid (by rw [numB_length, ← HN.out])
        clear S2 S2d S2' S3 O3 D3 hlen hO hb3 hb3' hbr hbr2 hb2
        go_wp2_with (at_builtin; refine wpl_append_bytes byteTys rfl (.tmp 36) (.tmp 37) rfl rfl hO3 _ _ _ rfl D4.out H1.out hz3 (n + K) H2.out ?_; intro A7 c7 w7 O7 g7 h7)
        go_roundw
        case rel =>
          have e : (zs.take (k + 1)).flatMap (numB K) = (zs.take k).flatMap (numB K) ++ numB K x := by rw [take_snoc zs HX.out, List.flatMap_append]; simp
          exact ⟨k + 1, by omega, by go_num, A7, n + K, c7, rfl, by rw [e, List.length_append, H2.out], by rw [e]; exact O7, hbr3.trans g7⟩
        case measure => simp [intOf]; omega
    · obtain rfl : k = zs.length := by omega
      rw [List.take_length] at hO HN
      have hlen : (zs.flatMap (numB K)).length ≤ 8000 := by
        rw [flat_numB]
        have : K * zs.length ≤ 8 * 1000 := Nat.mul_le_mul hK8 (by omega)
        omega
      have hrw : Row wr w.heap.size A (uv zs) := hr.below hbr
      have HR := Lib.hid hrw
      have DW := Lib.hid (hO.bytes (by simp only [maxLen]; omega))
      have HLEN := Lib.hid hlen
      clear hlen hrw hO
      go_wp2_with fail
      ((with_reducible refine (nums_any s A zs c _ w.heap.size hbr.size HR.out (by omega)).mono ?_); rintro e w2 ⟨A2, n2, c2, rfl, hn2, O2, hb2⟩)
      rw [← HK.out] at hn2 O2
      rw [← HN.out] at hn2
      subst hn2
      have DW2 := Lib.hid (DW.out.below hb2)
      have D2 := Lib.hid (O2.bytes (by have := HLEN.out; simp only [maxLen]; omega))
      have hbr2 := hbr.trans (hb2.mono hbr.size)
      have hzz := hb2.size
      clear O2 hb2 hbr HR DW
      go_wp2_with fail
      ((with_reducible refine (newreader_any _ _ _ D2.out (by have := HLEN.out; omega)).mono ?_); rintro e w3 ⟨g, h, rfl, hrd, hg, hh, hh2, hb3⟩)
      have S1 := str_of (D2.out.below hb3)
      have S2 := str_of (DW2.out.keep fun p hp => hb3.cell (Nat.lt_of_lt_of_le hp hzz))
      have hbr3 := hbr2.trans (hb3.mono hbr2.size)
      have HRD := Lib.hid hrd
      have hgw : w.heap.size ≤ g := Nat.le_trans hbr2.size hg
      clear hrd hb3 hbr2 D2 DW2
      go_wp2
      clear S1 S2
      go_loopw [56] (fun i wl => ∃ k : Nat, k ≤ zs.length ∧ i = .int .i64 k ∧ Hid (Rd wl g h ((zs.drop k).flatMap (numB K)) false) ∧ Below w.heap.size w wl) (fun i _ => zs.length - (intOf i).toNat)
      case atStart => exact ⟨0, Nat.zero_le _, rfl, HRD, hbr3⟩
      case round =>
        rename_i wl
        obtain ⟨k, hk, rfl, HL, hbl⟩ := hrel
        clear hbr3
        by_cases hlt2 : k < zs.length
        · obtain ⟨a, rfl, hab, hcell⟩ := hr.at_ (k := k) (by rw [uv_length]; exact hlt2)
          have hb : (uv zs)[k]? = some (.int .u64 (zs[k] : Int)) := uv_get hlt2
          rw [List.getElem?_eq_getElem (by rw [uv_length]; exact hlt2)] at hb
          rw [Option.some.inj hb] at hcell
          clear hb
          have hc2 := (hbl.cell (p := a.add k) (by rw [add_block]; exact hab)).trans hcell
          obtain ⟨x, hx⟩ : ∃ x, x = zs[k] := ⟨_, rfl⟩
          have hx64 : x < 18446744073709551616 := by rw [hx]; exact HZ.out _ (List.getElem_mem hlt2)
          have hdrop : (zs.drop k).flatMap (numB K) = numB K x ++ (zs.drop (k + 1)).flatMap (numB K) := by
            rw [List.drop_eq_getElem_cons hlt2, List.flatMap_cons, ← hx]
          rw [← hx] at hc2
          have HX64 := Lib.hid hx64
          have HDR := Lib.hid hdrop
          clear hcell hx hx64 hdrop
          go_wp2_with fail
          ((with_reducible refine (size_any s _).mono ?_); rintro e w' ⟨rfl, hw⟩; rw [← hw]; clear hw w')
          rw [← HK.out]
          by_cases hK : K < 8
          · have HM := Lib.hid (mask_k x K HX64.out hK)
            go_wp2_with fail
            rw [HM.out]
            rw [HDR.out] at HL
            ((with_reducible refine (rnum_back g h s K x HK.out _ _ HL.out).mono ?_); rintro e w5 ⟨rfl, hrd5, hg5⟩)
            have HL5 := Lib.hid hrd5
            have hbl5 := Below.only hbl hg5 hbl.size hgw
            clear hrd5 hg5 HL hbl
            go_wp2
            go_roundw
            case rel => exact ⟨k + 1, by omega, by go_num, HL5, hbl5⟩
            case measure => simp [intOf]; omega
          · obtain rfl : K = 8 := by omega
            have hx8 : x % 256 ^ 8 = x := Nat.mod_eq_of_lt (by have := HX64.out; omega)
            have HM := Lib.hid hx8
            clear hx8
            go_wp2_with fail
            rw [HDR.out] at HL
            have R := rnum_back g h s 8 x HK.out _ _ HL.out
            rw [HM.out] at R
            ((with_reducible refine R.mono ?_); rintro e w5 ⟨rfl, hrd5, hg5⟩)
            have HL5 := Lib.hid hrd5
            have hbl5 := Below.only hbl hg5 hbl.size hgw
            clear hrd5 hg5 HL hbl R
            go_wp2
            go_roundw
            case rel => exact ⟨k + 1, by omega, by go_num, HL5, hbl5⟩
            case measure => simp [intOf]; omega
        · obtain rfl : k = zs.length := by omega
          rw [List.drop_length] at HL
          go_wp2_with fail
          ((with_reducible refine (left_any g h _ _ _ HL.out).mono ?_); rintro e w' ⟨rfl, hw⟩; rw [← hw]; clear hw w')
          go_wp2_with fail
          ((with_reducible refine (bad_any g h _ _ _ HL.out).mono ?_); rintro e w' ⟨rfl, hw⟩; rw [← hw]; clear hw w')
          go_wp2
          go_ret
          exact ⟨rfl, hbl⟩

theorem nums_nat {w : World} {B : Nat} {v : Value} (h : ∃ zs, Nums w B .u64 v zs) : ∃ A c, ∃ zs : List Nat, v = .slice A zs.length c ∧ Row w B A (uv zs) ∧ ∀ n ∈ zs, n < 18446744073709551616 := by
  obtain ⟨zs, A, c, rfl, hl, hc, hr, hw⟩ := h
  have hb : ∀ z ∈ zs, 0 ≤ z ∧ z < 18446744073709551616 := fun z hz => by
    have h := hw z hz
    simp only [Lit.wf, Bool.and_eq_true, IntKind.min, IntKind.max, IntKind.signed, IntKind.bits] at h
    simp at h
    omega
  refine ⟨A, c, zs.map Int.toNat, by simp, ?_, ?_⟩
  · have : uv (zs.map Int.toNat) = zs.map (Value.int .u64) := by
      unfold uv
      rw [List.map_map]
      refine List.map_congr_left fun z hz => ?_
      have := hb z hz
      simp only [Function.comp_apply]
      congr 1
      omega
    rw [this]
    exact hr
  · intro n hn
    simp only [List.mem_map] at hn
    obtain ⟨z, hz, rfl⟩ := hn
    have := hb z hz
    omega
set_option maxHeartbeats 1000000 in
theorem packNums_any (s : Int) (v : Value) (w : World) (_ : (Lit.int .i64 s).wf = true) (h : ∃ zs, Nums w w.heap.size .u64 v zs) :
    Calls Try.prog 4 #[.int .i64 s, v] w fun e w' => e = .returned (.bool true) ∧ Below w.heap.size w w' := by
  obtain ⟨A, c, zs, rfl, hr, hz⟩ := nums_nat h
  by_cases hl : zs.length ≤ 1000
  · exact nums_main s A zs c w hr hl hz
  · have d1 : decide ((1000 : Int) < (zs.length : Int)) = true := by simp; omega
    clear hr hz
    go_enter Try.func4, Try.ntmps4
    go_wp2_with fail
    refine (speaks_any _).mono ?_
    rintro e w1 ⟨rfl, hb1⟩
    go_wp2
    go_ret
    exact ⟨rfl, hb1⟩
end Go.Proofs.Ytpokndigknkjmaa
