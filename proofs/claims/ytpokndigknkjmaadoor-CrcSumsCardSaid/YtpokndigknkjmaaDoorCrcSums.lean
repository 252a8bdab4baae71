/- The walk of CrcSums: it answers true, and changes nothing that was there. Condition: the table holds its sixteen numbers. -/
import Derived.Test.YtpokndigknkjmaaDoorCrcParts
namespace Go.Proofs.YtpokndigknkjmaaDoor
open Go.RowKit

theorem ref_zero (v : Value) (l : List UInt8) (w : World) (B : Nat) (hp : Bytes w B v l) :
    Calls Tryd.prog 9 #[.int .u32 0, v] w fun e w' => e = .returned (.int .u32 (CM.on 0 l : Int)) ∧ w = w' := ref_call 0 (by omega) v l w B hp
set_option maxHeartbeats 1600000 in
theorem sums_main (v : Value) (L : List (List UInt8)) (s : Nat) (hs : s < 4294967296) (w : World) (ht : Tab w) (hp : Parts w w.heap.size v L) (hL : L.length ≤ 50) :
    Calls Tryd.prog 3 #[.int .u32 (s : Int), v] w fun e w' => e = .returned (.bool true) ∧ Below w.heap.size w w' := by
  obtain ⟨A, c, vs, hv, hr, he, hlen⟩ := id hp
  have hlt := ht.lt
  subst hv
  have H := Lib.hid ht
  have HP := Lib.hid hp
  have hvl : vs.length ≤ 50 := by rw [he.1]; exact hL
  clear ht hp hlen
  have d1 : decide ((50 : Int) < (vs.length : Int)) = false := by simp; omega
  go_enter Tryd.func3, Tryd.ntmps3
  go_wp2_with fail
  refine (speaks_any _ H.out).mono ?_
  rintro e w1 ⟨rfl, hb1⟩
  go_wp2
  clear d1
  have hb2 := hb1.alloc hb1.size (.cells #[] 5)
  have O2 := Own.made (e := 5) (base := w.heap.size) #[] 0 hb1.size (by simp) rfl w1.heap.size rfl
  go_loopw [5, 16] (fun u i wr => ∃ k : Nat, k ≤ vs.length ∧ i = .int .i64 k ∧ ∃ Au n cu, u = .slice Au n cu ∧ (L.take k).flatten.length = n ∧ n ≤ 22000 ∧ Own 5 wr w.heap.size (.slice Au n cu) (L.take k).flatten ∧ Below w.heap.size w wr) (fun _ i _ => vs.length - (intOf i).toNat)
  case atStart => exact ⟨0, Nat.zero_le _, rfl, _, _, _, rfl, rfl, by simp, O2, hb2⟩
  case round =>
    rename_i wr
    obtain ⟨k, hk, rfl, Au, n, cu, rfl, hn, hn2, hO, hbr⟩ := hrel
    clear O2 hb2 hb1
    by_cases hlt2 : k < vs.length
    · obtain ⟨a, rfl, hab, hcell⟩ := hr.at_ hlt2
      obtain ⟨l, hl, Ai, ci, hv, hlc, hcm, hrow⟩ := he.at_ hlt2
      have hby : Bytes wr w.heap.size (.slice Ai l.length ci) l := Bytes.below ⟨Ai, ci, rfl, hlc, hcm, hrow⟩ hbr
      have hc2 := (hbr.cell (p := a.add k) (by rw [add_block]; exact hab)).trans hcell
      rw [hv] at hc2
      have HV := Lib.hid hv
      have HL := Lib.hid hl
      have HN := Lib.hid hn
      have HY := Lib.hid hby
      have hz := hbr.size
      clear hv hl hcell hby hrow hn
      unfold maxLen at hcm
      by_cases h1 : 2000 < l.length
      · have d1 : decide ((2000 : Int) < (l.length : Int)) = true := by simp; omega
        go_wp2
        go_ret
        exact ⟨rfl, hbr⟩
      · have d1 : decide ((2000 : Int) < (l.length : Int)) = false := by simp; omega
        by_cases h2 : 20000 < n
        · have d2 : decide ((20000 : Int) < (n : Int)) = true := by simp; omega
          go_wp2
          go_ret
          exact ⟨rfl, hbr⟩
        · have d2 : decide ((20000 : Int) < (n : Int)) = false := by simp; omega
          have hr1 : (L.take k).flatten.length + l.length ≤ 1000000 := by rw [HN.out]; omega
          have hr2 : (L.take k).flatten.length + l.length = n + l.length := by rw [HN.out]
          have HR1 := Lib.hid hr1
          have HR2 := Lib.hid hr2
          clear hr1 hr2
          go_wp2_with (at_builtin; refine wpl_append_bytes byteTys rfl (.tmp 28) (.tmp 29) rfl rfl hO _ _ _ rfl HY.out HR1.out hz (n + l.length) HR2.out ?_; intro A7 c7 w7 O7 g7 h7)
          go_roundw
          case rel =>
            refine ⟨k + 1, by omega, by go_num, A7, n + l.length, c7, rfl, ?_, by omega, ?_, hbr.trans g7⟩
            · rw [take_snoc L HL.out, List.flatten_append, List.length_append, HN.out]; simp
            · rw [take_snoc L HL.out, List.flatten_append]; simpa using O7
          case measure => simp [intOf]; omega
    · obtain rfl : k = vs.length := by omega
      rw [he.1, List.take_length] at hn hO
      have D := Lib.hid (hO.bytes (by rw [hn]; simp [maxLen]; omega))
      have TT := Lib.hid (H.out.below hbr hlt)
      have PP : Hid (Joined wr w.heap.size (.slice A vs.length c) L.flatten) := Lib.hid ⟨L, HP.out.below hbr, rfl⟩
      clear hn hO
      go_wp2_with fail
      ((with_reducible refine (sum_call _ _ _ _ TT.out PP.out).mono ?_); rintro e w' ⟨rfl, rfl⟩)
      go_wp2_with fail
      ((with_reducible refine (ref_zero _ _ _ _ D.out).mono ?_); rintro e w' ⟨rfl, rfl⟩)
      go_wp2_with fail
      ((with_reducible refine (on_call s hs _ _ _ _ TT.out PP.out).mono ?_); rintro e w' ⟨rfl, rfl⟩)
      go_wp2_with fail
      ((with_reducible refine (ref_call s hs _ _ _ _ D.out).mono ?_); rintro e w' ⟨rfl, rfl⟩)
      go_wp2_with fail
      ((with_reducible refine (on_call s hs _ [] _ 0 TT.out (Joined.nil 0)).mono ?_); rintro e w' ⟨rfl, rfl⟩)
      rw [CM.on_nil]
      go_wp2
      go_ret
      exact ⟨rfl, hbr⟩

set_option maxHeartbeats 1000000 in
theorem crcSums_any (s : Int) (v : Value) (w : World) (ht : Tab w) (h0 : (Lit.int .u32 s).wf = true) (h1 : ∃ L, Parts w w.heap.size v L) :
    Calls Tryd.prog 3 #[.int .u32 s, v] w fun e w' => e = .returned (.bool true) ∧ Below w.heap.size w w' := by
  obtain ⟨L, hp⟩ := h1
  by_cases hL : L.length ≤ 50
  · obtain ⟨n, rfl, hn⟩ := u32_of_wf h0
    exact sums_main v L n hn w ht hp hL
  · obtain ⟨A, c, vs, hv, hr, he, hlen⟩ := hp
    subst hv
    have hvl : 50 < vs.length := by rw [he.1]; omega
    have H := Lib.hid ht
    clear ht hr he hlen
    have d1 : decide ((50 : Int) < (vs.length : Int)) = true := by simp; omega
    go_enter Tryd.func3, Tryd.ntmps3
    go_wp2_with fail
    refine (speaks_any _ H.out).mono ?_
    rintro e w1 ⟨rfl, hb1⟩
    go_wp2
    go_ret
    exact ⟨rfl, hb1⟩
end Go.Proofs.YtpokndigknkjmaaDoor
