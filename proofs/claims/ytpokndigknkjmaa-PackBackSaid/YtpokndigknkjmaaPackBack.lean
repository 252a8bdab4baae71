/- The walk of PackBack: it answers true, and changes nothing that was there. No condition. -/
import Derived.Test.YtpokndigknkjmaaPackNums
namespace Go.Proofs.Ytpokndigknkjmaa
open Go.RowKit

/-- texts with their sizes ahead of them -/
def enc (L : List (List UInt8)) : List UInt8 := L.flatMap fun l => numB 2 l.length ++ l
theorem enc_snoc (L : List (List UInt8)) (k : Nat) (l : List UInt8) (h : L[k]? = some l) : enc (L.take (k + 1)) = enc (L.take k) ++ (numB 2 l.length ++ l) := by
  unfold enc
  rw [take_snoc L h, List.flatMap_append]
  simp
theorem enc_drop (L : List (List UInt8)) (k : Nat) (l : List UInt8) (h : L[k]? = some l) : enc (L.drop k) = numB 2 l.length ++ (l ++ enc (L.drop (k + 1))) := by
  have hk := get_lt h
  unfold enc
  rw [List.drop_eq_getElem_cons hk, List.flatMap_cons]
  rw [List.getElem?_eq_getElem hk] at h
  rw [Option.some.inj h, List.append_assoc]

theorem rbytes_back (g h : Nat) (l r : List UInt8) (w : World) (hr : Rd w g h (l ++ r) false) (hh : h < w.heap.size) (hl : (l ++ r).length ≤ 1000000) :
    Calls Try.prog 19 #[.pointer (some ⟨g, 0, none⟩), .int .i64 (l.length : Int)] w fun e w' => ∃ g' c', e = .returned (.slice (some ⟨g', 0, none⟩) l.length c') ∧ w.heap.size ≤ g' ∧ Own 5 w' w.heap.size (.slice (some ⟨g', 0, none⟩) l.length c') l ∧
      Rd w' g h r false ∧ w.grownBy w' (some g) := by
  have hm : (max (l.length : Int) 0).toNat = l.length := by omega
  have R := rbytes_yes g h (l ++ r) false (l.length : Int) w hr hh (by rw [hm, List.length_append]; omega) hl
  rw [hm] at R
  have e1 : (l ++ r).take l.length = l := by simp
  have e2 : (l ++ r).drop l.length = r := by simp
  rw [e1, e2] at R
  refine R.mono ?_
  rintro e w' ⟨g', k, c', rfl, rfl, h1, h2, h3, h4⟩
  exact ⟨g', c', rfl, h1, h2, h3, h4⟩

theorem rlen_back (g h : Nat) (l r : List UInt8) (hl : l.length ≤ 1000) (w : World) (hr : Rd w g h (numB 2 l.length ++ r) false) :
    Calls Try.prog 14 #[.pointer (some ⟨g, 0, none⟩), .int .i64 2] w fun e w' => e = .returned (.int .u64 (l.length : Int)) ∧ Rd w' g h r false ∧ w.grownBy w' (some g) := by
  have R := rnum_back g h 2 2 l.length (by decide) r w hr
  rw [Nat.mod_eq_of_lt (by omega)] at R
  exact R

set_option maxHeartbeats 1600000 in
theorem back_main (v : Value) (L : List (List UInt8)) (w : World) (hp : Parts w w.heap.size v L) (hL : L.length ≤ 50) :
    Calls Try.prog 7 #[v] w fun e w' => e = .returned (.bool true) ∧ Below w.heap.size w w' := by
  obtain ⟨A, c, vs, hv, hr, he, hlen⟩ := id hp
  subst hv
  have hvl : vs.length ≤ 50 := by rw [he.1]; exact hL
  have HF : Hid (L.take vs.length = L) := Lib.hid (by rw [he.1]; exact List.take_length)
  clear hp hlen
  have d1 : decide ((50 : Int) < (vs.length : Int)) = false := by simp; omega
  go_enter Try.func7, Try.ntmps7
  go_wp2_with fail
  refine (speaks_any _).mono ?_
  rintro e w1 ⟨rfl, hb1⟩
  go_wp2
  clear d1
  have hb2 := hb1.alloc hb1.size (.cells #[] 5)
  have O2 := Own.made (e := 5) (base := w.heap.size) #[] 0 hb1.size (by simp) rfl w1.heap.size rfl
  go_loopw [3, 17] (fun u i wr => ∃ k : Nat, k ≤ vs.length ∧ i = .int .i64 k ∧ ∃ A' n c', u = .slice A' n c' ∧ Hid ((enc (L.take k)).length = n) ∧ n ≤ 1002 * k ∧ Own 5 wr w.heap.size (.slice A' n c') (enc (L.take k)) ∧ Below w.heap.size w wr ∧ Hid (∀ j, j < k → ∀ l, L[j]? = some l → l.length ≤ 1000)) (fun _ i _ => vs.length - (intOf i).toNat)
  case atStart => exact ⟨0, Nat.zero_le _, rfl, _, _, _, rfl, rfl, by omega, O2, hb2, fun j hj => absurd hj (by omega)⟩
  case round =>
    rename_i wr
    obtain ⟨k, hk, rfl, A', n, c', rfl, hn, hn2, hO, hbr, hsm⟩ := hrel
    clear O2 hb2 hb1
    by_cases hlt2 : k < vs.length
    · obtain ⟨a, rfl, hab, hcell⟩ := hr.at_ hlt2
      obtain ⟨l, hl, Ai, ci, hv, hlc, hcm, hrow⟩ := he.at_ hlt2
      have hby : Bytes wr w.heap.size (.slice Ai l.length ci) l := Bytes.below ⟨Ai, ci, rfl, hlc, hcm, hrow⟩ hbr
      have hc2 := (hbr.cell (p := a.add k) (by rw [add_block]; exact hab)).trans hcell
      rw [hv] at hc2
      have HL := Lib.hid hl
      have HY := Lib.hid hby
      clear hv hl hcell hby hrow
      unfold maxLen at hcm
      by_cases h1 : 1000 < l.length
      · have d1 : decide ((1000 : Int) < (l.length : Int)) = true := by simp; omega
        go_wp2
        go_ret
        exact ⟨rfl, hbr⟩
      · have d1 : decide ((1000 : Int) < (l.length : Int)) = false := by simp; omega
        go_wp2_with fail
        ((with_reducible refine (num_any 2 l.length _).mono ?_); rintro e w2 ⟨A2, c2, rfl, O2, hb2⟩)
        have hw2 : wid 2 = 2 := by decide
        rw [hw2] at O2 ⊢
        have hbr2 := hbr.trans (hb2.mono hbr.size)
        have B1 := (hO.below hb2).bytes (by rw [hn.out]; simp only [maxLen]; omega)
        have B2 := O2.bytes (by rw [numB_length]; simp [maxLen])
        have B3 : Bytes w2 w2.heap.size (.slice Ai l.length ci) l := (HY.out.keep fun p hp => hb2.cell (Nat.lt_of_lt_of_le hp hbr.size)).more hbr2.size
        have hl3 : (enc (L.take k)).length = n := hn.out
        have P : Parts (w2.alloc (.cells #[.slice A' n c', .slice A2 2 c2, .slice Ai l.length ci] 24)) (w2.heap.size + 1) (.slice (some ⟨w2.heap.size, 0, none⟩) 3 3) [enc (L.take k), numB 2 l.length, l] :=
          Parts.new (Each.cons B1 (Each.cons B2 (Each.cons B3 Each.nil))) (Nat.le_refl _) (by simp [maxLen]) 3 rfl _ rfl _ (by omega) _ _ rfl
        have hfl : [enc (L.take k), numB 2 l.length, l].flatten = enc (L.take (k + 1)) := by rw [enc_snoc L k l HL.out]; simp
        have hel : (enc (L.take (k + 1))).length = n + 2 + l.length := by rw [enc_snoc L k l HL.out, List.length_append, List.length_append, numB_length, hl3]; omega
        have J := join_any _ _ _ _ (by simp) P (by rw [hfl, hel]; omega)
        rw [hfl] at J
        have HJ := Lib.hid J
        have HEL := Lib.hid hel
        have hbr3 := hbr2.alloc hbr2.size (.cells #[.slice A' n c', .slice A2 2 c2, .slice Ai l.length ci] 24)
        clear B1 B2 B3 P hfl hl3 hw2 O2 hb2 hbr2 J hel hO
        go_wp2_with fail
        ((with_reducible refine HJ.out.mono ?_); rintro e w3 ⟨g3, c3, rfl, hg3, O3, hb3⟩)
        rw [HEL.out] at O3 ⊢
        have O4 := O3.lower (base' := w.heap.size) hbr3.size
        have hbr4 := hbr3.trans (hb3.mono hbr3.size)
        clear O3 hb3 hbr3 HJ
        go_wp2
        go_roundw
        case rel =>
          refine ⟨k + 1, by omega, by go_num, some ⟨g3, 0, none⟩, n + 2 + l.length, c3, rfl, HEL.out, by omega, O4, hbr4, ?_⟩
          intro j hj l' hl'
          rcases Nat.lt_or_ge j k with hjk | hjk
          · exact hsm.out j hjk l' hl'
          · obtain rfl : j = k := by omega
            rw [HL.out] at hl'
            cases hl'
            omega
        case measure => simp [intOf]; omega
    · obtain rfl : k = vs.length := by omega
      rw [HF.out] at hO hn
      have D := Lib.hid (hO.bytes (by rw [hn.out]; simp only [maxLen]; omega))
      have hn3 : (enc L).length ≤ 60000 := by rw [hn.out]; omega
      have HN3 := Lib.hid hn3
      clear hO hn3
      go_wp2_with fail
      ((with_reducible refine (newreader_any _ _ _ D.out (by have := HN3.out; omega)).mono ?_); rintro e w3 ⟨g, h, rfl, hrd, hg, hh, hh2, hb3⟩)
      have hbr3 := hbr.trans (hb3.mono hbr.size)
      have HRD := Lib.hid hrd
      have hgw : w.heap.size ≤ g := Nat.le_trans hbr.size hg
      clear hrd hb3 D hbr hg
      go_wp2
      go_loopw [39] (fun i wl => ∃ k : Nat, k ≤ vs.length ∧ i = .int .i64 k ∧ Hid (Rd wl g h (enc (L.drop k)) false) ∧ h < wl.heap.size ∧ Below w.heap.size w wl ∧ Hid ((enc (L.drop k)).length ≤ 60000)) (fun i _ => vs.length - (intOf i).toNat)
      case atStart => exact ⟨0, Nat.zero_le _, rfl, HRD, hh2, hbr3, HN3⟩
      case round =>
        rename_i wl
        obtain ⟨k, hk, rfl, HL, hhl, hbl, hsz⟩ := hrel
        clear hbr3
        by_cases hlt2 : k < vs.length
        · obtain ⟨a, rfl, hab, hcell⟩ := hr.at_ hlt2
          obtain ⟨l, hl, Ai, ci, hv, hlc, hcm, hrow⟩ := he.at_ hlt2
          have hc2 := (hbl.cell (p := a.add k) (by rw [add_block]; exact hab)).trans hcell
          rw [hv] at hc2
          have hby : Bytes w w.heap.size (.slice Ai l.length ci) l := ⟨Ai, ci, rfl, hlc, hcm, hrow⟩
          have HY := Lib.hid hby
          have HLL := Lib.hid hl
          have hls := hsm.out k hlt2 l hl
          clear hv hl hcell hby hrow
          unfold maxLen at hcm
          have HD := HL.out
          rw [enc_drop L k l HLL.out] at HD
          have HDD := Lib.hid HD
          have hsz2 := hsz.out
          rw [enc_drop L k l HLL.out, List.length_append, numB_length] at hsz2
          have HSZ2 := Lib.hid hsz2
          have S0 := str_of (HY.out.below hbl)
          have S0d := str_of (Bytes.keep (w' := World.drew _) (HY.out.below hbl) fun p _ => rfl)
          have hbld := hbl.drew
          have hwr : IntKind.i64.wrap (l.length : Int) = (l.length : Int) := IntWalk.i64_in _ (by omega)
          clear HD hsz2 HL hsz
          go_wp2_with fail
          go_region_with (first
            | (go_at_call 14; refine (rlen_back g h l (l ++ enc (L.drop (k + 1))) hls _ (by exact HDD.out)).mono ?_; rintro e w5 ⟨rfl, hrd5, hg5⟩; have hbl5 := Below.only hbld hg5 hbld.size hgw; have S5 := str_of (HY.out.below hbl5); have hh5 := Nat.lt_of_lt_of_le hhl hg5.size; have HRD5 := Lib.hid hrd5; clear hrd5 hg5)
            | (go_at_call 19; (with_reducible refine (rbytes_back g h l (enc (L.drop (k + 1))) _ (by exact HRD5.out) (by exact hh5) (by have := HSZ2.out; omega)).mono ?_); rintro e w6 ⟨g6, c6, rfl, hg6, O6, hrd6, hgr6⟩; have hbl6 := Below.only hbl5 hgr6 hbl5.size hgw; have S6 := str_of (HY.out.below hbl6); have S7 := str_of (O6.bytes (by simp only [maxLen]; omega)); have hh6 := Nat.lt_of_lt_of_le hh5 hgr6.size; have HRD6 := Lib.hid hrd6; clear hrd6 hgr6 O6))
          all_goals
            clear S0 S0d S5 S6 S7
            go_wp2
            go_roundw
            case rel => exact ⟨k + 1, by omega, by go_num, HRD6, hh6, hbl6, Lib.hid (by have := HSZ2.out; rw [List.length_append] at this; omega)⟩
            case measure => simp [intOf]; omega
        · obtain rfl : k = vs.length := by omega
          have hd : enc (L.drop vs.length) = [] := by rw [he.1, List.drop_length]; rfl
          rw [hd] at HL
          go_wp2_with fail
          ((with_reducible refine (left_any g h _ _ _ HL.out).mono ?_); rintro e w' ⟨rfl, hw⟩; rw [← hw]; clear hw w')
          go_wp2_with fail
          ((with_reducible refine (bad_any g h _ _ _ HL.out).mono ?_); rintro e w' ⟨rfl, hw⟩; rw [← hw]; clear hw w')
          go_wp2
          go_ret
          exact ⟨rfl, hbl⟩

set_option maxHeartbeats 1000000 in
theorem packBack_any (v : Value) (w : World) (h : ∃ L, Parts w w.heap.size v L) :
    Calls Try.prog 7 #[v] w fun e w' => e = .returned (.bool true) ∧ Below w.heap.size w w' := by
  obtain ⟨L, hp⟩ := h
  by_cases hL : L.length ≤ 50
  · exact back_main v L w hp hL
  · obtain ⟨A, c, vs, hv, hr, he, hlen⟩ := hp
    subst hv
    have hvl : 50 < vs.length := by rw [he.1]; omega
    clear hr he hlen
    have d1 : decide ((50 : Int) < (vs.length : Int)) = true := by simp; omega
    go_enter Try.func7, Try.ntmps7
    go_wp2_with fail
    refine (speaks_any _).mono ?_
    rintro e w1 ⟨rfl, hb1⟩
    go_wp2
    go_ret
    exact ⟨rfl, hb1⟩
end Go.Proofs.Ytpokndigknkjmaa
