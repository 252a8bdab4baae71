/- The walk of NameSplits: it answers true, and changes nothing that was there. No condition but that internal/bytealg's MaxLen is some int. -/
import Derived.Test.YteihffmenfobaaaDoorQNameSpeaks
import Derived.Test.YteihffmenfobaaaDoorQNameRefJ
import Derived.Deep.RegionHeld3
namespace Go.Proofs.YteihffmenfobaaaDoor
open Go.RowKit Go.Shelf
theorem bytes_eq {p s : ByteArray} (h : p.data.toList = s.data.toList) : p = s := by
  cases p; cases s
  congr 1
  exact Array.toList_inj.1 h
set_option maxRecDepth 100000 in
set_option maxHeartbeats 8000000 in
theorem nameSplits_any (s : ByteArray) (w : World) (hm : MaxI w) :
    Calls Tryd.prog 3 #[.string s] w fun e w' => e = .returned (.bool true) ∧ Below w.heap.size w w' := by
  have K0 := Lib.hid (namespeaks_any w hm)
  have HM := Lib.hid hm
  clear hm
  by_cases h1000 : 1000 < s.size
  · have i1 : (1000 : Int) < (s.size : Int) := by omega
    go_enter Tryd.func3, Tryd.ntmps3
    go_wp2_with fail
    refine K0.out.mono ?_
    rintro e w1 ⟨rfl, hb⟩
    go_wp2_with fail
    go_ret
    exact ⟨rfl, hb⟩
  · have i1 : ¬ (1000 : Int) < (s.size : Int) := by omega
    go_enter Tryd.func3, Tryd.ntmps3
    go_wp2_with fail
    refine K0.out.mono ?_
    rintro e w1 ⟨rfl, hb⟩
    have HM1 := Lib.hid (HM.out.below hb)
    have HB1 := Lib.hid hb
    have K1 := Lib.hid (split_any s w1 HM1.out (by omega))
    clear hb K0 HM
    go_wp2_with fail
    refine K1.out.mono ?_
    clear K1
    rintro e w2 (⟨v, xs, rfl, ha, hx, fx, hb⟩ | ⟨rfl, ha, hb⟩)
    · have HA := Lib.hid ha
      have HX2 := Lib.hid hx
      have HF := Lib.hid fx
      have HB2 := Lib.hid (HB1.out.trans (hb.mono HB1.out.size))
      have K2 := Lib.hid (refSplit_any s w2 (by omega))
      clear ha hx fx hb HB1 HM1
      go_wp2_with fail
      refine K2.out.mono ?_
      clear K2
      rintro e w3 ⟨u, ys, ok, rfl, hy, hb, (⟨rfl, h2⟩ | ⟨_, h2, _⟩)⟩
      · have hxy : xs = ys := dl_inj.1 (Option.some.inj (HA.out.symm.trans h2))
        subst hxy
        have HX3 := Lib.hid (HX2.out.after hb)
        have HY3 := Lib.hid hy
        have HB3 := Lib.hid (HB2.out.trans (hb.mono HB2.out.size))
        obtain ⟨A, c, rfl, hc, hm, _⟩ := id HX2.out
        obtain ⟨A2, c2, rfl, hc2, hm2, _⟩ := id hy
        obtain ⟨R, hR⟩ : ∃ R, rightL s.data.toList = R := ⟨_, rfl⟩
        have KR := Lib.hid (right_any s)
        have KQ := Lib.hid (refRight_any s)
        rw [hR] at KR KQ
        simp only [maxLen] at hm hm2
        clear h2 hy hb hR HX2 HB2
        have d1 : ((xs.length : Int) != (xs.length : Int)) = false := by simp
        go_wp2_with fail
        refine (KR.out _).mono ?_
        rintro e w4 ⟨rfl, hb⟩
        have HX4 := Lib.hid (HX3.out.after hb)
        have HY4 := Lib.hid (HY3.out.after hb)
        have HB4 := Lib.hid (HB3.out.trans (hb.mono HB3.out.size))
        clear hb HX3 HY3 HB3
        go_wp2_with fail
        refine (KQ.out _).mono ?_
        rintro e w5 ⟨rfl, rfl⟩
        have d2 : (R != R) = false := by cases R <;> rfl
        go_wp2_with fail
        go_loopg [7, 53] xs.length (fun g _ i wx => ∃ k : Nat, k + g = xs.length ∧ i = .int .i64 k ∧ Hid (Below w4.heap.size w4 wx))
        case atStart => exact ⟨0, by omega, rfl, Lib.hid (Below.refl _ _)⟩
        case round =>
          obtain ⟨k, hk, rfl, hB⟩ := hrel
          cases gk with
          | zero =>
            obtain rfl : k = xs.length := by omega
            have i2 : ¬ (xs.length : Int) < (xs.length : Int) := by omega
            have HX5 := Lib.hid (HX4.out.after hB.out)
            have HB5 := Lib.hid (HB4.out.trans (hB.out.mono HB4.out.size))
            have KJ := Lib.hid (njoin_any _ xs wr HX5.out HF.out)
            go_wp2_with fail
            refine KJ.out.mono ?_
            rintro e w6 (⟨p, rfl, hp, hb⟩ | ⟨_, hp, _⟩)
            · have hps : p = s := bytes_eq (Option.some.inj (hp.symm.trans (join_split HA.out)))
              subst hps
              have HB6 := Lib.hid (HB5.out.trans (hb.mono HB5.out.size))
              clear hp hb
              go_wp2
              go_ret
              exact ⟨rfl, HB6.out⟩
            · rw [join_split HA.out] at hp
              cases hp
          | succ g =>
            have hlt : k < xs.length := by omega
            have i2 : (k : Int) < (xs.length : Int) := by omega
            have hx5 := HX4.out.below hB.out
            have hy5 := HY4.out.below hB.out
            obtain ⟨_, _, e1, _, _, hr⟩ := hx5
            obtain ⟨_, _, e2, _, _, hr2⟩ := hy5
            cases e1
            cases e2
            obtain ⟨a, rfl, hab, c1⟩ := hr.at_ (k := k) (by rw [List.length_map]; exact hlt)
            obtain ⟨a2, rfl, hab2, c2'⟩ := hr2.at_ (k := k) (by rw [List.length_map]; exact hlt)
            rw [List.getElem_map] at c1 c2'
            obtain ⟨x, hx⟩ : ∃ x, xs[k] = x := ⟨_, rfl⟩
            rw [hx] at c1 c2'
            have d3 : (x.toList != x.toList) = false := by simp
            clear hx hr hr2
            have T := Lib.hid hB.out.drew
            go_wp2_with fail
            go_region
            go_wp2
            go_roundg g
            case measure => omega
            case rel => exact ⟨k + 1, by omega, by go_num, T⟩
      · rw [HA.out] at h2
        cases h2
    · have HA := Lib.hid ha
      have HB2 := Lib.hid (HB1.out.trans (hb.mono HB1.out.size))
      have K2 := Lib.hid (refSplit_any s w2 (by omega))
      clear ha hb HB1 HM1
      go_wp2_with fail
      refine K2.out.mono ?_
      clear K2
      rintro e w3 ⟨u, ys, ok, rfl, hy, hb, (⟨_, h2⟩ | ⟨rfl, h2, rfl⟩)⟩
      · rw [HA.out] at h2
        cases h2
      · have HB3 := Lib.hid (HB2.out.trans (hb.mono HB2.out.size))
        obtain ⟨A2, c2, rfl, hc2, hm2, _⟩ := id hy
        simp only [List.length_nil]
        obtain ⟨R, hR⟩ : ∃ R, rightL s.data.toList = R := ⟨_, rfl⟩
        have KR := Lib.hid (right_any s)
        have KQ := Lib.hid (refRight_any s)
        rw [hR] at KR KQ
        clear h2 hy hb hR HB2
        go_wp2_with fail
        refine (KR.out _).mono ?_
        rintro e w4 ⟨rfl, hb⟩
        have HB4 := Lib.hid (HB3.out.trans (hb.mono HB3.out.size))
        clear hb HB3
        go_wp2_with fail
        refine (KQ.out _).mono ?_
        rintro e w5 ⟨rfl, rfl⟩
        have d2 : (R != R) = false := by cases R <;> rfl
        have KJ := Lib.hid (njoin_any (.slice none 0 0) [] w4 (Strs.nil 0 (by simp [maxLen])) (Flat.none_ _ _))
        go_wp2_with fail
        go_loop [7, 53] (fun _ i => i = .int .i64 0) (fun _ _ => 0)
        case atStart => rfl
        case round =>
          subst hrel
          go_wp2_with fail
          refine KJ.out.mono ?_
          rintro e w6 (⟨p, rfl, hp, hb⟩ | ⟨_, hp, _⟩)
          · have HB6 := Lib.hid (HB4.out.trans (hb.mono HB4.out.size))
            clear hp hb
            go_wp2
            go_ret
            exact ⟨rfl, HB6.out⟩
          · cases hp
end Go.Proofs.YteihffmenfobaaaDoor

