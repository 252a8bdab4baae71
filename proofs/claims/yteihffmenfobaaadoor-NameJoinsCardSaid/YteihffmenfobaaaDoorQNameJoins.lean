/- The walk of NameJoins: it answers true, and changes nothing that was there. No condition but that internal/bytealg's MaxLen is some int. -/
import Derived.Test.YteihffmenfobaaaDoorQNameSplits
namespace Go.Proofs.YteihffmenfobaaaDoor
open Go.RowKit Go.Shelf
theorem OwnS.flat {w : World} {base : Nat} {v : Value} {xs : List ByteArray} (h : OwnS w base v xs) : Flat v := by
  intro a n c e
  rcases h.2 with ⟨hv, _⟩ | ⟨g, cap, cur, hv, _⟩
  · rw [hv] at e
    cases e
  · rw [hv] at e
    cases e
    exact ⟨g, 0, rfl⟩
theorem str_one {xs : List ByteArray} : ∀ u ∈ xs.map Value.string, u.oneCell' = true := fun u hu => by
  obtain ⟨x, _, rfl⟩ := List.mem_map.1 hu
  rfl
set_option maxRecDepth 100000 in
set_option maxHeartbeats 8000000 in
theorem nameJoins_any (v : Value) (w : World) (hm : MaxI w) (hv : ∃ xs, Strs w w.heap.size v xs) :
    Calls Tryd.prog 4 #[v] w fun e w' => e = .returned (.bool true) ∧ Below w.heap.size w w' := by
  obtain ⟨xs, hv⟩ := hv
  have HV := Lib.hid hv
  obtain ⟨A, c, rfl, hc, hcm, _⟩ := hv
  simp only [maxLen] at hcm
  have K0 := Lib.hid (namespeaks_any w hm)
  have HM := Lib.hid hm
  clear hm
  by_cases h50 : 50 < xs.length
  · have i1 : (50 : Int) < (xs.length : Int) := by omega
    go_enter Tryd.func4, Tryd.ntmps4
    go_wp2_with fail
    refine K0.out.mono ?_
    rintro e w1 ⟨rfl, hb⟩
    go_wp2_with fail
    go_ret
    exact ⟨rfl, hb⟩
  · have i1 : ¬ (50 : Int) < (xs.length : Int) := by omega
    go_enter Tryd.func4, Tryd.ntmps4
    go_wp2_with fail
    refine K0.out.mono ?_
    rintro e w1 ⟨rfl, hb⟩
    have HM1 := Lib.hid (HM.out.below hb)
    have HB1 := Lib.hid hb
    have HV1 := Lib.hid (HV.out.after hb)
    clear hb K0 HM HV
    go_wp2_with fail
    go_loop [4, 19] (fun _ i => ∃ k : Nat, k ≤ xs.length ∧ i = .int .i64 k) (fun _ i => xs.length - (intOf i).toNat)
    case atStart => exact ⟨0, by omega, rfl⟩
    case round =>
      obtain ⟨k, hk, rfl⟩ := hrel
      by_cases hlt : k < xs.length
      · have i2 : (k : Int) < (xs.length : Int) := by omega
        obtain ⟨_, _, e1, _, _, hr⟩ := HV1.out
        cases e1
        obtain ⟨a, rfl, hab, c1⟩ := hr.at_ (k := k) (by rw [List.length_map]; exact hlt)
        rw [List.getElem_map] at c1
        obtain ⟨x, hx⟩ : ∃ x, xs[k] = x := ⟨_, rfl⟩
        rw [hx] at c1
        clear hx hr
        by_cases h100 : 100 < x.size
        · have i3 : (100 : Int) < (x.size : Int) := by omega
          go_wp2_with fail
          go_ret
          exact ⟨rfl, HB1.out⟩
        · have i3 : ¬ (100 : Int) < (x.size : Int) := by omega
          go_wp2_with fail
          go_round
          case rel => exact ⟨k + 1, by omega, by go_num⟩
          case measure => simp [intOf]; omega
      · obtain rfl : k = xs.length := by omega
        have i2 : ¬ (xs.length : Int) < (xs.length : Int) := by omega
        have hO := OwnS.made w1 w1.heap.size (Nat.le_refl _) w1.heap.size rfl
        have hB := (Below.refl w1.heap.size w1).alloc (Nat.le_refl _) (.cells #[] 9)
        have HO := Lib.hid hO
        have HBA := Lib.hid hB
        obtain ⟨_, _, e1, _, _, hr⟩ := HV1.out.after hB
        cases e1
        have HR := Lib.hid hr
        have hbs : w1.heap.size ≤ (w1.alloc (.cells #[] 9)).heap.size := hB.size
        have hml : 0 + xs.length ≤ maxLen := by simp only [maxLen]; omega
        clear hO hB hr
        go_wp2_with (at_builtin; refine wpl_append_vals strTy rfl (.tmp 28) (.tmp 29) rfl 0 rfl HO.out _ _ _ (xs.map Value.string) xs.length (by simp) rfl HR.out str_one (by omega) hml hbs xs.length (by omega) ?_; intro A8 c8 w8 O8 g8 h8)
        have HO8 : Hid (OwnS w8 w1.heap.size (.slice A8 xs.length c8) xs) := Lib.hid (by
          unfold OwnS
          simpa using O8)
        have HBW := Lib.hid (HBA.out.grown g8 hbs fun k hk => (World.ownsRow.lt HO.out k hk).1)
        have HB8 := Lib.hid (HB1.out.trans (HBW.out.mono HB1.out.size))
        have HV8 := Lib.hid (HV1.out.after HBW.out)
        have HM8 := Lib.hid (HM1.out.below HBW.out)
        have KJ := Lib.hid (njoin_any _ xs w8 HO8.out.strs HO8.out.flat)
        clear O8 g8 h8 HO HR HBW HBA
        refine KJ.out.mono ?_
        clear KJ
        rintro e w9 (⟨p, rfl, hp, hb⟩ | ⟨rfl, hp, hb⟩)
        · have HP := Lib.hid hp
          have HB9 := Lib.hid (HB8.out.trans (hb.mono HB8.out.size))
          have HV9 := Lib.hid (HV8.out.after hb)
          have HM9 := Lib.hid (HM8.out.below hb)
          have KQ := Lib.hid (refJoin_any _ xs w9 HV9.out)
          have hps : p.size ≤ 1000000 := by
            have := joinL_length hp
            rw [← Lib.size_eq] at this
            omega
          have KS := Lib.hid (split_any p w9 HM9.out hps)
          clear hp hb HB8 HV8 HM8 hps
          go_wp2_with fail
          refine KQ.out.mono ?_
          clear KQ
          rintro e w10 (⟨q, rfl, hq, rfl⟩ | ⟨_, hq, _⟩)
          · obtain rfl : p = q := bytes_eq (Option.some.inj (HP.out.symm.trans hq))
            have d1 : (p.toList != p.toList) = false := by simp
            clear hq
            go_wp2_with fail
            refine KS.out.mono ?_
            clear KS
            rintro e w11 (⟨v2, ys, rfl, hs, hy, _, hb⟩ | ⟨_, hs, _⟩)
            · obtain rfl : ys = xs := dl_inj.1 (Option.some.inj (hs.symm.trans (split_join HP.out)))
              have HY := Lib.hid hy
              have HB11 := Lib.hid (HB9.out.trans (hb.mono HB9.out.size))
              have HV11 := Lib.hid (HV9.out.after hb)
              obtain ⟨A2, c2, rfl, hc2, hm2, _⟩ := id hy
              simp only [maxLen] at hm2
              clear hs hy hb HB9 HV9 HM9
              go_wp2_with fail
              go_loopg [11, 65] ys.length (fun g _ i wx => ∃ k : Nat, k + g = ys.length ∧ i = .int .i64 k ∧ Hid (Below w11.heap.size w11 wx))
              case atStart => exact ⟨0, by omega, rfl, Lib.hid (Below.refl _ _)⟩
              case round =>
                obtain ⟨k, hk, rfl, hB⟩ := hrel
                cases gk with
                | zero =>
                  obtain rfl : k = ys.length := by omega
                  have i2 : ¬ (ys.length : Int) < (ys.length : Int) := by omega
                  have d2 : ((ys.length : Int) == (ys.length : Int)) = true := by simp
                  go_wp2_with fail
                  go_ret
                  exact ⟨rfl, HB11.out.trans (hB.out.mono HB11.out.size)⟩
                | succ g =>
                  have hlt : k < ys.length := by omega
                  have i2 : (k : Int) < (ys.length : Int) := by omega
                  have hx5 := HV11.out.below hB.out
                  have hy5 := HY.out.below hB.out
                  obtain ⟨_, _, e1, _, _, hr⟩ := hx5
                  obtain ⟨_, _, e2, _, _, hr2⟩ := hy5
                  cases e1
                  cases e2
                  obtain ⟨a, rfl, hab, c1⟩ := hr.at_ (k := k) (by rw [List.length_map]; exact hlt)
                  obtain ⟨a2, rfl, hab2, c2'⟩ := hr2.at_ (k := k) (by rw [List.length_map]; exact hlt)
                  rw [List.getElem_map] at c1 c2'
                  obtain ⟨x, hx⟩ : ∃ x, ys[k] = x := ⟨_, rfl⟩
                  rw [hx] at c1 c2'
                  have d3 : (x.toList != x.toList) = false := by simp
                  clear hx hr hr2
                  have T := Lib.hid hB.out.drew
                  go_wp2_with fail
                  go_region
                  go_wp2
                  go_roundg g
                  case measure => omega
                  case rel => exact ⟨k + 1, by omega, by go_num, T⟩
            · rw [split_join HP.out] at hs
              cases hs
          · rw [HP.out] at hq
            cases hq
        · have HP := Lib.hid hp
          have HB9 := Lib.hid (HB8.out.trans (hb.mono HB8.out.size))
          have HV9 := Lib.hid (HV8.out.after hb)
          have HM9 := Lib.hid (HM8.out.below hb)
          have KQ := Lib.hid (refJoin_any _ xs w9 HV9.out)
          have KS := Lib.hid (split_any ⟨#[]⟩ w9 HM9.out (by decide))
          clear hp hb HB8 HV8 HM8
          go_wp2_with fail
          refine KQ.out.mono ?_
          clear KQ
          rintro e w10 (⟨q, rfl, hq, rfl⟩ | ⟨rfl, hq, rfl⟩)
          · rw [HP.out] at hq
            cases hq
          · clear hq
            go_wp2_with fail
            refine KS.out.mono ?_
            clear KS
            rintro e w11 (⟨v2, ys, rfl, hs, hy, _, hb⟩ | ⟨rfl, hs, hb⟩)
            · cases hs
            · go_wp2_with fail
              go_ret
              exact ⟨rfl, HB9.out.trans (hb.mono HB9.out.size)⟩
end Go.Proofs.YteihffmenfobaaaDoor

