/- The walk of NameWithin: it answers true, and changes nothing that was there. No condition but that internal/bytealg's MaxLen is some int. -/
import Derived.Test.YteihffmenfobaaaDoorQNameJoins
import Derived.Deep.Cut
import Derived.Deep.CutRange
import Derived.Deep.CutBlock
namespace Go.Proofs.YteihffmenfobaaaDoor
open Go.RowKit Go.Shelf
theorem within_yes {p t : List UInt8} {xs ys : List ByteArray} (h1 : splitL p = some (dl xs)) (h2 : splitL t = some (dl ys)) : withinL p t = (dl ys).isPrefixOf (dl xs) := by
  unfold withinL
  rw [h1, h2]
theorem prefix_false {xs ys : List ByteArray} {k : Nat} {x y : ByteArray} (h1 : xs[k]? = some x) (h2 : ys[k]? = some y) (h : x ≠ y) : (dl ys).isPrefixOf (dl xs) = false := by
  rcases hp : (dl ys).isPrefixOf (dl xs) with _ | _
  · rfl
  · obtain ⟨r, hr⟩ := List.isPrefixOf_iff_prefix.1 hp
    have e1 : (dl xs)[k]? = some x.data.toList := by simp [dl, h1]
    have e2 : (dl ys)[k]? = some y.data.toList := by simp [dl, h2]
    rw [← hr, List.getElem?_append_left (get_lt e2), e2] at e1
    exact absurd (bytes_eq (Option.some.inj e1)).symm h
theorem take_same {xs ys : List ByteArray} {k : Nat} {x : ByteArray} (h : ys.take k = xs.take k) (h1 : xs[k]? = some x) (h2 : ys[k]? = some x) : ys.take (k + 1) = xs.take (k + 1) := by
  rw [take_snoc _ h1, take_snoc _ h2, h]
theorem prefix_true {xs ys : List ByteArray} (h : ys.take ys.length = xs.take ys.length) : (dl ys).isPrefixOf (dl xs) = true := by
  rw [List.isPrefixOf_iff_prefix]
  rw [List.take_length] at h
  exact ⟨dl (xs.drop ys.length), by
    have h2 := List.take_append_drop ys.length xs
    rw [← h] at h2
    conv => rhs; rw [← h2]
    simp [dl]⟩
theorem list_ne {x y : ByteArray} (h : x ≠ y) : (x.toList == y.toList) = false := by
  rw [beq_eq_false_iff_ne]
  intro e
  rw [Lib.toList_data, Lib.toList_data] at e
  exact h (bytes_eq e)
set_option maxRecDepth 100000 in
set_option maxHeartbeats 16000000 in
theorem nameWithin_any (p t : ByteArray) (v : Value) (w : World) (hm : MaxI w) (hv : ∃ xs, Strs w w.heap.size v xs) :
    Calls Tryd.prog 5 #[.string p, .string t, v] w fun e w' => e = .returned (.bool true) ∧ Below w.heap.size w w' := by
  obtain ⟨ms, hv⟩ := hv
  have HV := Lib.hid hv
  obtain ⟨A, c, rfl, hc, hcm, _⟩ := hv
  simp only [maxLen] at hcm
  have K0 := Lib.hid (namespeaks_any w hm)
  have HM := Lib.hid hm
  clear hm
  by_cases hbig : 500 < p.size ∨ 500 < t.size ∨ 10 < ms.length
  · rcases Nat.lt_or_ge 500 p.size with h1 | h1
    · have i1 : (500 : Int) < (p.size : Int) := by omega
      clear hbig
      go_enter Tryd.func5, Tryd.ntmps5
      go_wp2_with fail
      refine K0.out.mono ?_
      rintro e w1 ⟨rfl, hb⟩
      go_wp2_with fail
      go_ret
      exact ⟨rfl, hb⟩
    · have i1 : ¬ (500 : Int) < (p.size : Int) := by omega
      rcases Nat.lt_or_ge 500 t.size with h2 | h2
      · have i2 : (500 : Int) < (t.size : Int) := by omega
        clear hbig
        go_enter Tryd.func5, Tryd.ntmps5
        go_wp2_with fail
        refine K0.out.mono ?_
        rintro e w1 ⟨rfl, hb⟩
        go_wp2_with fail
        go_ret
        exact ⟨rfl, hb⟩
      · have i2 : ¬ (500 : Int) < (t.size : Int) := by omega
        have i3 : (10 : Int) < (ms.length : Int) := by omega
        clear hbig
        go_enter Tryd.func5, Tryd.ntmps5
        go_wp2_with fail
        refine K0.out.mono ?_
        rintro e w1 ⟨rfl, hb⟩
        go_wp2_with fail
        go_ret
        exact ⟨rfl, hb⟩
  · have i1 : ¬ (500 : Int) < (p.size : Int) := by omega
    have i2 : ¬ (500 : Int) < (t.size : Int) := by omega
    have i3 : ¬ (10 : Int) < (ms.length : Int) := by omega
    have hms : ms.length ≤ 10 := by omega
    clear hbig
    obtain ⟨R, hR⟩ : ∃ R, withinL p.data.toList t.data.toList = R := ⟨_, rfl⟩
    have HR := Lib.hid hR
    clear hR
    go_enter Tryd.func5, Tryd.ntmps5
    go_wp2_with fail
    refine K0.out.mono ?_
    rintro e w1 ⟨rfl, hb⟩
    have HM1 := Lib.hid (HM.out.below hb)
    have HB1 := Lib.hid hb
    have HV1 := Lib.hid (HV.out.after hb)
    have K1 := Lib.hid (refSplit_any p w1 (by omega))
    clear hb K0 HM HV
    go_wp2_with fail
    refine K1.out.mono ?_
    clear K1
    rintro e w2 ⟨va, xs, okx, rfl, hx, hb, hox⟩
    have HX2 := Lib.hid hx
    have HOX := Lib.hid hox
    have HB2 := Lib.hid (HB1.out.trans (hb.mono HB1.out.size))
    have HV2 := Lib.hid (HV1.out.after hb)
    have HM2 := Lib.hid (HM1.out.below hb)
    have K2 := Lib.hid (refSplit_any t w2 (by omega))
    clear hx hb HB1 HV1 HM1 hox
    go_wp2_with fail
    refine K2.out.mono ?_
    clear K2
    rintro e w3 ⟨vb, ys, oky, rfl, hy, hb, hoy⟩
    have HY := Lib.hid hy
    have HOY := Lib.hid hoy
    have HX := Lib.hid (HX2.out.after hb)
    have HB := Lib.hid (HB2.out.trans (hb.mono HB2.out.size))
    have HV3 := Lib.hid (HV2.out.after hb)
    have HM3 := Lib.hid (HM2.out.below hb)
    clear hy hb HB2 HV2 HM2 HX2 hoy
    obtain ⟨A1, c1, rfl, hc1, hm1, _⟩ := id HX.out
    obtain ⟨A2, c2, rfl, hc2, hm2, _⟩ := id HY.out
    simp only [maxLen] at hm1 hm2
    have hxl : xs.length ≤ 6 := by
      rcases HOX.out with ⟨_, h⟩ | ⟨_, _, rfl⟩
      · have := (splitL_names h).1
        rw [dl_length] at this
        exact this
      · simp
    have hyl : ys.length ≤ 6 := by
      rcases HOY.out with ⟨_, h⟩ | ⟨_, _, rfl⟩
      · have := (splitL_names h).1
        rw [dl_length] at this
        exact this
      · simp
    obtain ⟨W0, hW0⟩ : ∃ W0, W0 = (okx && oky && decide (ys.length ≤ xs.length)) := ⟨_, rfl⟩
    have hd : decide ((ys.length : Int) ≤ (xs.length : Int)) = decide (ys.length ≤ xs.length) := decide_eq_decide.2 (by omega)
    have HW0 := Lib.hid hW0
    have hstart : Hid (W0 = false → R = false) := Lib.hid fun h => by
      rw [← HR.out]
      unfold withinL
      rcases HOX.out with ⟨rfl, h1⟩ | ⟨rfl, h1, _⟩
      · rcases HOY.out with ⟨rfl, h2⟩ | ⟨rfl, h2, _⟩
        · rw [h1, h2]
          rw [HW0.out] at h
          simp only [Bool.true_and, decide_eq_false_iff_not] at h
          show (dl ys).isPrefixOf (dl xs) = false
          rcases hp : (dl ys).isPrefixOf (dl xs) with _ | _
          · rfl
          · have := (List.isPrefixOf_iff_prefix.1 hp).length_le
            rw [dl_length, dl_length] at this
            exact absurd this h
        · rw [h1, h2]
      · rw [h1]
    have hyes : Hid (W0 = true → R = (dl ys).isPrefixOf (dl xs) ∧ ys.length ≤ xs.length) := Lib.hid fun h => by
      rw [HW0.out] at h
      simp only [Bool.and_eq_true, decide_eq_true_eq] at h
      obtain ⟨⟨e1, e2⟩, e3⟩ := h
      refine ⟨?_, e3⟩
      rcases HOX.out with ⟨_, h1⟩ | ⟨h0, _, _⟩
      · rcases HOY.out with ⟨_, h2⟩ | ⟨h0, _, _⟩
        · rw [← HR.out]
          exact within_yes h1 h2
        · rw [e2] at h0
          cases h0
      · rw [e1] at h0
        cases h0
    clear hW0
    go_upto_region 7 with (fail)
    go_cut [11] from 41 to 51 (fun s11 wx => s11 = .bool W0 ∧ wx = w3)
    case first =>
      rcases HOX.out with ⟨rfl, _⟩ | ⟨rfl, _, _⟩
      · rcases HOY.out with ⟨rfl, _⟩ | ⟨rfl, _, _⟩
        · have hq := HW0.out
          simp only [Bool.true_and] at hq
          have HQ := Lib.hid hq
          clear HW0 hstart hyes HOX HOY hq
          go_wp2_with fail
          go_meet
          case rel => exact ⟨by rw [HQ.out], rfl⟩
        · obtain rfl : W0 = false := HW0.out
          clear HW0 hstart hyes HOX HOY hd
          go_wp2_with fail
          go_meet
          case rel => exact ⟨rfl, rfl⟩
      · obtain rfl : W0 = false := HW0.out
        clear HW0 hstart hyes HOX HOY hd
        go_wp2_with fail
        go_meet
        case rel => exact ⟨rfl, rfl⟩
    case rest =>
      obtain ⟨rfl, rfl⟩ := hcut
      go_upto_block 0 with (fail)
      go_cut [11, 12] from 52 to 69 (fun s11 _ wx => s11 = .bool R ∧ Hid (Below wc.heap.size wc wx))
      case first =>
        go_wp2_with fail
        go_loopg [11, 12] ys.length (fun g s11 i wx => ∃ (k : Nat) (W : Bool), k + g = ys.length ∧ i = .int .i64 k ∧ s11 = .bool W ∧ Hid (Below wc.heap.size wc wx) ∧ Hid (W = false → R = false) ∧ Hid (W = true → W0 = true ∧ ys.take k = xs.take k))
        case atStart => exact ⟨0, W0, by omega, rfl, rfl, Lib.hid (Below.refl _ _), hstart, Lib.hid fun h => ⟨h, rfl⟩⟩
        case round =>
          obtain ⟨k, W, hk, rfl, rfl, hB, hno, hye⟩ := hrel
          clear hstart
          cases W with
          | false =>
            obtain rfl : R = false := hno.out rfl
            rcases Nat.lt_or_ge k ys.length with hlt | hge
            · have j1 : (k : Int) < (ys.length : Int) := by omega
              go_wp2_with fail
              go_meet
              case rel => exact ⟨rfl, hB⟩
            · have j1 : ¬ (k : Int) < (ys.length : Int) := by omega
              go_wp2_with fail
              go_meet
              case rel => exact ⟨rfl, hB⟩
          | true =>
            obtain ⟨h0, hpre⟩ := hye.out rfl
            obtain ⟨hR, hle⟩ := hyes.out h0
            have HPre := Lib.hid hpre
            have HRR := Lib.hid hR
            have HH0 := Lib.hid h0
            clear h0 hpre hR hye
            rcases Nat.lt_or_ge k ys.length with hlt | hge
            · have j1 : (k : Int) < (ys.length : Int) := by omega
              cases gk with
              | zero => omega
              | succ g =>
                have hx5 := HX.out.below hB.out
                have hy5 := HY.out.below hB.out
                obtain ⟨_, _, e1, _, _, hr⟩ := hx5
                obtain ⟨_, _, e2, _, _, hr2⟩ := hy5
                cases e1
                cases e2
                obtain ⟨a, rfl, hab, d1⟩ := hr.at_ (k := k) (by rw [List.length_map]; omega)
                obtain ⟨a2, rfl, hab2, d2⟩ := hr2.at_ (k := k) (by rw [List.length_map]; omega)
                rw [List.getElem_map] at d1 d2
                obtain ⟨x, hx⟩ : ∃ x, xs[k] = x := ⟨_, rfl⟩
                obtain ⟨y, hy⟩ : ∃ y, ys[k] = y := ⟨_, rfl⟩
                rw [hx] at d1
                rw [hy] at d2
                have hx' : xs[k]? = some x := by rw [List.getElem?_eq_getElem (by omega), hx]
                have hy' : ys[k]? = some y := by rw [List.getElem?_eq_getElem hlt, hy]
                have T := Lib.hid hB.out.drew
                by_cases hxy : x = y
                · subst hxy
                  have HT := Lib.hid (take_same HPre.out hx' hy')
                  have d3 : (x.toList == x.toList) = true := by simp
                  clear hx hy hr hr2 hx' hy'
                  go_wp2_with fail
                  go_region
                  go_wp2_with fail
                  go_roundg g
                  case measure => omega
                  case rel => exact ⟨k + 1, true, by omega, by go_num, rfl, T, Lib.hid (fun h => nomatch h), Lib.hid (fun _ => ⟨HH0.out, HT.out⟩)⟩
                · have d3 := list_ne hxy
                  have HNo : Hid (R = false) := Lib.hid (by rw [HRR.out]; exact prefix_false hx' hy' hxy)
                  clear hx hy hr hr2 hx' hy' hxy
                  go_wp2_with fail
                  go_region
                  go_wp2_with fail
                  go_roundg g
                  case measure => omega
                  case rel => exact ⟨k + 1, false, by omega, by go_num, rfl, T, Lib.hid (fun _ => HNo.out), Lib.hid (fun h => nomatch h)⟩
            · have j1 : ¬ (k : Int) < (ys.length : Int) := by omega
              obtain rfl : R = true := by
                rw [HRR.out]
                refine prefix_true ?_
                have h := HPre.out
                rw [show k = ys.length by omega] at h
                exact h
              go_wp2_with fail
              go_meet
              case rel => exact ⟨rfl, hB⟩
      case rest =>
        obtain ⟨rfl, hB⟩ := hcut
        have HB4 := Lib.hid (HB.out.trans (hB.out.mono HB.out.size))
        have HV4 := Lib.hid (HV3.out.after hB.out)
        have HX4 := Lib.hid (HX.out.after hB.out)
        have HM4 := Lib.hid (HM3.out.below hB.out)
        have KW := Lib.hid (within_any p t wc HM4.out (by omega) (by omega))
        rw [HR.out] at KW
        clear HB HV3 HX HM3 HY hB hstart hyes HW0 hd HOY
        go_wp2_with fail
        refine KW.out.mono ?_
        clear KW
        rintro e w5 ⟨rfl, hb⟩
        have HB5 := Lib.hid (HB4.out.trans (hb.mono HB4.out.size))
        have HV5 := Lib.hid (HV4.out.after hb)
        have HX5 := Lib.hid (HX4.out.after hb)
        have HM5 := Lib.hid (HM4.out.below hb)
        clear HB4 HV4 HX4 HM4 hb
        have d1 : (R != R) = false := by cases R <;> rfl
        have hO := OwnS.made w5 w5.heap.size (Nat.le_refl _) w5.heap.size rfl
        have hB := (Below.refl w5.heap.size w5).alloc (Nat.le_refl _) (.cells #[] 9)
        have HO := Lib.hid hO
        have HBA := Lib.hid hB
        obtain ⟨_, _, e1, _, _, hr⟩ := HX5.out.after hB
        cases e1
        have HRx := Lib.hid hr
        have hbs : w5.heap.size ≤ (w5.alloc (.cells #[] 9)).heap.size := hB.size
        have hml : 0 + xs.length ≤ maxLen := by simp only [maxLen]; omega
        clear hO hB hr
        obtain ⟨n6, hn6⟩ : ∃ n6, xs.length + ms.length = n6 := ⟨_, rfl⟩
        have HN6 := Lib.hid hn6
        have hml2 : n6 ≤ maxLen := by simp only [maxLen]; omega
        have hby : n6 * 16 ≤ 140737488355328 := by omega
        clear hn6
        go_wp2_with (first
          | (at_builtin; refine wpl_append_vals strTy rfl (.tmp 75) (.tmp 76) rfl 0 rfl HO.out _ _ _ (xs.map Value.string) xs.length (by simp) rfl HRx.out str_one (by omega) hml hbs xs.length (by omega) ?_; intro A6 c6 w6 O6 g6 h6
             have HBW := Lib.hid (HBA.out.grown g6 hbs fun k hk => (World.ownsRow.lt HO.out k hk).1)
             have HO6 : Hid (OwnS w6 w5.heap.size (.slice A6 xs.length c6) xs) := Lib.hid (by unfold OwnS; simpa using O6)
             have hbs6 := HBW.out.size
             have HRm := Lib.hid (show Row w6 w6.heap.size A (ms.map Value.string) from (by obtain ⟨_, _, e1, _, _, hr⟩ := HV5.out.after HBW.out; cases e1; exact hr))
             clear O6 g6 h6)
          | (at_builtin; refine wpl_append_vals strTy rfl (.tmp 77) (.tmp 78) rfl xs.length rfl HO6.out _ _ _ (ms.map Value.string) ms.length (by simp) rfl HRm.out str_one (by rw [HN6.out]; exact hby) (by rw [HN6.out]; exact hml2) hbs6 n6 HN6.out ?_; intro A7 c7 w7 O7 g7 h7))
        have HO7 : Hid (OwnS w7 w5.heap.size (.slice A7 n6 c7) (xs ++ ms)) := Lib.hid (by
          unfold OwnS
          rw [List.map_append, List.length_append, HN6.out]
          exact O7)
        have HBW7 := Lib.hid (HBW.out.grown g7 hbs6 fun k hk => (World.ownsRow.lt HO6.out k hk).1)
        have HB7 := Lib.hid (HB5.out.trans (HBW7.out.mono HB5.out.size))
        have HM7 := Lib.hid (HM5.out.below HBW7.out)
        have KJ := Lib.hid (refJoin_any _ (xs ++ ms) w7 HO7.out.strs)
        clear O7 g7 h7 HO6 HBW HBW7 HBA HRx HRm HO7 HX5 HV5 HM5 HB5 hbs6 hml2 hby hbs hml HO
        go_wp2_with fail
        refine KJ.out.mono ?_
        clear KJ
        rintro e w8 (⟨q, rfl, hq, rfl⟩ | ⟨rfl, hq, rfl⟩)
        · rcases HOX.out with ⟨rfl, h1⟩ | ⟨rfl, _, _⟩
          · have hdl : dl (xs ++ ms) = dl xs ++ dl ms := by simp [dl]
            rw [hdl] at hq
            have hw := within_more h1 hq
            have hqs : q.size ≤ 1000000 := by
              have := joinL_length hq
              rw [← Lib.size_eq] at this
              omega
            have hdm : decide (dl ms = []) = ((ms.length : Int) == 0) := by
              cases ms with
              | nil => rfl
              | cons m ms => simp [dl]; omega
            rw [hdm] at hw
            have K1 := Lib.hid (within_any q p w7 HM7.out hqs (by omega))
            rw [hw.1] at K1
            have K2 : Hid (∀ w, MaxI w → Calls Tryd.prog 14 #[.string p, .string q] w fun e w' => e = .returned (.bool ((ms.length : Int) == 0)) ∧ Below w.heap.size w w') := Lib.hid fun w hm => by
              have k := within_any p q w hm (by omega) hqs
              rw [hw.2] at k
              exact k
            obtain ⟨M, hM⟩ : ∃ M, ((ms.length : Int) == 0) = M := ⟨_, rfl⟩
            rw [hM] at K2
            clear hw hq h1 hdl hdm hqs HOX
            go_wp2_with fail
            refine K1.out.mono ?_
            clear K1
            rintro e w9 ⟨rfl, hb⟩
            have HB9 := Lib.hid (HB7.out.trans (hb.mono HB7.out.size))
            have HM9 := Lib.hid (HM7.out.below hb)
            clear hb
            go_wp2_with fail
            refine (K2.out _ HM9.out).mono ?_
            clear K2
            rintro e w10 ⟨rfl, hb⟩
            have d2 : (M == M) = true := by cases M <;> rfl
            go_wp2_with fail
            go_ret
            exact ⟨rfl, HB9.out.trans (hb.mono HB9.out.size)⟩
          · clear hq HOX
            go_wp2_with fail
            go_ret
            exact ⟨rfl, HB7.out⟩
        · rcases HOX.out with ⟨rfl, h1⟩ | ⟨rfl, _, _⟩
          · clear hq h1 HOX
            go_wp2_with fail
            go_ret
            exact ⟨rfl, HB7.out⟩
          · clear hq HOX
            go_wp2_with fail
            go_ret
            exact ⟨rfl, HB7.out⟩
end Go.Proofs.YteihffmenfobaaaDoor

