/- The walk of HamOdd: it answers true, and changes nothing that was there. No condition. -/
import Derived.Test.YtoknobcicpokoaaHamMap
import Derived.Test.YtoknobcicpokoaaHamMends
import Derived.Test.YtoknobcicpokoaaOpen
namespace Go.Proofs.Ytoknobcicpokoaa
open Go.RowKit Go.Maps
set_option maxRecDepth 100000 in
set_option maxHeartbeats 8000000 in
theorem odd_main (L : List UInt8) (hL : L.length = 256) (v : Value) (zs : List Int) (w : World) (hn : Nums w w.heap.size .i64 v zs) (h50 : zs.length ≤ 50) : Calls Try.prog 7 #[.agg (cl L), v] w fun e w' => e = .returned (.bool true) ∧ Below w.heap.size w w' := by
  obtain ⟨A, cap, rfl, hl1, hl2, hrow, hwf⟩ := hn
  have A0 := Lib.hid (Arr.new w hL)
  have z := zeroData
  have hmm := @run_makeMap Try.prog
  obtain ⟨y, hy⟩ : ∃ y, y = HM.ck L := ⟨_, rfl⟩
  have hy2 : y < 8192 := hy ▸ HM.ck_lt L
  have k1 := check_any L hL
  rw [← hy] at k1
  have HY := Lib.hid hy
  have HR := Lib.hid hrow
  clear hy hrow hl1 hl2
  have d1 : decide ((50 : Int) < (zs.length : Int)) = false := by simp; omega
  go_enter Try.func7, Try.ntmps7
  go_wp2_with fail
  ((with_reducible refine (speaks_any _).mono ?_); rintro e w2 ⟨rfl, hb2⟩)
  have hb : Below w.heap.size w w2 := ((Below.refl _ _).alloc (Nat.le_refl _) _).trans (hb2.mono (by simp))
  have A2' := A0.out.after hb2
  have A2 : Arr w2.drew w.heap.size L := A2'
  have hA2lt := A2'.lt
  have hb' := hb.drew
  clear A0 hb2 A2'
  go_wp2_with fail
  refine wp_region_held_drew (S := fun w' => Arr w' w.heap.size L) (by kernel_rfl) A2 (fun _ => ?_)
  refine wpAnyH_take (i := 0) (v := .agg (cl L)) rfl (by kernel_rfl) (by kernel_rfl) (by kernel_rfl) (fun _ _ _ h => h) (yields_load (.tmp 2) rfl rfl rfl (fun _ h => h)) A2 ?_
  refine wpAnyH_take (i := 1) (v := .agg (cl L)) rfl (by kernel_rfl) (by kernel_rfl) (by kernel_rfl) (fun _ _ _ h => h) (yields_load (.tmp 2) rfl rfl rfl (fun _ h => h)) A2 ?_
  refine wpAnyH_ready (rs := [2, 3]) (by kernel_rfl) (by simp) (AllReadyH.cons rfl (fun K hK => ?_) (AllReadyH.cons rfl (fun K hK => ?_) AllReadyH.nil))
  case' refine_1 =>
    go_simp
    ((with_reducible refine (k1 _).mono ?_); rintro e w3 ⟨rfl, hb3⟩)
    have A3 := A2.after hb3
    have hb4 := hb'.trans (hb3.mono hb'.size)
    refine hK.out _ _ A3 (fun _ => ?_)
    clear hK K A2 hb3 hb' hb
    refine wpAnyH_ready (rs := [3]) (by kernel_rfl) (by simp) (AllReadyH.cons rfl (fun K hK => ?_) AllReadyH.nil)
    go_simp
    have A4 : Arr (w3.alloc (.cells (cl HM.zeros) 23)) w.heap.size L := A3.alloc _
    refine hK.out _ _ A4 (fun _ => ?_)
    clear hK K A4
    refine wpAnyH_ready (rs := [4]) (by kernel_rfl) (by simp) (AllReadyH.cons rfl (fun K hK => ?_) AllReadyH.nil)
    rw [if_pos (by rfl)]
    refine op_store (.tmp 5) (.tmp 22) rfl (Arr.new w3 HM.zeros_length) rfl hL rfl ?_
    intro w5 A5 g4
    have A6 := A3.kept_new g4
    have hb5 := kept_new hb4 g4
    refine hK.out _ _ A6 (fun _ => ?_)
    have hle := hb4.size
    clear hK K A3 g4 hb4
    obtain ⟨g5, hg5⟩ : ∃ g5, g5 = w3.heap.size := ⟨_, rfl⟩
    rw [← hg5] at A5 hle ⊢
    clear hg5
    refine wpAnyH_ready (rs := [5]) (by kernel_rfl) (by simp) (AllReadyH.cons rfl (fun K hK => ?_) AllReadyH.nil)
    go_simp
    refine hK.out _ _ A6 (fun _ => ?_)
    clear hK K
    refine wpAnyH_done (by kernel_rfl) ?_ _
    go_wp2_with fail
    clear A6
  case' refine_2 =>
    go_simp
    have A4 : Arr (w2.alloc (.cells (cl HM.zeros) 23)).drew w.heap.size L := Arr.alloc (w := w2) A2 _
    have R4 : Arr (w2.alloc (.cells (cl HM.zeros) 23)).drew w2.heap.size HM.zeros := Arr.new w2 HM.zeros_length
    have hb4 := (hb.alloc hb.size (.cells (cl HM.zeros) 23)).drew
    have hle := hb.size
    refine hK.out _ _ A4 (fun _ => ?_)
    clear hK K A2 hb' hb
    refine wpAnyH_ready (rs := [2]) (by kernel_rfl) (by simp) (AllReadyH.cons rfl (fun K hK => ?_) AllReadyH.nil)
    go_simp
    ((with_reducible refine (k1 _).mono ?_); rintro e w3 ⟨rfl, hb3⟩)
    have A5' := A4.after hb3
    have R5 := R4.after hb3
    have hb6 := hb4.trans (hb3.mono hb4.size)
    refine hK.out _ _ A5' (fun _ => ?_)
    clear hK K A4 R4 hb3 hb4
    refine wpAnyH_ready (rs := [4]) (by kernel_rfl) (by simp) (AllReadyH.cons rfl (fun K hK => ?_) AllReadyH.nil)
    rw [if_pos (by rfl)]
    refine op_store (.tmp 5) (.tmp 22) rfl R5 rfl hL rfl ?_
    intro w5 A5 g4
    have hne : w.heap.size ≠ w2.heap.size := Nat.ne_of_lt (Nat.lt_of_lt_of_le hA2lt (Nat.le_refl _))
    have A6 := A5'.grown g4 hne
    have hb5 := hb6.grown g4 hb6.size (fun k e => by cases e; exact hle)
    refine hK.out _ _ A6 (fun _ => ?_)
    clear hK K A5' R5 g4 hb6
    obtain ⟨g5, hg5⟩ : ∃ g5, g5 = w2.heap.size := ⟨_, rfl⟩
    rw [← hg5] at A5 hle ⊢
    clear hg5
    refine wpAnyH_ready (rs := [5]) (by kernel_rfl) (by simp) (AllReadyH.cons rfl (fun K hK => ?_) AllReadyH.nil)
    go_simp
    refine hK.out _ _ A6 (fun _ => ?_)
    clear hK K
    refine wpAnyH_done (by kernel_rfl) ?_ _
    go_wp2_with fail
    clear A6
  all_goals
    have hlt5 := A5.lt
    have hb6 := hb5.alloc hb5.size (.map #[] 0)
    have M0 : (w5.alloc (.map #[] 0)).ownsMap (H := Unit) Try.prog 3 (plainElem Try.prog 4) w5.heap.size 0 (.map []) := World.ownsMap_made w5 _ _ _
    have A7 := A5.alloc (.map #[] 0)
    have hle5 := hb5.size
    have P0 : HM.par L y = 0 := HY.out ▸ HM.ck_par L
    obtain ⟨B, hBB⟩ : ∃ B, B = w5.heap.size := ⟨_, rfl⟩
    rw [← hBB] at M0 hlt5 hle5 ⊢
    clear A5 hb5 hBB k1
    go_loopw [6, 28] (fun c i wr => ∃ k : Nat, k ≤ zs.length ∧ i = .int .i64 k ∧ ∃ (C : Nat) (D : DataW Unit) (f : Nat → Bool) (d : List UInt8), c = .int .u16 (C : Int) ∧ C < 65536 ∧ Arr wr g5 d ∧ HM.par d C = k % 2 ∧ wr.ownsMap Try.prog 3 (plainElem Try.prog 4) B k D ∧ Tog D f ∧ parB f 2061 = decide (k % 2 = 1) ∧ Below w.heap.size w wr) (fun _ i _ => zs.length - (intOf i).toNat)
    case atStart => exact ⟨0, Nat.zero_le _, rfl, y, .map [], fun _ => false, L, rfl, by omega, A7, P0, M0, tog_none, parB_false _, hb6⟩
    case round =>
      obtain ⟨k, hk, rfl, C, D, f, d, rfl, hC, hA, hpar, hown, hT, hpB, hB⟩ := hrel
      clear A7 M0 hb6
      have HA := Lib.hid hA
      have HO := Lib.hid hown
      have HB := Lib.hid hB
      have HT := Lib.hid hT
      have HP := Lib.hid hpar
      have HPB := Lib.hid hpB
      clear hA hown hB hT hpar hpB
      by_cases hlt : k < zs.length
      · obtain ⟨a, rfl, hab, hcell⟩ := HR.out.at_ (k := k) (by simpa using hlt)
        have hc2 := (HB.out.cell (p := a.add k) (by rw [add_block]; exact hab)).trans hcell
        rw [List.getElem_map] at hc2
        obtain ⟨q, hq⟩ : ∃ q, q = zs[k] := ⟨_, rfl⟩
        rw [← hq] at hc2
        obtain ⟨p, x, hp, hx, m1, m2⟩ := mask16 q
        clear hq hcell
        have hd := HA.out.2
        have hm : IsMap D := by
          obtain ⟨es, e, _⟩ := HO.out.entries keyLaw
          exact ⟨es, e⟩
        have k2 := turned_any d hd C hC x hx
        have hpt := HM.par_tu d C x hd hx
        have hC2 := HM.tuC_lt hC hx
        have hd2 : (HM.tuL d x).length = 256 := by rw [HM.tuL_length, hd]
        obtain ⟨C2, hCC⟩ : ∃ C2, C2 = HM.tuC C x := ⟨_, rfl⟩
        obtain ⟨d2, hdd⟩ : ∃ d2, d2 = HM.tuL d x := ⟨_, rfl⟩
        rw [← hCC, ← hdd] at k2 hpt
        rw [← hCC] at hC2
        rw [← hdd] at hd2
        have HPT := Lib.hid hpt
        have HK : Hid (keyOf Try.prog 3 (.int .i64 ((p : Int) % 2061)) = some (ky x)) := Lib.hid (by rw [m2]; exact keyOf_int_mk Try.underlying3 (ky_wf hx))
        rw [← m2] at k2
        clear hCC hdd hpt m2
        go_wp2_with (first
          | (at_lookup; refine wpl_lookup_bool rfl (.tmp 37) (.tmp 38) 40 rfl keyLaw Try.underlying40 Try.underlying4 (zeroBool _) rfl HO.out _ (ky x) rfl HK.out (f x) (HT.out.1 x hx) ?_)
          | (at_mapUpdate; refine wpList_mapUpdate_own _ rfl _ _ _ 40 rfl 3 4 keyLaw Try.underlying40 _ B k _ rfl HO.out (by unfold maxLen; omega) _ _ (ky x) rfl rfl HK.out _ [] (plainElem_bool Try.underlying4 _) ?_; intro w6 hown6 hg6)
          | (with_reducible refine wpl_load (.tmp 5) rfl rfl (HA.out.grown hg6 (Nat.ne_of_lt hlt5)) rfl ?_))
        have A6 := HA.out.grown hg6 (Nat.ne_of_lt hlt5)
        have hb7 := HB.out.grown hg6 HB.out.size (fun j e => by cases e; exact hle5)
        ((with_reducible refine (k2 _).mono ?_); rintro e w7 ⟨rfl, hb8⟩)
        have A8 := A6.after hb8
        have hown8 := hown6.kept (grown_below hb8) (by simp)
        have hb9 := hb7.trans (hb8.mono hb7.size)
        clear hg6 hown6 A6 hb7 hb8 HA HO HB
        go_wp2_with (with_reducible refine wpl_store (.tmp 5) (.tmp 46) rfl rfl A8 rfl hd2 rfl ?_; intro w9 A9 g9 e9)
        have hown9 := hown8.kept g9 (fun e => by have := Option.some.inj e; omega)
        have hb10 := hb9.grown g9 hb9.size (fun j e => by cases e; exact hle)
        clear hown8 A8 hb9 g9 e9
        go_roundw
        case rel =>
          refine ⟨k + 1, by omega, by go_num, C2, _, fun i => if i = x then !f x else f i, d2, rfl, hC2, A9, ?_, hown9, tog_put HT.out hm hx _, ?_, hb10⟩
          · rw [HPT.out, HP.out]
            omega
          · have e1 := parB_flip (f := f) (f' := fun i => if i = x then !f x else f i) (j := x) (by simp) (fun i hi => by simp [hi]) 2061
            rw [e1, HPB.out, decide_eq_true hx]
            rcases HM.mod2 k with e | e
            · rw [decide_eq_false (by omega : ¬ k % 2 = 1), decide_eq_true (by omega : (k + 1) % 2 = 1)]; rfl
            · rw [decide_eq_true e, decide_eq_false (by omega : ¬ (k + 1) % 2 = 1)]; rfl
        case measure => simp [intOf]; omega
      · obtain rfl : k = zs.length := by omega
        clear hlt hk
        go_wp2_with (at_range; refine wpList_range_own _ rfl _ 40 rfl 3 4 keyLaw Try.underlying40 _ B _ _ rfl HO.out ?_; intro w6 hrg0 hg6 hs6)
        go_frame
        have hB6 := HB.out.grown hg6 HB.out.size (fun j e => by cases e)
        have hA6 := HA.out.after ⟨hg6.os, hg6.tape, hg6.output, hg6.size, fun j hj => hg6.block j hj (by simp)⟩
        have hne5 : g5 ≠ wr.heap.size := Nat.ne_of_lt HA.out.lt
        have hler := HB.out.size
        obtain ⟨r, hr⟩ : ∃ r, r = wr.heap.size := ⟨_, rfl⟩
        rw [← hr] at hrg0 hne5 hler ⊢
        clear hr hg6 hs6 HA HB HO
        go_loopw [11] (fun o w7 => ∃ left cnt, w7.ranges Try.prog 3 (plainElem Try.prog 4) B r zs.length D left cnt ∧ o = .bool (parB (fun i => f i && !left (ky i)) 2061) ∧ Arr w7 g5 d ∧ Below w.heap.size w w7) (fun _ w7 => w7.rangeLeft B r)
        case atStart => exact ⟨_, _, hrg0, by rw [tog_start HT.out], hA6, hB6⟩
        case round =>
          obtain ⟨left, cnt, hrg, rfl, hA7, hB7⟩ := hrel
          clear hrg0 hA6 hB6
          obtain ⟨o, ho⟩ : ∃ o, o = parB (fun i => f i && !left (ky i)) 2061 := ⟨_, rfl⟩
          rw [← ho]
          have HOO := Lib.hid ho
          have HA := Lib.hid hA7
          have HB := Lib.hid hB7
          clear ho hA7 hB7
          go_wp2_with (at_next; refine wpl_next_ib rfl (.tmp 50) rfl keyLaw Try.underlying3 Try.underlying4 r left cnt rfl hrg ?_ ?_)
          · intro hl0
            have hf := fix_any d HA.out.2 C hC
            obtain ⟨E, hE⟩ : ∃ E, E = (HM.fixM d C).1 := ⟨_, rfl⟩
            obtain ⟨n, hn⟩ : ∃ n, n = (HM.fixM d C).2.1 := ⟨_, rfl⟩
            obtain ⟨e, he⟩ : ∃ e, e = (HM.fixM d C).2.2 := ⟨_, rfl⟩
            have hE2 : E.length = 256 := hE ▸ HM.fixM_length d C HA.out.2
            have hodd : HM.par d C = 1 → n = 0 ∧ e = 21 ∨ n = 1 ∧ e = 0 := fun h => by rw [hn, he]; exact HM.fix_odd d C h
            rw [← hE, ← hn, ← he] at hf
            rw [tog_end f hl0, HPB.out] at HOO
            rw [HP.out] at hodd
            clear hE hn he
            rcases HM.mod2 zs.length with h | h
            · rw [decide_eq_false (by omega : ¬ zs.length % 2 = 1)] at HOO
              obtain rfl := HOO.out
              clear hodd h
              go_wp2_with (with_reducible refine wpl_load (.tmp 5) rfl rfl HA.out rfl ?_)
              ((with_reducible refine (hf _).mono ?_); rintro e w8 ⟨rfl, hb8⟩)
              have hB8 := HB.out.trans (hb8.mono HB.out.size)
              go_wp2_with (with_reducible refine wpl_store (.tmp 14) (.tmp 62) rfl rfl (Arr.new w8 HM.zeros_length) rfl hE2 rfl ?_; intro w9 A9 g9 e9)
              go_ret
              exact ⟨rfl, kept_new hB8 g9⟩
            · rw [decide_eq_true h] at HOO
              obtain rfl := HOO.out
              rcases hodd h with ⟨rfl, rfl⟩ | ⟨rfl, rfl⟩
              all_goals
                go_wp2_with (with_reducible refine wpl_load (.tmp 5) rfl rfl HA.out rfl ?_)
                ((with_reducible refine (hf _).mono ?_); rintro e w8 ⟨rfl, hb8⟩)
                have hB8 := HB.out.trans (hb8.mono HB.out.size)
                go_wp2_with (with_reducible refine wpl_store (.tmp 14) (.tmp 62) rfl rfl (Arr.new w8 HM.zeros_length) rfl hE2 rfl ?_; intro w9 A9 g9 e9)
                go_ret
                exact ⟨rfl, kept_new hB8 g9⟩
          · intro x c w8 cnt8 hlx hat hrg1 hlt8 hg8 hen
            have A8 := HA.out.grown hg8 hne5
            have hb8 := HB.out.grown hg8 HB.out.size (fun j e => by cases e; exact hler)
            have e8 : (o != c.b) = parB (fun i => f i && !(left (ky i) && !(ky i).sameKey (.int .i64 x))) 2061 := by rw [tog_step HT.out hlx hat, HOO.out]
            have HE := Lib.hid e8
            clear e8
            go_wp2
            go_roundw
            case rel => exact ⟨_, cnt8, hrg1, by rw [← HE.out]; rfl, A8, hb8⟩
            case measure => rw [hrg1.left_eq, hrg.left_eq]; exact hlt8
set_option maxRecDepth 100000 in
theorem odd_long (L : List UInt8) (v : Value) (zs : List Int) (w : World) (hn : Nums w w.heap.size .i64 v zs) (h50 : 50 < zs.length) : Calls Try.prog 7 #[.agg (cl L), v] w fun e w' => e = .returned (.bool true) ∧ Below w.heap.size w w' := by
  obtain ⟨A, cap, rfl, hl1, hl2, hrow, hwf⟩ := hn
  clear hl1 hl2 hrow hwf
  have d1 : decide ((50 : Int) < (zs.length : Int)) = true := by simp; omega
  go_enter Try.func7, Try.ntmps7
  go_wp2_with fail
  ((with_reducible refine (speaks_any _).mono ?_); rintro e w2 ⟨rfl, hb2⟩)
  have hb : Below w.heap.size w w2 := ((Below.refl _ _).alloc (Nat.le_refl _) _).trans (hb2.mono (by simp))
  go_wp2
  go_ret
  exact ⟨rfl, hb⟩
theorem hamOdd_any (v u : Value) (w : World) (h : ∃ L : List UInt8, v = .agg (cl L) ∧ L.length = 256) (h1 : ∃ zs, Nums w w.heap.size .i64 u zs) : Calls Try.prog 7 #[v, u] w fun e w' => e = .returned (.bool true) ∧ Below w.heap.size w w' := by
  obtain ⟨L, rfl, hL⟩ := h
  obtain ⟨zs, hz⟩ := h1
  by_cases h50 : zs.length ≤ 50
  · exact odd_main L hL u zs w hz h50
  · exact odd_long L u zs w hz (by omega)
end Go.Proofs.Ytoknobcicpokoaa
