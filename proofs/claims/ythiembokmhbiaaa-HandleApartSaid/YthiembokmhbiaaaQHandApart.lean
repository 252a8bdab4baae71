/- The walk of HandleApart: it answers true, and changes nothing that was there. No condition. -/
import Derived.Test.YthiembokmhbiaaaQHandPlays
import Derived.Maps.OwnOps
import Derived.Maps.OwnSet
import Derived.Maps.RangeWalk
import Derived.Maps.Views
namespace Go.Proofs.Ythiembokmhbiaaa
open Go.RowKit Go.Maps
theorem hKey : Keyed Try.prog 3 := int_keyed Try.underlying3
theorem hZero (w : World) : (zeroValue 3).run Try.prog w = .ok (.int .i64 0) w := by kernel_rfl
theorem wfH {z : Int} (h1 : -9223372036854775808 ≤ z) (h2 : z < 9223372036854775808) : (Lit.int .i64 z).wf = true := by
  simp only [Lit.wf, Bool.and_eq_true, IntKind.min, IntKind.max, IntKind.signed, IntKind.bits]
  simp
  omega
theorem keyH {z : Int} (h : (Lit.int .i64 z).wf = true) : keyOf Try.prog 3 (.int .i64 z) = some (.int .i64 z) := keyOf_int_mk Try.underlying3 h
theorem slotOf_set {S : List (Bool × Int)} (h : S.length = 6) {k : Nat} (hk : k < 6) (s : Bool × Int) (y : Int) : slotOf (S.set k s) y = if y = (k : Int) + 1 then s else slotOf S y := by
  by_cases hy : 1 ≤ y ∧ y ≤ 6
  · obtain ⟨m, rfl, hm⟩ : ∃ m : Nat, y = (m : Int) + 1 ∧ m < 6 := ⟨(y - 1).toNat, by omega, by omega⟩
    rw [slotOf_in hm, slotOf_in hm, List.getD_eq_getElem?_getD, List.getD_eq_getElem?_getD, List.getElem?_set]
    by_cases e : k = m
    · subst e
      rw [if_pos rfl, if_pos (by omega), if_pos rfl]
      rfl
    · rw [if_neg e, if_neg (by omega)]
  · rw [slotOf_out (by omega), slotOf_out (by omega), if_neg (by omega)]
theorem slot_pos {S : List (Bool × Int)} {x : Int} (h : (slotOf S x).1 = true) : 1 ≤ x ∧ x ≤ 6 := by
  by_cases hh : 1 ≤ x ∧ x ≤ 6
  · exact hh
  · rw [slotOf_out (by omega)] at h
    cases h
theorem slotOf_close {S : List (Bool × Int)} (h : S.length = 6) {x : Int} (hx : (slotOf S x).1 = true) (y : Int) : slotOf (closeS S x) y = if y = x then (false, 0) else slotOf S y := by
  have hp := slot_pos hx
  unfold closeS
  rw [if_pos hx, slotOf_set h (by omega), show ((x - 1).toNat : Int) + 1 = x by omega]
/-- the map D tells the open slots -/
def MD (D : DataW Unit) (S : List (Bool × Int)) : Prop := ∀ x : Int, Maps.has D (.int .i64 x) = (slotOf S x).1 ∧ ((slotOf S x).1 = true → ∀ z, D.atKey (.int .i64 x) z = .lit (.int .i64 (slotOf S x).2))
theorem hS0_shut (x : Int) : slotOf hS0 x = (false, 0) := by
  unfold slotOf
  split
  · have hn : (x - 1).toNat < 6 := by omega
    obtain ⟨m, hm⟩ : ∃ m, m = (x - 1).toNat := ⟨_, rfl⟩
    rw [← hm] at hn ⊢
    rcases (show m = 0 ∨ m = 1 ∨ m = 2 ∨ m = 3 ∨ m = 4 ∨ m = 5 by omega) with rfl | rfl | rfl | rfl | rfl | rfl <;> rfl
  · rfl
theorem MD.start : MD (.map []) hS0 := fun x => by
  rw [hS0_shut]
  exact ⟨rfl, fun h => by cases h⟩
theorem MD.put {D : DataW Unit} {S : List (Bool × Int)} (h : MD D S) (hm : IsMap D) (h6 : S.length = 6) {k : Nat} (hk : k < 6) (n : Int) : MD (D.put (.int .i64 ((k : Int) + 1)) (.lit (.int .i64 n))) (S.set k (true, n)) := fun x => by
  rw [slotOf_set h6 hk]
  by_cases e : x = (k : Int) + 1
  · subst e
    rw [if_pos rfl]
    exact ⟨has_put_same hm (by unfold WideAt.IsKeyLit; trivial) _, fun _ z => atKey_put_same hm (by unfold WideAt.IsKeyLit; trivial) _ z⟩
  · rw [if_neg e]
    have hne : (Lit.int .i64 x) ≠ .int .i64 ((k : Int) + 1) := fun h => e (Lit.int.inj h).2
    exact ⟨by rw [has_put_other hne]; exact (h x).1, fun ht z => by rw [atKey_put_other hne]; exact (h x).2 ht z⟩
/-- just the first i slots are open -/
def Upto6 (S : List (Bool × Int)) (i : Nat) : Prop := ∀ k s, S[k]? = some s → s.1 = decide (k < i)
theorem upto_fst {S : List (Bool × Int)} {i : Nat} (h : Upto6 S i) (h6 : S.length = 6) : fstS S = min i 6 := by
  have hle := fst_le S
  have key : ∀ j, j ≤ min i 6 → j ≤ fstS S := by
    intro j
    induction j with
    | zero => intro _; omega
    | succ j ih =>
      intro hj
      obtain ⟨s, hs⟩ : ∃ s, S[j]? = some s := ⟨_, List.getElem?_eq_getElem (by omega)⟩
      exact fst_open (ih (by omega)) hs (by rw [h j s hs]; simp; omega)
  have h1 := key _ (Nat.le_refl _)
  by_cases hi : i < 6
  · obtain ⟨s, hs⟩ : ∃ s, S[i]? = some s := ⟨_, List.getElem?_eq_getElem (by omega)⟩
    have := fst_shut (by omega) hs (by rw [h i s hs]; simp)
    omega
  · omega
theorem Upto6.next {S : List (Bool × Int)} {i : Nat} (h : Upto6 S i) (n : Int) : Upto6 (S.set i (true, n)) (i + 1) := fun k s hs => by
  rw [List.getElem?_set] at hs
  by_cases e : i = k
  · subst e
    rw [if_pos rfl] at hs
    split at hs
    · cases hs; simp
    · cases hs
  · rw [if_neg e] at hs
    rw [h k s hs]
    simp; omega
theorem Upto6.more {S : List (Bool × Int)} {i : Nat} (h : Upto6 S i) (h6 : S.length = 6) (hi : 6 ≤ i) : Upto6 S (i + 1) := fun k s hs => by
  rw [h k s hs]
  have := (List.getElem?_eq_some_iff.1 hs).1
  simp; omega
theorem Upto6.start : Upto6 hS0 0 := fun k s hs => by
  unfold hS0 at hs
  rw [List.getElem?_replicate] at hs
  split at hs
  · cases hs; rfl
  · cases hs
theorem uses_shut {S : List (Bool × Int)} (h6 : S.length = 6) (h : ∀ x : Int, (slotOf S x).1 = false) (n : Int) : usesS S n = false :=
  uses_not (fun i s hi hs ht => by
    have := h ((i : Int) + 1)
    rw [slotOf_in hi, List.getD_eq_getElem?_getD, hs, Option.getD_some, ht.1] at this
    cases this) h6
/-- the program's table, and the law's map -/
structure HMap (w w' : World) (g B n : Nat) (S : List (Bool × Int)) (D : DataW Unit) : Prop where
  t : HT w' g S
  m : w'.ownsMap Try.prog 3 (plainElem Try.prog 3) B n D
  gw : w.heap.size ≤ g
  bw : w.heap.size ≤ B
  ne : g ≠ B
  b : Below w.heap.size w w'
set_option maxRecDepth 100000 in
set_option maxHeartbeats 8000000 in
theorem handleApart_any (v : Value) (w : World) (hn : ∃ ns, Nums w w.heap.size .i64 v ns) :
    Calls Try.prog 4 #[v] w fun e w' => e = .returned (.bool true) ∧ Below w.heap.size w w' := by
  obtain ⟨ns, A, c, rfl, hl1, hl2, hrow, hwf⟩ := hn
  have HR := Lib.hid hrow
  have HWF := Lib.hid hwf
  clear hrow hwf
  by_cases hl : 50 < ns.length
  · have d1 : decide ((50 : Int) < (ns.length : Int)) = true := by simp; omega
    go_enter Try.func4, Try.ntmps4
    go_wp2_with fail
    refine (handspeaks_any _).mono ?_
    rintro e' w1 ⟨rfl, b1⟩
    go_wp2_with fail
    go_ret
    exact ⟨rfl, b1⟩
  · have d1 : decide ((50 : Int) < (ns.length : Int)) = false := by simp; omega
    have HLN : Hid (ns.length ≤ 50) := Lib.hid (by omega)
    have hmm := @run_makeMap Try.prog
    clear hl
    go_enter Try.func4, Try.ntmps4
    go_wp2_with fail
    refine (handspeaks_any _).mono ?_
    rintro e' w1 ⟨rfl, b1⟩
    have B1 := Lib.hid b1
    clear b1
    go_wp2_with ((with_reducible refine (new_any _).mono ?_); rintro e w2 ⟨g, rfl, hg, H1, b2⟩; have HN := Lib.hid (World.ownsMap_made (H := Unit) w2 Try.prog 3 (plainElem Try.prog 3)); have HT1 := Lib.hid H1; have HG := Lib.hid hg; have HB2 := Lib.hid b2; clear H1 hg b2)
    clear d1 hmm
    obtain ⟨B, hB⟩ : ∃ B, B = w2.heap.size := ⟨_, rfl⟩
    obtain ⟨W, hW⟩ : ∃ W, W = w2.alloc (.map #[] 0) := ⟨_, rfl⟩
    rw [← hB, ← hW] at HN ⊢
    have P0 : Hid (HMap w W g B 0 hS0 (.map [])) := Lib.hid (by
      have hlt := HT1.out.lt
      have b := B1.out.trans (HB2.out.mono B1.out.size)
      have b2 : Below w2.heap.size w2 W := by rw [hW]; exact (Below.refl _ _).alloc (Nat.le_refl _) _
      exact ⟨HT1.out.after b2, HN.out, Nat.le_trans B1.out.size HG.out, by rw [hB]; exact b.size, by omega, b.trans (b2.mono b.size)⟩)
    clear hB hW HN HT1 HG HB2 B1
    go_loopw [28] (fun i wr => ∃ j : Nat, j ≤ ns.length ∧ i = .int .i64 j ∧ ∃ S D, Hid (HMap w wr g B j S D) ∧ Hid (MD D S) ∧ Hid (Upto6 S j)) (fun i _ => ns.length - (intOf i).toNat)
    case atStart => exact ⟨0, by omega, rfl, hS0, _, P0, Lib.hid MD.start, Lib.hid Upto6.start⟩
    case round =>
      clear P0
      obtain ⟨j, hj, rfl, S, D, hP, hM, hU⟩ := hrel
      have hj2 : j ≤ 50 := by have := HLN.out; omega
      by_cases hlt : j < ns.length
      · obtain ⟨a, rfl, hab, hcell⟩ := HR.out.at_ (k := j) (by simpa using hlt)
        have hc2 := (hP.out.b.cell (p := a.add j) (by rw [add_block]; exact hab)).trans hcell
        rw [List.getElem_map] at hc2
        obtain ⟨q, hq⟩ : ∃ q, q = ns[j] := ⟨_, rfl⟩
        rw [← hq] at hc2
        have hwq : Hid ((Lit.int .i64 q).wf = true) := Lib.hid (by rw [hq]; exact HWF.out _ (List.getElem_mem hlt))
        have HFS := Lib.hid (upto_fst hU.out hP.out.t.six)
        clear hq hcell
        by_cases h6 : j < 6
        · have hf : fstS S = j := by have := HFS.out; omega
          have KO := openT g S q wr hP.out.t
          rw [show openX S = (j : Int) + 1 by unfold openX; rw [if_pos (by omega)]; omega, show openE S = 0 by unfold openE; rw [if_pos (by omega)], hf] at KO
          have hno : Maps.has D (.int .i64 ((j : Int) + 1)) = false := by
            rw [(hM.out _).1, slotOf_in h6, List.getD_eq_getElem?_getD]
            obtain ⟨s, hs⟩ : ∃ s, S[j]? = some s := ⟨_, List.getElem?_eq_getElem (by have := hP.out.t.six; omega)⟩
            rw [hs, Option.getD_some, hU.out j s hs]
            simp
          have KOO := Lib.hid KO
          have HNO := Lib.hid hno
          have HK := Lib.hid (keyH (wfH (z := (j : Int) + 1) (by omega) (by omega)))
          have hm : IsMap D := hP.out.m.isMap
          have HPM := Lib.hid (hM.out.put hm hP.out.t.six h6 q)
          have d6 : ((j : Int) < 6) := by omega
          have HNE : Hid (some B ≠ some g) := Lib.hid (by simp only [ne_eq, Option.some.injEq]; exact fun e => hP.out.ne e.symm)
          clear KO hno hf hm
          have HMP := Lib.hid (fun w3 (G : wr.grownBy w3 (some g)) => hP.out.m.kept G HNE.out)
          have hj3 : j < maxLen := by simp only [maxLen]; omega
          have HV : Hid (plainElem (H := Unit) Try.prog 3 (.int .i64 q) = some (.lit (.int .i64 q), [])) := Lib.hid (plainElem_int Try.underlying3 hwq.out)
          go_wp2_with (first
            | ((with_reducible refine KOO.out.mono ?_); rintro e w3 ⟨rfl, T3, G3⟩; have HM3 := Lib.hid (HMP.out _ G3))
            | (at_lookup; refine wpList_lookup_own_ok_int _ rfl (.tmp 59) (.tmp 60) 43 rfl 3 3 .i64 hKey Try.underlying43 Try.underlying3 (hZero _) B j D rfl HM3.out _ _ rfl HK.out ?_; intro c2 hat hwc; rw [HNO.out])
            | (at_mapUpdate; refine wpList_mapUpdate_own _ rfl _ _ _ 43 rfl 3 3 hKey Try.underlying43 _ B j _ rfl HM3.out hj3 _ _ (.int .i64 ((j : Int) + 1)) rfl rfl HK.out _ [] HV.out ?_; intro w6 hown6 hg6))
          exact ⟨⟨j + 1, by omega, by go_num, _, _, Lib.hid ⟨T3.grown hg6 (by simp only [ne_eq, Option.some.injEq]; exact hP.out.ne), hown6, hP.out.gw, hP.out.bw, hP.out.ne, (hP.out.b.grown G3 hP.out.b.size (fun k e => by cases e; exact hP.out.gw)).grown hg6 (Nat.le_trans hP.out.b.size G3.size) (fun k e => by cases e; exact hP.out.bw)⟩, HPM, Lib.hid (hU.out.next q)⟩, by simp [intOf]; omega⟩
        · have hf : fstS S = 6 := by have := HFS.out; omega
          have KO := openT g S q wr hP.out.t
          rw [show openX S = 0 by unfold openX; rw [if_neg (by omega)], show openE S = 67 by unfold openE; rw [if_neg (by omega)], hf, List.set_eq_of_length_le (by have := hP.out.t.six; omega)] at KO
          have KOO := Lib.hid KO
          have HNE : Hid (some B ≠ some g) := Lib.hid (by simp only [ne_eq, Option.some.injEq]; exact fun e => hP.out.ne e.symm)
          have d6 : ¬ ((j : Int) < 6) := by omega
          have HU6 := Lib.hid (hU.out.more hP.out.t.six (by omega))
          clear KO hf
          go_wp2_with ((with_reducible refine KOO.out.mono ?_); rintro e w3 ⟨rfl, T3, G3⟩)
          exact ⟨⟨j + 1, by omega, by go_num, S, D, Lib.hid ⟨T3, (hP.out.m.kept G3 HNE.out).mono (by omega), hP.out.gw, hP.out.bw, hP.out.ne, hP.out.b.grown G3 hP.out.b.size (fun k e => by cases e; exact hP.out.gw)⟩, hM, HU6⟩, by simp [intOf]; omega⟩
      · obtain rfl : j = ns.length := by omega
        clear hU hlt hj hj2
        obtain ⟨N, hN⟩ : ∃ N, N = ns.length := ⟨_, rfl⟩
        have HPN : Hid (HMap w wr g B N S D) := Lib.hid (by rw [hN]; exact hP.out)
        clear hN
        go_wp2_with (at_range; refine wpList_range_own _ rfl _ 43 rfl 3 3 hKey Try.underlying43 _ B _ _ rfl HPN.out.m ?_; intro w6 hrg0 hg6 hs6)
        go_frame
        have PN : Hid (HT w6 g S ∧ Below w.heap.size w w6) := Lib.hid ⟨hP.out.t.grown hg6 (by simp), hP.out.b.grown hg6 hP.out.b.size (fun k e => by cases e)⟩
        have NE : Hid (g ≠ wr.heap.size ∧ g ≠ B ∧ w.heap.size ≤ wr.heap.size ∧ w.heap.size ≤ g) := Lib.hid ⟨Nat.ne_of_lt hP.out.t.lt, hP.out.ne, hP.out.b.size, hP.out.gw⟩
        obtain ⟨r, hr⟩ : ∃ r, r = wr.heap.size := ⟨_, rfl⟩
        rw [← hr] at hrg0 NE ⊢
        have HRG := Lib.hid hrg0
        clear hr hg6 hs6 hP HPN hrg0
        go_loopw [11] (fun _ w7 => ∃ S2 left cnt, Hid (w7.ranges Try.prog 3 (plainElem Try.prog 3) B r N D left cnt) ∧ Hid (HT w7 g S2) ∧ Hid (Below w.heap.size w w7) ∧ Hid (∀ x : Int, left (.int .i64 x) = (slotOf S2 x).1 ∧ ((slotOf S2 x).1 = true → slotOf S2 x = slotOf S x))) (fun _ w7 => w7.rangeLeft B r)
        case atStart => exact ⟨S, _, _, HRG, Lib.hid PN.out.1, Lib.hid PN.out.2, Lib.hid (fun x => ⟨(hM.out x).1, fun _ => rfl⟩)⟩
        case round =>
          obtain ⟨S2, left, cnt, hrg, hT2, hB2, hL2⟩ := hrel
          clear PN HRG
          go_wp2_with (at_next; refine wpList_next_ranges_ii _ rfl (.tmp 70) rfl 3 3 .i64 .i64 hKey Try.underlying3 Try.underlying3 B r N D left cnt rfl hrg.out ?_ ?_)
          · intro hc0 hl0
            have HUS : Hid (∀ n, usesS S2 n = false) := Lib.hid (uses_shut hT2.out.six (fun x => by rw [← (hL2.out x).1]; exact hl0 _))
            clear hl0 hc0 hrg hL2
            go_wp2_with fail
            go_loopw [103] (fun i w9 => ∃ k : Nat, k ≤ ns.length ∧ i = .int .i64 k ∧ Hid (HT w9 g S2) ∧ Hid (Below w.heap.size w w9)) (fun i _ => ns.length - (intOf i).toNat)
            case atStart => exact ⟨0, by omega, rfl, hT2, hB2⟩
            case round =>
              clear hT2 hB2
              obtain ⟨k, hk, rfl, hT3, hB3⟩ := hrel
              have hk2 : k ≤ 50 := by have := HLN.out; omega
              by_cases hkl : k < ns.length
              · obtain ⟨a, rfl, hab, hcell⟩ := HR.out.at_ (k := k) (by simpa using hkl)
                have hc2 := (hB3.out.cell (p := a.add k) (by rw [add_block]; exact hab)).trans hcell
                rw [List.getElem_map] at hc2
                obtain ⟨q, hq⟩ : ∃ q, q = ns[k] := ⟨_, rfl⟩
                rw [← hq] at hc2
                have KU := uses_any g S2 q wr hT3.out
                rw [HUS.out q] at KU
                have KUU := Lib.hid KU
                clear hq hcell KU
                go_wp2_with ((with_reducible refine KUU.out.mono ?_); rintro e w10 ⟨rfl, b10⟩)
                exact ⟨⟨k + 1, by omega, by go_num, Lib.hid (hT3.out.after b10), Lib.hid (hB3.out.trans (b10.mono hB3.out.size))⟩, by simp [intOf]; omega⟩
              · obtain rfl : k = ns.length := by omega
                go_wp2_with fail
                go_ret
                exact ⟨rfl, hB3.out⟩
          · intro x c w8 cnt' hwx hwc hlx hat hrg8 hcnt hgr8 hsz8 hen8
            have hop : (slotOf S2 x).1 = true := by rw [← (hL2.out x).1]; exact hlx
            have hS2 := (hL2.out x).2 hop
            have hcv : c = (slotOf S2 x).2 := by
              have h1 := (hM.out x).2 (by rw [← hS2]; exact hop) (.lit (.int .i64 0))
              rw [hat, ← hS2] at h1
              simpa using h1
            have hT8 : HT w8 g S2 := hT2.out.grown hgr8 (by simp only [ne_eq, Option.some.injEq]; exact NE.out.1)
            have hB8 : Below w.heap.size w w8 := hB2.out.grown hgr8 hB2.out.size (fun k e => by cases e; exact NE.out.2.2.1)
            have KG := getT g S2 x w8 hT8
            rw [show getX S2 x = c by unfold getX; rw [if_pos hop, hcv], show getE S2 x = 0 by unfold getE; rw [if_pos hop]] at KG
            have KC1 := closeT g S2 x w8 hT8
            rw [show closeA S2 x = 0 by unfold closeA; rw [if_pos hop]] at KC1
            obtain ⟨S3, hS3⟩ : ∃ S3, S3 = closeS S2 x := ⟨_, rfl⟩
            have hsl : ∀ y, slotOf S3 y = if y = x then (false, 0) else slotOf S2 y := fun y => by rw [hS3]; exact slotOf_close hT2.out.six hop y
            have hx3 : (slotOf S3 x).1 = false := by rw [hsl, if_pos rfl]
            have KC2 := fun w9 h => closeT g S3 x w9 h
            rw [show closeA S3 x = 66 by unfold closeA; rw [if_neg (by rw [hx3]; simp)], show closeS S3 x = S3 by unfold closeS; rw [if_neg (by rw [hx3]; simp)]] at KC2
            rw [← hS3] at KC1
            have HL3 : Hid (∀ y : Int, (left (.int .i64 y) && !(Lit.int .i64 y).sameKey (.int .i64 x)) = (slotOf S3 y).1 ∧ ((slotOf S3 y).1 = true → slotOf S3 y = slotOf S y)) := Lib.hid (fun y => by
              rw [hsl]
              by_cases e : y = x
              · subst e
                rw [if_pos rfl, WideAt.sameKey_self (by unfold WideAt.IsKeyLit; trivial)]
                exact ⟨by simp, fun h => by cases h⟩
              · rw [if_neg e, sameKey_ne (fun h => e (Lit.int.inj h).2), (hL2.out y).1]
                exact ⟨by simp, (hL2.out y).2⟩)
            have KGG := Lib.hid KG
            have KC1' := Lib.hid KC1
            have KC2' := Lib.hid KC2
            have HRG8 := Lib.hid hrg8
            have HB8 := Lib.hid hB8
            have dc : (c != c) = false := by simp
            have HLE : Hid (cnt' < cnt ∧ wr.rangeLeft B r = cnt) := Lib.hid ⟨hcnt, hrg.out.left_eq⟩
            clear hop hS2 hcv hT8 hB8 KG KC1 KC2 hS3 hsl hx3 hwx hwc hlx hat hrg8 hcnt hgr8 hsz8 hT2 hB2 hL2 hrg
            go_wp2_with (first
              | ((with_reducible refine KGG.out.mono ?_); rintro e w9 ⟨rfl, rfl⟩)
              | ((with_reducible refine KC1'.out.mono ?_); rintro e w9 ⟨rfl, T9, G9⟩)
              | ((with_reducible refine (KC2'.out _ T9).mono ?_); rintro e w10 ⟨rfl, T10, G10⟩))
            have hrg10 := ((HRG8.out.kept G9 (by simp only [ne_eq, Option.some.injEq]; exact fun e => NE.out.2.1 e.symm) (by simp only [ne_eq, Option.some.injEq]; exact fun e => NE.out.1 e.symm)).kept G10 (by simp only [ne_eq, Option.some.injEq]; exact fun e => NE.out.2.1 e.symm) (by simp only [ne_eq, Option.some.injEq]; exact fun e => NE.out.1 e.symm))
            exact ⟨⟨S3, _, _, Lib.hid hrg10, Lib.hid T10, Lib.hid ((HB8.out.grown G9 HB8.out.size (fun k e => by cases e; exact NE.out.2.2.2)).grown G10 (Nat.le_trans HB8.out.size G9.size) (fun k e => by cases e; exact NE.out.2.2.2)), HL3⟩, by rw [hrg10.left_eq, HLE.out.2]; exact HLE.out.1⟩
end Go.Proofs.Ythiembokmhbiaaa

