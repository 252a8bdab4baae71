/- Several texts of the proof, joined: what each has is said at its head. -/
import Derived.Test.YtaafelhjcmgkdaaDoorQDiskD
import Derived.Test.YtaafelhjcmgkdaaDoorQNandF
import Derived.Test.YtaafelhjcmgkdaaDoorRows
import Derived.Test.YtaafelhjcmgkdaaDoorQCore
import Derived.Deep.Slices
import Derived.Deep.Fields
import Derived.ChangeSame
/- The walk of DiskOrder: it answers true, and changes nothing that was there. Condition: the table of the check sum holds its sixteen numbers. -/
namespace Go.Proofs.YtaafelhjcmgkdaaDoor
open Go.RowKit
theorem wrap_kb (z : Int) : ∃ kb : UInt8, IntKind.u8.wrap z = ((kb.toNat : Nat) : Int) := by
  refine ⟨UInt8.ofNat (IntKind.u8.wrap z).toNat, ?_⟩
  rw [UInt8.toNat_ofNat', IntKind.wrap_u8]
  omega
theorem and_65535d (z : Int) : ∃ y : Nat, bits .and .i64 z 65535 = (y : Int) := by
  have e : (BitVec.ofInt 64 z &&& BitVec.ofInt 64 65535).toNat = (z % 18446744073709551616).toNat % 2 ^ 16 := by
    rw [BitVec.toNat_and, show (BitVec.ofInt 64 65535).toNat = 2 ^ 16 - 1 from rfl, Nat.and_two_pow_sub_one_eq_mod, BitVec.toNat_ofInt]
    rfl
  refine ⟨(z % 18446744073709551616).toNat % 2 ^ 16, ?_⟩
  unfold bits
  show IntKind.i64.wrap ((BitVec.ofInt 64 z &&& BitVec.ofInt 64 65535).toNat : Int) = _
  rw [e, IntKind.wrap_i64]
  omega
theorem low_mod (z : Int) {m : Nat} (hm : 0 < m) : ∃ x : Nat, (bits .and .i64 z 65535).tmod (m : Int) = (x : Int) ∧ x < m := by
  obtain ⟨y, hy⟩ := and_65535d z
  rw [hy]
  have h1 := Nat.mod_lt y hm
  exact ⟨y % m, by rw [Int.tmod_eq_emod_of_nonneg (by omega)]; omega, h1⟩
/-- the element of a slice of numbers, in a later world -/
theorem nums_at {w w' : World} {B c : Nat} {A : Option Addr} {zs : List Int} (h : Nums w B .i64 (.slice A zs.length c) zs) {q : Nat} (hq : q < zs.length) (hb : Below B w w') : ∃ p, A = some p ∧ ∃ z, w'.cell? (p.add q) = some (.int .i64 z) := by
  obtain ⟨A', cap', ev, _, _, hrow, _⟩ := h
  obtain ⟨rfl, _, rfl⟩ := Value.slice.inj ev
  obtain ⟨p2, rfl, hab, hcell⟩ := hrow.at_ (k := q) (by simpa using hq)
  refine ⟨p2, rfl, zs[q], ?_⟩
  have h1 := (hb.cell (p := p2.add q) (by rw [add_block]; exact hab)).trans hcell
  rw [List.getElem_map] at h1
  exact h1
set_option maxRecDepth 100000 in
set_option maxHeartbeats 16000000 in
theorem order_main (A : Option Addr) (cap : Nat) (zs : List Int) (block : Int) (w : World) (ht : Tab w) (hv : Nums w w.heap.size .i64 (.slice A zs.length cap) zs) (h100 : zs.length ≤ 100) :
    Calls Tryd.prog 6 #[.slice A zs.length cap, .int .i64 block] w fun e w' => e = .returned (.bool true) ∧ Below w.heap.size w w' := by
  have d1 : decide ((100 : Int) < (zs.length : Int)) = false := by simp; omega
  have ks := dspeaks_any w ht
  obtain ⟨b, hb, hb10⟩ := low_mod block (m := 10) (by omega)
  rw [show ((10 : Nat) : Int) = 10 from rfl] at hb
  have HV := Lib.hid hv
  have HT := Lib.hid ht
  have H100 := Lib.hid h100
  have HB10 := Lib.hid hb10
  clear hv ht h100 hb10
  go_enter Tryd.func6, Tryd.ntmps6
  go_wp2_with ((with_reducible refine ks.mono ?_); rintro e w1 ⟨rfl, b1⟩)
  have B1 := Lib.hid b1
  have kl := laid_any 16 (by omega) fresh16 loss16 w1 (HT.out.below b1 HT.out.lt)
  rw [show ((16 : Nat) : Int) = 16 from rfl] at kl
  clear ks b1
  go_wp2_with ((with_reducible refine kl.mono ?_); rintro e w2 ⟨d, t, a, X0, rfl, hX⟩)
  have HX := Lib.hid hX
  have h0 : Hid (X0.l.losses = 0) := Lib.hid (by rw [hX.lay]; exact loss16)
  have B2 : Hid (Below w.heap.size w w2) := Lib.hid (B1.out.trans (hX.below.mono B1.out.size))
  have HF : Hid (∀ j, a.disk t d j → w.heap.size ≤ j) := Lib.hid (fun j hj => Nat.le_trans B1.out.size (hX.far j hj))
  clear kl hX B1
  go_wp2_with fail
  go_loopw [6, 25] (fun v i wr => ∃ j : Nat, j ≤ zs.length ∧ i = .int .i64 j ∧ ∃ (X : DS) (L : List (List UInt8)) (K : Nat), v = .int .i64 L.length ∧ L.length < 8 ∧ (∀ q ∈ L, Stable q) ∧ Disk1 wr d t a X 16 0 0 K ∧ K ≤ 1 + 10 * j ∧ X.l.losses = 0 ∧ Has (X.blk b) L ∧ Below w.heap.size w wr) (fun _ i _ => zs.length - (intOf i).toNat)
  case atStart => exact ⟨0, Nat.zero_le _, rfl, X0, [], 1, rfl, by simp, (fun q h => by cases h), HX.out.one, by omega, h0.out, HX.out.blank b (by have := HB10.out; omega), B2.out⟩
  case round =>
    rename_i wr
    obtain ⟨j, hj, rfl, X, L, K, rfl, hL8, hst, hD, hK, hl0, hH, hB⟩ := hrel
    clear HX B2 h0
    by_cases hlt : j < zs.length
    · obtain ⟨p, rfl, z, hcell⟩ := nums_at HV.out hlt hB
      obtain ⟨kb, hkb⟩ := wrap_kb z
      obtain ⟨y, hy⟩ : ∃ y, y = UInt8.ofNat j := ⟨_, rfl⟩
      have hwj : IntKind.u8.wrap (j : Int) = ((y.toNat : Nat) : Int) := by rw [hy]; exact wrap_byte (by have := H100.out; omega)
      have kp := page_any y z kb hkb wr hD.dk.dev.tab
      obtain ⟨pg, hpg⟩ : ∃ pg, pg = lpg y kb := ⟨_, rfl⟩
      have hps : Stable pg := by rw [hpg]; exact lpg_stable y kb
      rw [← hpg] at kp
      have hj100 : (j : Int) < 100 := by have := H100.out; omega
      have hK2 : K ≤ 2000 := by have := H100.out; omega
      have HJ := Lib.hid (And.intro hlt hK)
      have HB := Lib.hid hB
      by_cases hin : 0 ≤ z ∧ z ≤ 7
      · obtain ⟨k, rfl⟩ : ∃ k : Nat, z = k := ⟨z.toNat, by omega⟩
        have hk8 : k < 8 := by omega
        have hk8i : (k : Int) < 8 := by omega
        by_cases hkn : k = L.length
        · subst hkn
          have kq := fun (W : World) (hW : Below wr.heap.size wr W) => (hD.after hW).program (b := b) (by have := HB10.out; omega) hH hL8 hst hps (by omega)
          have KQ := Lib.hid kq
          have HL := Lib.hid (And.intro hst (And.intro hl0 hps))
          clear hD hH hst hl0 kq hps hpg hy hB hj hK hK2 hkb
          go_wp2_with ((with_reducible refine kp.mono ?_); rintro e w6 ⟨rfl, b6⟩; have k6 := KQ.out _ b6)
          ((with_reducible refine k6.mono ?_); rintro e w7 ⟨rfl, X', f', e', hD, lf, le, hls, hH, _, _, _, hc⟩)
          have hB7 := chg_far (HB.out.trans (b6.mono HB.out.size)) hc HF.out
          obtain ⟨rfl, rfl, hl0⟩ : f' = 0 ∧ e' = 0 ∧ X'.l.losses = 0 := by
            have := HL.out.2.1
            omega
          have HR := Lib.hid (And.intro hD (And.intro hl0 (And.intro hH hB7)))
          have hst2 : ∀ q ∈ L ++ [pg], Stable q := fun q hq => by
            rcases List.mem_append.1 hq with h | h
            · exact HL.out.1 q h
            · rw [List.mem_singleton.1 h]; exact HL.out.2.2
          have HST := Lib.hid hst2
          clear kp KQ b6 k6 hD lf le hls hH hc hB7 hl0 hst2 HB
          by_cases h7 : L.length = 7
          · have hK2 : K + 5 ≤ 2100 := by have := HJ.out.2; have := H100.out; omega
            have ke := fun (W : World) (hW : Below w7.heap.size w7 W) => (HR.out.1.after hW).erase (b := b) (by have := HB10.out; omega) (by omega)
            have ke7 := ke w7 (Below.refl _ _)
            have d7 : (((L.length : Int) + 1) == 8) = true := by simp; omega
            have h7i : (L.length : Int) = 7 := by omega
            clear ke hL8
            go_wp2_with ((with_reducible refine ke7.mono ?_); rintro e w8 ⟨rfl, X8, f8, e8, hD8, lf8, le8, hls8, hH8, _, hc8⟩)
            have hB8 := chg_far HR.out.2.2.2 hc8 HF.out
            obtain ⟨rfl, rfl, hl8⟩ : f8 = 0 ∧ e8 = 0 ∧ X8.l.losses = 0 := by
              have := HR.out.2.1
              omega
            exact ⟨⟨j + 1, by have := HJ.out.1; omega, by go_num, X8, [], _, rfl, by simp, (fun q h => by cases h), hD8, by have := HJ.out.2; omega, hl8, hH8, hB8⟩, by have := HJ.out.1; simp [intOf]; omega⟩
          · have d7 : (((L.length : Int) + 1) == 8) = false := by simp; omega
            have h7i : ¬ ((L.length : Int) + 1 = 8) := by omega
            have hll : (L ++ [pg]).length = L.length + 1 := by rw [List.length_append]; rfl
            go_wp2_with fail
            exact ⟨⟨j + 1, by have := HJ.out.1; omega, by go_num, X', L ++ [pg], _, by rw [hll]; go_num, by rw [hll]; omega, HST.out, HR.out.1, by have := HJ.out.2; omega, HR.out.2.1, HR.out.2.2.1, HR.out.2.2.2⟩, by have := HJ.out.1; simp [intOf]; omega⟩
        · have hr := hD.order (b := b) (k := k) (by have := HB10.out; omega) hk8 (by rw [hH.nx]; exact fun h => hkn h.symm) pg
          have kq := fun (W : World) (hW : Below wr.heap.size wr W) => (hD.after hW).refused hps.1 hr (by omega)
          have KQ := Lib.hid kq
          have HL := Lib.hid (And.intro hst (And.intro hl0 (And.intro hH hL8)))
          have dkn : ((k : Int) != (L.length : Int)) = true := by simp; omega
          have h8i : ¬ ((L.length : Int) = 8) := by omega
          have d8 : ((L.length : Int) == 8) = false := by simp; omega
          clear hD hH hst hl0 kq hps hpg hy hB hj hK hK2 hkb hr hkn
          go_wp2_with ((with_reducible refine kp.mono ?_); rintro e w6 ⟨rfl, b6⟩; have k6 := KQ.out _ b6)
          ((with_reducible refine k6.mono ?_); rintro e w7 ⟨rfl, hD, hc⟩)
          have hB7 := chg_far (HB.out.trans (b6.mono HB.out.size)) hc HF.out
          have HR := Lib.hid (And.intro hD hB7)
          clear kp KQ b6 k6 hD hc hB7 HB
          go_wp2_with fail
          exact ⟨⟨j + 1, by have := HJ.out.1; omega, by go_num, X, L, K, rfl, HL.out.2.2.2, HL.out.1, HR.out.1, by have := HJ.out.2; omega, HL.out.2.1, HL.out.2.2.1, HR.out.2⟩, by have := HJ.out.1; simp [intOf]; omega⟩
      · have hr := hD.wrong (b := (b : Int)) (k := z) (by omega) pg
        have kq := fun (W : World) (hW : Below wr.heap.size wr W) => (hD.after hW).refused hps.1 hr (by omega)
        have KQ := Lib.hid kq
        have HL := Lib.hid (And.intro hst (And.intro hl0 (And.intro hH hL8)))
        have h8i : ¬ ((L.length : Int) = 8) := by omega
        have d8 : ((L.length : Int) == 8) = false := by simp; omega
        obtain ⟨q, hq⟩ : ∃ q, q = decide (z < 0) := ⟨_, rfl⟩
        have hq' := hq.symm
        have hz : q = false → decide ((7 : Int) < z) = true := fun h => by rw [hq] at h; simp at h; simp; omega
        have HZ := Lib.hid hz
        clear hD hH hst hl0 kq hps hpg hy hB hj hK hK2 hkb hr hin hq hz
        go_wp2_with ((with_reducible refine kp.mono ?_); rintro e w6 ⟨rfl, b6⟩; have k6 := KQ.out _ b6)
        ((with_reducible refine k6.mono ?_); rintro e w7 ⟨rfl, hD, hc⟩)
        have hB7 := chg_far (HB.out.trans (b6.mono HB.out.size)) hc HF.out
        have HR := Lib.hid (And.intro hD hB7)
        clear kp KQ b6 k6 hD hc hB7 HB
        cases q with
        | true =>
          go_wp2_with fail
          exact ⟨⟨j + 1, by have := HJ.out.1; omega, by go_num, X, L, K, rfl, HL.out.2.2.2, HL.out.1, HR.out.1, by have := HJ.out.2; omega, HL.out.2.1, HL.out.2.2.1, HR.out.2⟩, by have := HJ.out.1; simp [intOf]; omega⟩
        | false =>
          have d7 := HZ.out rfl
          go_wp2_with fail
          exact ⟨⟨j + 1, by have := HJ.out.1; omega, by go_num, X, L, K, rfl, HL.out.2.2.2, HL.out.1, HR.out.1, by have := HJ.out.2; omega, HL.out.2.1, HL.out.2.2.1, HR.out.2⟩, by have := HJ.out.1; simp [intOf]; omega⟩
    · obtain rfl : j = zs.length := by omega
      have kl := hD.lost
      rw [hl0, show ((0 : Nat) : Int) = 0 from rfl] at kl
      have HB := Lib.hid hB
      clear hD hB hH hst hj hK hl0
      go_wp2_with ((with_reducible refine kl.mono ?_); rintro e w' ⟨rfl, rfl⟩)
      go_ret
      exact ⟨rfl, HB.out⟩
set_option maxRecDepth 100000 in
set_option maxHeartbeats 4000000 in
theorem diskOrder_any (v : Value) (block : Int) (w : World) (ht : Tab w) (hv : ∃ zs, Nums w w.heap.size .i64 v zs) (_ : (Lit.int .i64 block).wf = true) :
    Calls Tryd.prog 6 #[v, .int .i64 block] w fun e w' => e = .returned (.bool true) ∧ Below w.heap.size w w' := by
  obtain ⟨zs, hv⟩ := hv
  obtain ⟨A, cap, rfl, _⟩ := id hv
  by_cases h : zs.length ≤ 100
  · exact order_main A cap zs block w ht hv h
  · have d1 : decide ((100 : Int) < (zs.length : Int)) = true := by simp; omega
    have ks := dspeaks_any w ht
    clear hv ht h
    go_enter Tryd.func6, Tryd.ntmps6
    go_wp2_with ((with_reducible refine ks.mono ?_); rintro e w1 ⟨rfl, b1⟩)
    go_ret
    exact ⟨rfl, b1⟩
end Go.Proofs.YtaafelhjcmgkdaaDoor

/- The walk of DiskWorn: it answers true, and changes nothing that was there. Condition: the table of the check sum holds its sixteen numbers. -/
namespace Go.Proofs.YtaafelhjcmgkdaaDoor
open Go.RowKit
theorem Has.one {B : Bk} {p : List UInt8} (h : Has B [p]) : B.pg.getD 0 [] = p := h.pg 0 (by simp)
theorem told0 : (fun i : Int => decide (i ∈ [(0 : Int)])) 0 = true := by decide
set_option maxRecDepth 100000 in
set_option maxHeartbeats 32000000 in
theorem diskWorn_any (n : Int) (w : World) (ht : Tab w) (_ : (Lit.int .i64 n).wf = true) :
    Calls Tryd.prog 3 #[.int .i64 n] w fun e w' => e = .returned (.bool true) ∧ Below w.heap.size w w' := by
  have ks := dspeaks_any w ht
  have z := zeroPage
  have HT := Lib.hid ht
  clear ht
  go_enter Tryd.func3, Tryd.ntmps3
  go_wp2_with ((with_reducible refine ks.mono ?_); rintro e w1 ⟨rfl, b1⟩)
  have B1 := Lib.hid b1
  have kl := laid_any 16 (by omega) fresh16 loss16 w1 (HT.out.below b1 HT.out.lt)
  rw [show ((16 : Nat) : Int) = 16 from rfl] at kl
  clear ks b1
  go_wp2_with ((with_reducible refine kl.mono ?_); rintro e w2 ⟨d, t, a, X0, rfl, hX⟩)
  have HX := Lib.hid hX
  have h0 : Hid (X0.l.losses = 0) := Lib.hid (by rw [hX.lay]; exact loss16)
  have B2 : Hid (Below w.heap.size w w2) := Lib.hid (B1.out.trans (hX.below.mono B1.out.size))
  have HF : Hid (∀ j, a.disk t d j → w.heap.size ≤ j) := Lib.hid (fun j hj => Nat.le_trans B1.out.size (hX.far j hj))
  clear kl hX
  go_wp2_with fail
  go_loopw [4] (fun i wr => ∃ j : Nat, j ≤ 5 ∧ i = .int .i64 j ∧ ∃ X : DS, Disk1 wr d t a X 16 0 0 (1 + 5 * j) ∧ X.l.losses = 0 ∧ (∀ y, y < 10 → Has (X.blk y) (if y < j then [lpg (UInt8.ofNat y) (UInt8.ofNat 0)] else [])) ∧ Below w.heap.size w wr) (fun i _ => 5 - (intOf i).toNat)
  case atStart => exact ⟨0, by omega, rfl, X0, HX.out.one, h0.out, fun y hy => by rw [if_neg (by omega)]; exact HX.out.blank y hy, B2.out⟩
  case round =>
    rename_i wr
    obtain ⟨j, hj, rfl, X, hD, hl0, hH, hB⟩ := hrel
    clear HX B2 h0
    by_cases hlt : j < 5
    · obtain ⟨y, hy⟩ : ∃ y, y = UInt8.ofNat j := ⟨_, rfl⟩
      have hwj : IntKind.u8.wrap (j : Int) = ((y.toNat : Nat) : Int) := by rw [hy]; exact wrap_byte (by omega)
      have kp := page_any y 0 (UInt8.ofNat 0) (wrap_byte (k := 0) (by omega)) wr hD.dk.dev.tab
      have hHj := hH j (by omega)
      rw [if_neg (by omega)] at hHj
      have kq := fun (W : World) (hW : Below wr.heap.size wr W) => (hD.after hW).program (b := j) (by omega) hHj (by simp) (fun q h => by cases h) (lpg_stable y (UInt8.ofNat 0)) (by omega)
      have e00 : ((([] : List (List UInt8)).length : Nat) : Int) = 0 := rfl
      rw [e00] at kq
      obtain ⟨pg, hpg⟩ : ∃ pg, pg = lpg y (UInt8.ofNat 0) := ⟨_, rfl⟩
      rw [← hpg] at kp kq
      have KQ := Lib.hid kq
      have HB := Lib.hid hB
      have HH := Lib.hid (And.intro hH (And.intro hl0 (And.intro hpg hy)))
      have hj5 : (j : Int) < 5 := by omega
      clear hD hH hl0 hB kq hHj e00 hpg hy
      go_wp2_with ((with_reducible refine kp.mono ?_); rintro e w6 ⟨rfl, b6⟩; have k6 := KQ.out _ b6)
      ((with_reducible refine k6.mono ?_); rintro e w7 ⟨rfl, X', f', e', hD, lf, le, hls, hL, hoth, _, _, hc⟩)
      have hB7 := chg_far (HB.out.trans (b6.mono HB.out.size)) hc HF.out
      obtain ⟨rfl, rfl, hl1⟩ : f' = 0 ∧ e' = 0 ∧ X'.l.losses = 0 := by
        have := HH.out.2.1
        omega
      have hH2 : ∀ z, z < 10 → Has (X'.blk z) (if z < j + 1 then [lpg (UInt8.ofNat z) (UInt8.ofNat 0)] else []) := fun z hz => by
        by_cases c : z = j
        · subst c
          rw [if_pos (by omega), ← HH.out.2.2.2, ← HH.out.2.2.1]
          exact hL
        · rw [hoth z (by omega) c]
          have := HH.out.1 z hz
          by_cases c2 : z < j
          · rw [if_pos c2] at this; rw [if_pos (by omega)]; exact this
          · rw [if_neg c2] at this; rw [if_neg (by omega)]; exact this
      have HR := Lib.hid (And.intro hD (And.intro hl1 (And.intro hH2 hB7)))
      clear kp KQ b6 k6 hD lf le hls hL hoth hc hl1 hH2 hB7 HB HH
      go_wp2_with fail
      exact ⟨⟨j + 1, by omega, by go_num, X', HR.out.1, HR.out.2.1, HR.out.2.2.1, HR.out.2.2.2⟩, by simp [intOf]; omega⟩
    · obtain rfl : j = 5 := by omega
      obtain ⟨W, hW⟩ : ∃ W, W = wr := ⟨_, rfl⟩
      subst hW
      have HD := Lib.hid hD
      have HH := Lib.hid hH
      have HB := Lib.hid hB
      have HL := Lib.hid hl0
      clear hD hH hB hl0 hj
      simp only [show ((5 : Nat) : Int) = 5 from rfl]
      go_wp2_with fail
      go_loopw [5] (fun i wr => ∃ j : Nat, j ≤ 4 ∧ i = .int .i64 j ∧ ∃ (a : At) (X : DS), Disk1 wr d t a X 16 0 0 (26 + 5 * j) ∧ X.l.losses = j ∧ (∀ y, y < 5 → Has (X.blk y) (if y < j then [lpg (UInt8.ofNat y) (UInt8.ofNat 0), lpg (UInt8.ofNat y) (UInt8.ofNat 1)] else [lpg (UInt8.ofNat y) (UInt8.ofNat 0)])) ∧ (∀ j, a.disk t d j → w.heap.size ≤ j) ∧ Below w.heap.size w wr) (fun i _ => 4 - (intOf i).toNat)
      case atStart => exact ⟨0, by omega, rfl, a, X, HD.out, HL.out, fun y hy => by rw [if_neg (by omega)]; have := HH.out y (by omega); rw [if_pos hy] at this; exact this, HF.out, HB.out⟩
      case round =>
        rename_i wr
        obtain ⟨j, hj, rfl, a2, X2, hD, hl0, hH, hF, hB⟩ := hrel
        clear HD HH HB HL HF
        have c0 := hD.dk.cells.1
        have b4 : Below wr.heap.size wr (wr.alloc (.cells #[.int .i64 0] 3)) := (Below.refl _ _).alloc (Nat.le_refl _) _
        have hn4 : Nums (wr.alloc (.cells #[.int .i64 0] 3)) (wr.alloc (.cells #[.int .i64 0] 3)).heap.size .i64 (.slice (some ⟨wr.heap.size, 0, none⟩) 1 1) [0] := nums_new wr 3 [0] (by decide) (by decide)
        by_cases hlt : j < 4
        · have k4 := (hD.after b4).fail true [0] _ (by decide) hn4 (by show X2.l.losses + 1 + 0 ≤ 4; omega)
          obtain ⟨y, hy⟩ : ∃ y, y = UInt8.ofNat j := ⟨_, rfl⟩
          have hwj : IntKind.u8.wrap (j : Int) = ((y.toNat : Nat) : Int) := by rw [hy]; exact wrap_byte (by omega)
          have HB := Lib.hid hB
          have HH := Lib.hid (And.intro hH (And.intro hl0 (And.intro hF hy)))
          have HB4 := Lib.hid b4
          have hj4 : (j : Int) < 4 := by omega
          clear hD hl0 hH hF hB hn4 b4 hy
          go_wp2_with fail
          ((with_reducible refine k4.mono ?_); rintro e w5 ⟨rfl, bb, hb, hD, hc⟩)
          have B5 : Hid (Below w.heap.size w w5) := Lib.hid ((HB.out.trans (HB4.out.mono HB.out.size)).trans (hc.below (fun j q => by rw [q]; exact HH.out.2.2.1 _ (.inl (.inl (.inl rfl)))) (Nat.le_trans HB.out.size HB4.out.size)))
          have hb5 : w.heap.size ≤ bb := Nat.le_trans (Nat.le_trans HB.out.size HB4.out.size) hb
          obtain ⟨a3, ha3⟩ : ∃ a3, a3 = a2.told true bb := ⟨_, rfl⟩
          have HF3 : Hid (∀ j, a3.disk t d j → w.heap.size ≤ j) := Lib.hid (by rw [ha3]; exact told_far HH.out.2.2.1 hb5)
          rw [← ha3] at hD
          have hHj := HH.out.1 j (by omega)
          rw [if_neg (by omega), ← HH.out.2.2.2] at hHj
          have kp := page_any y 1 (UInt8.ofNat 1) (wrap_byte (k := 1) (by omega)) w5 hD.dk.dev.tab
          have hHX : Has ((DS.mk (X2.S.told true [0]) X2.s X2.l X2.u).blk j) [lpg y (UInt8.ofNat 0)] := by
            have : (DS.mk (X2.S.told true [0]) X2.s X2.l X2.u).blk j = X2.blk j := by unfold DS.blk Ch.bk; rw [told_bs]
            rw [this]; exact hHj
          have kq := fun (W : World) (hW : Below w5.heap.size w5 W) => (hD.after hW).program (b := j) (by omega) hHX (by simp) (fun q h => by rw [List.mem_singleton.1 h]; exact lpg_stable _ _) (lpg_stable y (UInt8.ofNat 1)) (by omega)
          have e00 : ((([lpg y (UInt8.ofNat 0)] : List (List UInt8)).length : Nat) : Int) = 1 := rfl
          rw [e00] at kq
          obtain ⟨pg, hpg⟩ : ∃ pg, pg = lpg y (UInt8.ofNat 1) := ⟨_, rfl⟩
          rw [← hpg] at kp kq
          have HPG := Lib.hid hpg
          have KQ := Lib.hid kq
          have hoths : ∀ z, (DS.mk (X2.S.told true [0]) X2.s X2.l X2.u).blk z = X2.blk z := fun z => by unfold DS.blk Ch.bk; rw [told_bs]
          clear k4 hD hc hb hb5 ha3 hHj kq hHX e00 HB HB4 hpg
          go_wp2_with ((with_reducible refine kp.mono ?_); rintro e w6 ⟨rfl, b6⟩; have k6 := KQ.out _ b6)
          ((with_reducible refine k6.mono ?_); rintro e w7 ⟨rfl, X', f', e', hD, lf, le, hls, hL, hoth, ht1, _, hc⟩)
          have hB7 := chg_far (B5.out.trans (b6.mono B5.out.size)) hc HF3.out
          obtain ⟨rfl, rfl, hl1⟩ : f' = 0 ∧ e' = 0 ∧ X'.l.losses = j + 1 := by
            have h1 := HH.out.2.1
            have h2 := ht1 (by show (fun i : Int => decide (i ∈ [(0 : Int)])) ((0 : Nat) : Int) = true; exact told0)
            have hls' : X'.l.losses + f' + e' ≤ X2.l.losses + 1 + 0 := hls
            have h2' : X2.l.losses < X'.l.losses := h2
            omega
          have hH2 : ∀ z, z < 5 → Has (X'.blk z) (if z < j + 1 then [lpg (UInt8.ofNat z) (UInt8.ofNat 0), lpg (UInt8.ofNat z) (UInt8.ofNat 1)] else [lpg (UInt8.ofNat z) (UInt8.ofNat 0)]) := fun z hz => by
            by_cases c : z = j
            · subst c
              rw [if_pos (by omega), ← HH.out.2.2.2, ← HPG.out]
              exact hL
            · rw [hoth z (by omega) c, hoths]
              have := HH.out.1 z hz
              by_cases c2 : z < j
              · rw [if_pos c2] at this; rw [if_pos (by omega)]; exact this
              · rw [if_neg c2] at this; rw [if_neg (by omega)]; exact this
          have klo := hD.lost
          rw [hl1, show ((j + 1 : Nat) : Int) = (j : Int) + 1 by omega] at klo
          have HR := Lib.hid (And.intro hD (And.intro hl1 (And.intro hH2 hB7)))
          clear kp KQ b6 k6 hD lf le hls hL hoth hc hl1 hH2 hB7 HH ht1 hoths
          go_wp2_with ((with_reducible refine klo.mono ?_); rintro e w' ⟨rfl, rfl⟩)
          exact ⟨⟨j + 1, by omega, by go_num, a3, X', HR.out.1, HR.out.2.1, HR.out.2.2.1, HF3.out, HR.out.2.2.2⟩, by simp [intOf]; omega⟩
        · obtain rfl : j = 4 := by omega
          obtain ⟨W, hW⟩ : ∃ W, W = wr := ⟨_, rfl⟩
          subst hW
          have k4 := (hD.after b4).failD true [0] _ (by decide) hn4
          have HB := Lib.hid hB
          have HH := Lib.hid (And.intro hH (And.intro hl0 hF))
          have HB4 := Lib.hid b4
          have HOK := Lib.hid hD
          clear hD hl0 hH hF hB hn4 b4 hj hlt
          simp only [show ((4 : Nat) : Int) = 4 from rfl]
          go_wp2_with fail
          ((with_reducible refine k4.mono ?_); rintro e w5 ⟨rfl, bb, hb, hD, hfw, hc⟩)
          have B5 : Hid (Below w.heap.size w w5) := Lib.hid ((HB.out.trans (HB4.out.mono HB.out.size)).trans (hc.below (fun j q => by rw [q]; exact HH.out.2.2 _ (.inl (.inl (.inl rfl)))) (Nat.le_trans HB.out.size HB4.out.size)))
          have hb5 : w.heap.size ≤ bb := Nat.le_trans (Nat.le_trans HB.out.size HB4.out.size) hb
          obtain ⟨a3, ha3⟩ : ∃ a3, a3 = a2.told true bb := ⟨_, rfl⟩
          have HF3 : Hid (∀ j, a3.disk t d j → w.heap.size ≤ j) := Lib.hid (by rw [ha3]; exact told_far HH.out.2.2 hb5)
          rw [← ha3] at hD
          have hH4 := HH.out.1 4 (by omega)
          rw [if_neg (by omega)] at hH4
          have hoths : ∀ z, (DS.mk (X2.S.told true [0]) X2.s X2.l X2.u).blk z = X2.blk z := fun z => by unfold DS.blk Ch.bk; rw [told_bs]
          have kp := page_any 4 1 (UInt8.ofNat 1) (wrap_byte (k := 1) (by omega)) w5 hD.dev.tab
          rw [show (((4 : UInt8).toNat : Nat) : Int) = 4 from rfl] at kp
          have hO := HOK.out.ok
          have kq := fun (W : World) (hW : Below w5.heap.size w5 W) => worn_any (hD.after hW) (N := 16) (K := 46) (hO.fine.told true [0]) hO.sz hO.n2 (hO.tab.same (fun c _ => by unfold Ch.bk; rw [told_bs])) told0 HH.out.2.1 HOK.out.on HOK.out.last HOK.out.u hfw (by omega) (b := 4) (k := 1) (by omega) (by omega) (by rw [hoths]; exact hH4.nx) (lpg_length 4 (UInt8.ofNat 1))
          rw [show ((4 : Nat) : Int) = 4 from rfl, show ((1 : Nat) : Int) = 1 from rfl] at kq
          obtain ⟨pg, hpg⟩ : ∃ pg, pg = lpg 4 (UInt8.ofNat 1) := ⟨_, rfl⟩
          rw [← hpg] at kp kq
          have KQ := Lib.hid kq
          clear k4 hD hc hb hb5 ha3 hH4 kq HB HB4 hO hfw c0 hpg
          go_wp2_with ((with_reducible refine kp.mono ?_); rintro e w6 ⟨rfl, b6⟩; have k6 := KQ.out _ b6)
          ((with_reducible refine k6.mono ?_); rintro e w7 ⟨rfl, X', hD, hlay, hoth, hpgs, hc⟩)
          have hB7 := chg_far (B5.out.trans (b6.mono B5.out.size)) hc HF3.out
          have hl1 : X'.l.losses = 4 := by rw [hlay]; exact HH.out.2.1
          have hH2 : ∀ z, z < 5 → (X'.blk z).pg.getD 0 [] = lpg (UInt8.ofNat z) (UInt8.ofNat 0) := fun z hz => by
            have h1 := HH.out.1 z hz
            have h2 : (X2.blk z).pg.getD 0 [] = lpg (UInt8.ofNat z) (UInt8.ofNat 0) := by
              by_cases c2 : z < 4
              · rw [if_pos c2] at h1; exact h1.pg 0 (by simp)
              · rw [if_neg c2] at h1; exact h1.pg 0 (by simp)
            by_cases c : z = 4
            · subst c
              rw [hpgs 0 (by omega), hoths]
              exact h2
            · rw [hoth z (by omega) c, hoths]
              exact h2
          have klo := hD.lost
          rw [hl1, show ((4 : Nat) : Int) = 4 from rfl] at klo
          have HD7 := Lib.hid hD
          have HL7 := Lib.hid (And.intro hl1 hH2)
          have HB7 := Lib.hid hB7
          clear kp KQ b6 k6 hD hlay hoth hpgs hc hl1 hH2 hB7 HH hoths B5 HOK
          go_wp2_with ((with_reducible refine klo.mono ?_); rintro e w' ⟨rfl, rfl⟩)
          go_loopw [6] (fun i wr => ∃ j : Nat, j ≤ 5 ∧ i = .int .i64 j ∧ Below w7.heap.size w7 wr) (fun i _ => 5 - (intOf i).toNat)
          case atStart => exact ⟨0, by omega, rfl, Below.refl _ _⟩
          case round =>
            rename_i wr
            obtain ⟨j, hj, rfl, hB⟩ := hrel
            have hDr := HD7.out.after hB
            by_cases hlt : j < 5
            · have kr := hDr.read (b := j) (k := 0) (by omega) (by omega)
              rw [HL7.out.2 j hlt, show ((0 : Nat) : Int) = 0 from rfl] at kr
              obtain ⟨y, hy⟩ : ∃ y, y = UInt8.ofNat j := ⟨_, rfl⟩
              have hwj : IntKind.u8.wrap (j : Int) = ((y.toNat : Nat) : Int) := by rw [hy]; exact wrap_byte (by omega)
              rw [← hy] at kr
              have kp := fun (W : World) (hW : Below wr.heap.size wr W) => page_any y 0 (UInt8.ofNat 0) (wrap_byte (k := 0) (by omega)) W (hDr.dk.dev.tab.below hW hDr.dk.dev.tab.lt)
              have hpl := lpg_length y (UInt8.ofNat 0)
              obtain ⟨pg, hpg⟩ : ∃ pg, pg = lpg y (UInt8.ofNat 0) := ⟨_, rfl⟩
              rw [← hpg] at kr kp hpl
              have hEq : ∀ w, (Op.equalIn 10000 28 (.agg (cl pg)) (.agg (cl pg))).run Tryd.prog w = .ok true w := fun w => by
                have := equalIn_pcl hpl hpl w
                rw [decide_eq_true rfl] at this
                exact this
              have HPL := Lib.hid hpl
              have KP := Lib.hid kp
              have HB := Lib.hid hB
              have hj5 : (j : Int) < 5 := by omega
              clear hDr hB kp hpl hpg hy
              go_wp2_with (first
                | ((with_reducible refine kr.mono ?_); rintro e w8 ⟨rfl, b8⟩; have N8 := PArr.new w8 pzeros_length)
                | (with_reducible refine wpl_pstore (.tmp 7) (.tmp 74) rfl rfl N8 rfl HPL.out rfl ?_; intro w9 N9 g9 e9))
              have B9 : Below wr.heap.size wr w9 := (b8.alloc b8.size _).grown g9 (by rw [World.size_alloc]; exact Nat.le_succ_of_le b8.size) (fun k e => by have := Option.some.inj e; have := b8.size; omega)
              obtain ⟨gp, hgp⟩ : ∃ gp, gp = w8.heap.size := ⟨_, rfl⟩
              simp only [← hgp]
              have S0 : PArr w9.drew gp pg := by rw [hgp]; exact N9
              clear hgp
              refine wp_region_held_drew (S := fun w' => PArr w' gp pg) (by kernel_rfl) S0 (fun _ => ?_)
              refine wpAnyH_take (i := 0) (v := .int .i64 0) rfl (by kernel_rfl) (by kernel_rfl) (by kernel_rfl) (fun _ _ _ h => h) (Or.inl ⟨by kernel_rfl, fun w _ => by go_simp⟩) S0 ?_
              refine wpAnyH_take (i := 1) (v := .bool false) rfl (by kernel_rfl) (by kernel_rfl) (by kernel_rfl) (fun _ _ _ h => h) (Or.inl ⟨by kernel_rfl, fun w _ => by go_simp⟩) S0 ?_
              refine wpAnyH_take (i := 2) (v := .bool false) rfl (by kernel_rfl) (by kernel_rfl) (by kernel_rfl) (fun _ _ _ h => h) (Or.inl ⟨by kernel_rfl, fun w _ => by go_simp⟩) S0 ?_
              refine wpAnyH_take (i := 3) (v := .agg (cl pg)) rfl (by kernel_rfl) (by kernel_rfl) (by kernel_rfl) (fun _ _ _ h => h) (yields_pload (g := gp) (.tmp 7) (by kernel_rfl) (by kernel_rfl) (by kernel_rfl) (fun _ h => h)) S0 ?_
              refine wpAnyH_take (i := 4) (v := .int .i64 (j : Int)) rfl (by kernel_rfl) (by kernel_rfl) (by kernel_rfl) (fun _ _ _ h => h) (Or.inl ⟨by kernel_rfl, fun w _ => by go_simp⟩) S0 ?_
              refine wpAnyH_take (i := 5) (v := .int .u8 ((y.toNat : Nat) : Int)) rfl (by kernel_rfl) (by kernel_rfl) (by kernel_rfl) (fun _ _ _ h => h) (Or.inl ⟨by kernel_rfl, fun w _ => by go_simp⟩) S0 ?_
              refine wpAnyH_ready (rs := [6]) (by kernel_rfl) (by simp) (AllReadyH.cons rfl (fun K hK => ?_) AllReadyH.nil)
              go_simp
              have kq := KP.out _ B9.drew
              ((with_reducible refine kq.mono ?_); rintro e w8x ⟨rfl, b8x⟩)
              have S1 : PArr w8x gp pg := S0.after b8x
              refine hK.out _ _ S1 (fun _ => ?_)
              clear hK K kq
              refine wpAnyH_take (i := 7) (v := .bool false) rfl (by kernel_rfl) (by kernel_rfl) (by kernel_rfl) (fun _ _ _ h => h) (Or.inl ⟨by kernel_rfl, fun w _ => by go_simp⟩) S1 ?_
              refine wpAnyH_take (i := 8) (v := .bool false) rfl (by kernel_rfl) (by kernel_rfl) (by kernel_rfl) (fun _ _ _ h => h) (Or.inl ⟨by kernel_rfl, fun w _ => by go_simp⟩) S1 ?_
              refine wpAnyH_done (by kernel_rfl) ?_ _
              have B8 : Below w7.heap.size w7 w8x := (HB.out.trans (B9.drew.mono HB.out.size)).trans (b8x.mono (Nat.le_trans HB.out.size B9.drew.size))
              clear S0 S1 N9
              go_wp2_with fail
              exact ⟨⟨j + 1, by omega, by go_num, B8⟩, by simp [intOf]; omega⟩
            · obtain rfl : j = 5 := by omega
              have ko := dopen_any hDr.dk.dev hDr.ok hDr.on
              have c1 := hDr.dk.cells.1
              have HB := Lib.hid hB
              have HDR := Lib.hid hDr
              clear hDr hB hlt hj
              go_wp2_with fail
              ((with_reducible refine ko.mono ?_); rintro e w8 ⟨d8, t8, _, _, rfl, D8, b8⟩)
              have klo := dlost_any D8
              simp only at klo
              rw [HL7.out.1, show ((4 : Nat) : Int) = 4 from rfl] at klo
              have B8 : Below w.heap.size w w8 := (HB7.out.trans (HB.out.mono HB7.out.size)).trans (b8.mono (Nat.le_trans HB7.out.size HB.out.size))
              have HB8 := Lib.hid B8
              clear ko D8 b8 B8 c1
              go_wp2_with ((with_reducible refine klo.mono ?_); rintro e w' ⟨rfl, rfl⟩)
              go_ret
              exact ⟨rfl, HB8.out⟩
end Go.Proofs.YtaafelhjcmgkdaaDoor

/- A bit of a disk's chip is turned. Condition: the disk is in order. -/
namespace Go.Proofs.YtaafelhjcmgkdaaDoor
open Go.RowKit
section
variable {w : World} {d t : Nat} {a : At} {X : DS} {N f e K : Nat}
theorem Disk1.flip (h : Disk1 w d t a X N f e K) {y k x : Nat} (hy : y < N - 6) (hk : k < 8) (hx : x < 2064) :
    Calls Tryd.prog 15 #[.pointer (some ⟨a.c, 0, none⟩), .int .i64 ((X.l.at_.getD y 0 : Nat) : Int), .int .i64 (k : Int), .int .i64 (x : Int)] w fun er w' => er = .returned (.int .i64 0) ∧ ∃ X', Disk1 w' d t a X' N f e K ∧ X'.l = X.l ∧ X'.S.fp = X.S.fp ∧ X'.S.dp = X.S.dp ∧ (X'.blk y).nx = (X.blk y).nx ∧ (∀ i, (X'.blk y).pg.getD i [] = if i = k then NM.fl ((X.blk y).pg.getD k []) x else (X.blk y).pg.getD i []) ∧ Chg w w' (a.disk t d) := by
  have hsz := h.ok.sz
  have hn2 := h.ok.n2
  obtain ⟨_, h2, hnn, _⟩ := h.ok.good.here (x := y) (by omega)
  rw [hsz] at hnn
  obtain ⟨A, hA⟩ : ∃ A, A = X.l.at_.getD y 0 := ⟨_, rfl⟩
  have hlen := h.ok.fine.len
  refine (flip_any a X.S ((X.l.at_.getD y 0 : Nat) : Int) (k : Int) (x : Int) w h.dk.dev.pc).mono ?_
  rw [← hA] at hnn h2 ⊢
  have he : X.S.flip (A : Int) (k : Int) (x : Int) = ({ X.S with bs := putPage X.S.bs A k (NM.fl (pageOf X.S.bs A k) x) }, 0) := by
    unfold Ch.flip
    rw [if_neg (by unfold Ch.flipBad; omega), Int.toNat_natCast, Int.toNat_natCast, Int.toNat_natCast]
  rw [he]
  rintro er w' ⟨rfl, hP, hc⟩
  have hd := h.dk
  have hg : a.all a.g := .inl (.inr (.inl rfl))
  have hbs : ({ X.S with bs := putPage X.S.bs A k (NM.fl (pageOf X.S.bs A k) x) } : Ch).bs = X.S.bs.set A ((X.S.bk A).setPage k (NM.fl (pageOf X.S.bs A k) x)) := rfl
  have hbk := bk_set (S := X.S) (by rw [hlen]; exact hnn) hbs
  have hp8 := h.ok.fine.oks A hnn
  have D : Dev w' a { X.S with bs := putPage X.S.bs A k (NM.fl (pageOf X.S.bs A k) x) } X.s := ⟨hP, hd.dev.pw.chg hc hd.dev.pc.pg, hd.dev.tab.chg hc (fun q => hd.dev.far _ hg q.symm), hd.dev.far, hd.dev.fits⟩
  refine ⟨rfl, ⟨{ X.S with bs := putPage X.S.bs A k (NM.fl (pageOf X.S.bs A k) x) }, X.s, X.l, X.u⟩, ⟨⟨hd.blk.chg hc (fun q => hd.da (by rw [show d = a.g from q]; exact hg)), hd.tb.chg hc (fun q => hd.tb.na (by rw [show t = a.g from q]; exact hg)), D, hd.dt, hd.da, hd.good⟩, ⟨h.ok.fine.to hnn hbs rfl (h.ok.fine.bad A) (by show ((X.S.bk A).pg.set k _).length = 8; rw [List.length_set]; exact hp8) h.ok.fine.fp h.ok.fine.fe, hsz, hn2, h.ok.good, h.ok.tab.same (fun c hc => by rw [hbk, if_neg (by omega)]), h.ok.room⟩, h.on, h.last, h.u, h.few⟩, rfl, rfl, rfl, ?_, fun i => ?_, hc.more (fun k _ q => by rw [show k = a.g from q]; exact .inl hg)⟩
  · show ((DS.mk { X.S with bs := putPage X.S.bs A k (NM.fl (pageOf X.S.bs A k) x) } X.s X.l X.u).S.bk (X.l.at_.getD y 0)).nx = (X.S.bk (X.l.at_.getD y 0)).nx
    rw [← hA, hbk, if_pos rfl]
    rfl
  · show ((DS.mk { X.S with bs := putPage X.S.bs A k (NM.fl (pageOf X.S.bs A k) x) } X.s X.l X.u).S.bk (X.l.at_.getD y 0)).pg.getD i [] = _
    unfold DS.blk
    rw [← hA, hbk, if_pos rfl]
    show ((X.S.bk A).pg.set k _).getD i [] = _
    rw [getD_setP (by omega)]
    rfl
end
end Go.Proofs.YtaafelhjcmgkdaaDoor

/- The walk of DiskMends: it answers true, and changes nothing that was there. Condition: the table of the check sum holds its sixteen numbers. -/
namespace Go.Proofs.YtaafelhjcmgkdaaDoor
open Go.RowKit
theorem u8_wf {s : Int} (h : (Lit.int .u8 s).wf = true) : ∃ b : UInt8, s = ((b.toNat : Nat) : Int) := by
  have h2 : 0 ≤ s ∧ s ≤ 255 := by
    have h3 : IntKind.u8.min ≤ s ∧ s ≤ IntKind.u8.max := by simpa [Lit.wf] using h
    exact h3
  refine ⟨UInt8.ofNat s.toNat, ?_⟩
  rw [UInt8.toNat_ofNat']
  omega
theorem told0m : (fun i : Int => decide (i ∈ [(0 : Int)])) 0 = true := by decide
set_option maxRecDepth 100000 in
set_option maxHeartbeats 32000000 in
theorem mends_main2 (A : Option Addr) (cap : Nat) (zs : List Int) (b : UInt8) (w : World) (ht : Tab w) (hv : Nums w w.heap.size .i64 (.slice A zs.length cap) zs) (h8 : zs.length ≤ 8) :
    Calls Tryd.prog 4 #[.slice A zs.length cap, .int .u8 ((b.toNat : Nat) : Int)] w fun e w' => e = .returned (.bool true) ∧ Below w.heap.size w w' := by
  have d1 : decide ((8 : Int) < (zs.length : Int)) = false := by simp; omega
  have ks := dspeaks_any w ht
  have z := zeroPage
  have HV := Lib.hid hv
  have HT := Lib.hid ht
  have H8 := Lib.hid h8
  clear hv ht h8
  go_enter Tryd.func4, Tryd.ntmps4
  go_wp2_with ((with_reducible refine ks.mono ?_); rintro e w1 ⟨rfl, b1⟩)
  have B1 := Lib.hid b1
  have kl := laid_any 20 (by omega) fresh20d loss20 w1 (HT.out.below b1 HT.out.lt)
  rw [show ((20 : Nat) : Int) = 20 from rfl] at kl
  clear ks b1
  go_wp2_with ((with_reducible refine kl.mono ?_); rintro e w2 ⟨d, t, a, X0, rfl, hX⟩)
  have HX := Lib.hid hX
  have B2 : Hid (Below w.heap.size w w2) := Lib.hid (B1.out.trans (hX.below.mono B1.out.size))
  have HF : Hid (∀ j, a.disk t d j → w.heap.size ≤ j) := Lib.hid (fun j hj => Nat.le_trans B1.out.size (hX.far j hj))
  clear kl hX B1
  go_wp2_with fail
  go_loopw [6] (fun i wr => ∃ j : Nat, j ≤ 7 ∧ i = .int .i64 j ∧ ∃ X : DS, Disk1 wr d t a X 20 0 0 (1 + 5 * j) ∧ X.l = layN 20 ∧ Has (X.blk 3) (lpgs b j) ∧ Below w.heap.size w wr) (fun i _ => 7 - (intOf i).toNat)
  case atStart => exact ⟨0, by omega, rfl, X0, HX.out.one, HX.out.lay, HX.out.blank 3 (by omega), B2.out⟩
  case round =>
    rename_i wr
    obtain ⟨j, hj, rfl, X, hD, hl0, hH, hB⟩ := hrel
    clear HX B2
    by_cases hlt : j < 7
    · have kp := page_any b (j : Int) (UInt8.ofNat j) (wrap_byte (by omega)) wr hD.dk.dev.tab
      have hcm := hD.calm
      have kq := fun (W : World) (hW : Below wr.heap.size wr W) => (hD.after hW).program (b := 3) (by omega) hH (by rw [lpgs_length]; omega) (lpgs_stable b j) (lpg_stable b (UInt8.ofNat j)) (by omega)
      rw [lpgs_length, ← lpgs_succ, show ((3 : Nat) : Int) = 3 from rfl] at kq
      have KQ := Lib.hid kq
      have HB := Lib.hid hB
      have HH := Lib.hid (And.intro hcm hl0)
      have hj5 : (j : Int) < 7 := by omega
      clear hD hH hl0 hB kq hcm
      go_wp2_with ((with_reducible refine kp.mono ?_); rintro e w6 ⟨rfl, b6⟩; have k6 := KQ.out _ b6)
      ((with_reducible refine k6.mono ?_); rintro e w7 ⟨rfl, X', f', e', hD, lf, le, hls, hL, hoth, _, h2, hc⟩)
      have hB7 := chg_far (HB.out.trans (b6.mono HB.out.size)) hc HF.out
      obtain ⟨z1, _, _, rfl, rfl⟩ := h2 HH.out.1
      have HR := Lib.hid (And.intro hD (And.intro (z1.trans HH.out.2) (And.intro hL hB7)))
      clear kp KQ b6 k6 hD lf le hls hL hoth hc hB7 HB HH z1 h2
      go_wp2_with fail
      exact ⟨⟨j + 1, by omega, by go_num, X', HR.out.1, HR.out.2.1, HR.out.2.2.1, HR.out.2.2.2⟩, by simp [intOf]; omega⟩
    · obtain rfl : j = 7 := by omega
      obtain ⟨W, hW⟩ : ∃ W, W = wr := ⟨_, rfl⟩
      subst hW
      have HD := Lib.hid hD
      have HL := Lib.hid hl0
      have HH := Lib.hid hH
      have HB := Lib.hid hB
      clear hD hH hB hl0 hj hlt
      simp only [show ((7 : Nat) : Int) = 7 from rfl]
      go_wp2_with fail
      go_loopw [33] (fun i wr => ∃ j : Nat, j ≤ zs.length ∧ i = .int .i64 j ∧ ∃ X : DS, Disk1 wr d t a X 20 0 0 36 ∧ X.l = layN 20 ∧ (X.blk 3).nx = 7 ∧ (X.blk 3).pg.getD 7 [] = NM.ff ∧ (∀ i, i < 7 → (i < j → ∃ x, x < 2064 ∧ (X.blk 3).pg.getD i [] = NM.fl (lpg b (UInt8.ofNat i)) x) ∧ (j ≤ i → (X.blk 3).pg.getD i [] = lpg b (UInt8.ofNat i))) ∧ Below w.heap.size w wr) (fun i _ => zs.length - (intOf i).toNat)
      case atStart => exact ⟨0, Nat.zero_le _, rfl, X, HD.out, HL.out, by have := HH.out.nx; rwa [lpgs_length] at this, HH.out.ff 7 (by rw [lpgs_length]; exact Nat.le_refl _) (by omega), fun i hi => ⟨fun h => by omega, fun _ => by have := HH.out.pg i (by rw [lpgs_length]; exact hi); rwa [lpgs_at b hi] at this⟩, HB.out⟩
      case round =>
        rename_i wr
        obtain ⟨j, hj, rfl, X2, hD, hl0, hn, hff, hpg, hB⟩ := hrel
        clear HD HL HH HB
        by_cases hlt : j < zs.length
        · obtain ⟨p, rfl, x0, hcell⟩ := nums_at HV.out hlt hB
          obtain ⟨x, hx, hx2⟩ := low_mod x0 (m := 2061) (by omega)
          rw [show ((2061 : Nat) : Int) = 2061 from rfl] at hx
          have c0 := hD.dk.cells.1
          have hj8 : (j : Int) < 8 := by have := H8.out; omega
          have HB := Lib.hid hB
          have HH := Lib.hid (And.intro hl0 (And.intro hn (And.intro hff hpg)))
          by_cases h7 : j < 7
          · have kf := hD.flip (y := 3) (k := j) (x := x) (by omega) (by omega) (by omega)
            rw [hl0, layN_at (by omega), show ((3 + 2 : Nat) : Int) = 5 from rfl] at kf
            have d7 : decide ((j : Int) < 7) = true := by simp; omega
            have hx2' := Lib.hid hx2
            clear hD hl0 hn hff hpg hB hx2
            go_wp2_with ((with_reducible refine kf.mono ?_); rintro e w6 ⟨rfl, X', hD, hl1, hfp, hdp, hnx, hpg, hc⟩)
            have hB7 := chg_far HB.out hc HF.out
            have hff2 : (X'.blk 3).pg.getD 7 [] = NM.ff := by rw [hpg, if_neg (by omega)]; exact HH.out.2.2.1
            refine ⟨⟨j + 1, by omega, by go_num, X', hD, hl1, hnx.trans HH.out.2.1, hff2, fun i hi => ⟨fun h => ?_, fun h => ?_⟩, hB7⟩, by simp [intOf]; omega⟩
            · rw [hpg]
              by_cases c : i = j
              · subst c
                rw [if_pos rfl]
                exact ⟨x, by have := hx2'.out; omega, congrArg (fun q => NM.fl q x) ((HH.out.2.2.2 i hi).2 (Nat.le_refl _))⟩
              · rw [if_neg c]
                exact (HH.out.2.2.2 i hi).1 (by omega)
            · rw [hpg, if_neg (by omega)]
              exact (HH.out.2.2.2 i hi).2 (by omega)
          · have d7 : decide ((j : Int) < 7) = false := by simp; omega
            have HD := Lib.hid hD
            clear hD hl0 hn hff hpg hB hx hx2 c0
            go_wp2_with fail
            exact ⟨⟨j + 1, by omega, by go_num, X2, HD.out, HH.out.1, HH.out.2.1, HH.out.2.2.1, fun i hi => ⟨fun _ => (HH.out.2.2.2 i hi).1 (by omega), fun h => by omega⟩, HB.out⟩, by simp [intOf]; omega⟩
        · obtain rfl : j = zs.length := by omega
          obtain ⟨W, hW⟩ : ∃ W, W = wr := ⟨_, rfl⟩
          subst hW
          have c0 := hD.dk.cells.1
          have b4 : Below W.heap.size W (W.alloc (.cells #[.int .i64 0] 3)) := (Below.refl _ _).alloc (Nat.le_refl _) _
          have hn4 : Nums (W.alloc (.cells #[.int .i64 0] 3)) (W.alloc (.cells #[.int .i64 0] 3)).heap.size .i64 (.slice (some ⟨W.heap.size, 0, none⟩) 1 1) [0] := nums_new W 3 [0] (by decide) (by decide)
          have hls0 : X2.l.losses = 0 := by rw [hl0]; exact loss20
          have k4 := (hD.after b4).fail true [0] _ (by decide) hn4 (by show X2.l.losses + 1 + 0 ≤ 4; omega)
          have HH := Lib.hid (And.intro hls0 (And.intro hn (And.intro hff hpg)))
          have HB := Lib.hid hB
          have HB4 := Lib.hid b4
          clear hD hl0 hn hff hpg hB hn4 b4 hls0 hj hlt HV
          go_wp2_with fail
          ((with_reducible refine k4.mono ?_); rintro e w5 ⟨rfl, bb, hb, hD, hc⟩)
          have B5 : Hid (Below w.heap.size w w5) := Lib.hid ((HB.out.trans (HB4.out.mono HB.out.size)).trans (hc.below (fun j q => by rw [q]; exact HF.out _ (.inl (.inl (.inl rfl)))) (Nat.le_trans HB.out.size HB4.out.size)))
          have hb5 : w.heap.size ≤ bb := Nat.le_trans (Nat.le_trans HB.out.size HB4.out.size) hb
          obtain ⟨a3, ha3⟩ : ∃ a3, a3 = a.told true bb := ⟨_, rfl⟩
          have HF3 : Hid (∀ j, a3.disk t d j → w.heap.size ≤ j) := Lib.hid (by rw [ha3]; exact told_far HF.out hb5)
          rw [← ha3] at hD
          have hoths : (DS.mk (X2.S.told true [0]) X2.s X2.l X2.u).blk 3 = X2.blk 3 := by unfold DS.blk Ch.bk; rw [told_bs]
          have kp := page_any b 7 (UInt8.ofNat 7) (wrap_byte (k := 7) (by omega)) w5 hD.dk.dev.tab
          have kq := fun (W : World) (hW : Below w5.heap.size w5 W) => (hD.after hW).programF told0m (b := 3) (k := 7) (by omega) (by omega) (by rw [hoths]; exact HH.out.2.1) (by rw [hoths]; exact HH.out.2.2.1) (lpg_length b (UInt8.ofNat 7)) (by omega)
          rw [show ((3 : Nat) : Int) = 3 from rfl, show ((7 : Nat) : Int) = 7 from rfl, hoths] at kq
          obtain ⟨pg7, hpg7⟩ : ∃ pg7, pg7 = lpg b (UInt8.ofNat 7) := ⟨_, rfl⟩
          rw [← hpg7] at kp kq
          have HPG := Lib.hid hpg7
          have KQ := Lib.hid kq
          clear k4 hD hc hb hb5 ha3 kq HB HB4 hpg7 hoths c0
          go_wp2_with ((with_reducible refine kp.mono ?_); rintro e w6 ⟨rfl, b6⟩; have k6 := KQ.out _ b6)
          ((with_reducible refine k6.mono ?_); rintro e w7 ⟨rfl, X', f', e', hD, lf, le, hls, hless, hmd, hlast, hc⟩)
          have hB7 := chg_far (B5.out.trans (b6.mono B5.out.size)) hc HF3.out
          have hl1 : X'.l.losses = 1 := by
            have h1 := HH.out.1
            have hls' : X'.l.losses + f' + e' ≤ X2.l.losses + 1 + 0 := hls
            have h2' : X2.l.losses < X'.l.losses := hless
            omega
          have hps : ∀ i, i < 8 → (X'.blk 3).pg.getD i [] = lpg b (UInt8.ofNat i) := fun i hi => by
            by_cases c : i = 7
            · subst c; rw [hlast]; exact HPG.out
            · rw [hmd i (by omega)]
              obtain ⟨q1, q2⟩ := HH.out.2.2.2 i (by omega)
              by_cases c2 : i < zs.length
              · obtain ⟨x, hx, e⟩ := q1 c2
                rw [e]
                exact lpg_turned b (UInt8.ofNat i) hx
              · rw [q2 (by omega)]
                exact (lpg_stable b (UInt8.ofNat i)).2
          have HD7 := Lib.hid hD
          have HL7 := Lib.hid (And.intro hl1 hps)
          have HB7 := Lib.hid hB7
          clear kp KQ b6 k6 hD lf le hls hless hmd hlast hc hl1 hps hB7 HH B5 HPG
          go_wp2_with fail
          go_loopw [9] (fun i wr => ∃ j : Nat, j ≤ 8 ∧ i = .int .i64 j ∧ Below w7.heap.size w7 wr) (fun i _ => 8 - (intOf i).toNat)
          case atStart => exact ⟨0, by omega, rfl, Below.refl _ _⟩
          case round =>
            rename_i wr
            obtain ⟨j, hj, rfl, hB⟩ := hrel
            have hDr := HD7.out.after hB
            by_cases hlt : j < 8
            · have kr := hDr.read (b := 3) (k := j) (by omega) (by omega)
              rw [HL7.out.2 j hlt, show ((3 : Nat) : Int) = 3 from rfl] at kr
              have kp := fun (W : World) (hW : Below wr.heap.size wr W) => page_any b (j : Int) (UInt8.ofNat j) (wrap_byte (by omega)) W (hDr.dk.dev.tab.below hW hDr.dk.dev.tab.lt)
              have hpl := lpg_length b (UInt8.ofNat j)
              obtain ⟨pg, hpg⟩ : ∃ pg, pg = lpg b (UInt8.ofNat j) := ⟨_, rfl⟩
              rw [← hpg] at kr kp hpl
              have hEq : ∀ w, (Op.equalIn 10000 28 (.agg (cl pg)) (.agg (cl pg))).run Tryd.prog w = .ok true w := fun w => by
                have := equalIn_pcl hpl hpl w
                rw [decide_eq_true rfl] at this
                exact this
              have HPL := Lib.hid hpl
              have KP := Lib.hid kp
              have HB := Lib.hid hB
              have hj5 : (j : Int) < 8 := by omega
              clear hDr hB kp hpl hpg
              go_wp2_with (first
                | ((with_reducible refine kr.mono ?_); rintro e w8 ⟨rfl, b8⟩; have N8 := PArr.new w8 pzeros_length)
                | (with_reducible refine wpl_pstore (.tmp 10) (.tmp 69) rfl rfl N8 rfl HPL.out rfl ?_; intro w9 N9 g9 e9))
              have B9 : Below wr.heap.size wr w9 := (b8.alloc b8.size _).grown g9 (by rw [World.size_alloc]; exact Nat.le_succ_of_le b8.size) (fun k e => by have := Option.some.inj e; have := b8.size; omega)
              obtain ⟨gp, hgp⟩ : ∃ gp, gp = w8.heap.size := ⟨_, rfl⟩
              simp only [← hgp]
              have S0 : PArr w9.drew gp pg := by rw [hgp]; exact N9
              clear hgp
              refine wp_region_held_drew (S := fun w' => PArr w' gp pg) (by kernel_rfl) S0 (fun _ => ?_)
              refine wpAnyH_take (i := 0) (v := .int .i64 0) rfl (by kernel_rfl) (by kernel_rfl) (by kernel_rfl) (fun _ _ _ h => h) (Or.inl ⟨by kernel_rfl, fun w _ => by go_simp⟩) S0 ?_
              refine wpAnyH_take (i := 1) (v := .bool false) rfl (by kernel_rfl) (by kernel_rfl) (by kernel_rfl) (fun _ _ _ h => h) (Or.inl ⟨by kernel_rfl, fun w _ => by go_simp⟩) S0 ?_
              refine wpAnyH_take (i := 2) (v := .bool false) rfl (by kernel_rfl) (by kernel_rfl) (by kernel_rfl) (fun _ _ _ h => h) (Or.inl ⟨by kernel_rfl, fun w _ => by go_simp⟩) S0 ?_
              refine wpAnyH_take (i := 3) (v := .agg (cl pg)) rfl (by kernel_rfl) (by kernel_rfl) (by kernel_rfl) (fun _ _ _ h => h) (yields_pload (g := gp) (.tmp 10) (by kernel_rfl) (by kernel_rfl) (by kernel_rfl) (fun _ h => h)) S0 ?_
              refine wpAnyH_take (i := 4) (v := .int .u8 ((b.toNat : Nat) : Int)) rfl (by kernel_rfl) (by kernel_rfl) (by kernel_rfl) (fun _ _ _ h => h) (Or.inl ⟨by kernel_rfl, fun w _ => by go_simp⟩) S0 ?_
              refine wpAnyH_take (i := 5) (v := .int .i64 (j : Int)) rfl (by kernel_rfl) (by kernel_rfl) (by kernel_rfl) (fun _ _ _ h => h) (Or.inl ⟨by kernel_rfl, fun w _ => by go_simp⟩) S0 ?_
              refine wpAnyH_ready (rs := [6]) (by kernel_rfl) (by simp) (AllReadyH.cons rfl (fun K hK => ?_) AllReadyH.nil)
              go_simp
              have kq := KP.out _ B9.drew
              ((with_reducible refine kq.mono ?_); rintro e w8x ⟨rfl, b8x⟩)
              have S1 : PArr w8x gp pg := S0.after b8x
              refine hK.out _ _ S1 (fun _ => ?_)
              clear hK K kq
              refine wpAnyH_take (i := 7) (v := .bool false) rfl (by kernel_rfl) (by kernel_rfl) (by kernel_rfl) (fun _ _ _ h => h) (Or.inl ⟨by kernel_rfl, fun w _ => by go_simp⟩) S1 ?_
              refine wpAnyH_take (i := 8) (v := .bool false) rfl (by kernel_rfl) (by kernel_rfl) (by kernel_rfl) (fun _ _ _ h => h) (Or.inl ⟨by kernel_rfl, fun w _ => by go_simp⟩) S1 ?_
              refine wpAnyH_done (by kernel_rfl) ?_ _
              have B8 : Below w7.heap.size w7 w8x := (HB.out.trans (B9.drew.mono HB.out.size)).trans (b8x.mono (Nat.le_trans HB.out.size B9.drew.size))
              clear S0 S1 N9
              go_wp2_with fail
              exact ⟨⟨j + 1, by omega, by go_num, B8⟩, by simp [intOf]; omega⟩
            · obtain rfl : j = 8 := by omega
              have klo := hDr.lost
              rw [HL7.out.1, show ((1 : Nat) : Int) = 1 from rfl] at klo
              have B8 := HB7.out.trans (hB.mono HB7.out.size)
              clear hDr hB hlt hj
              go_wp2_with ((with_reducible refine klo.mono ?_); rintro e w' ⟨rfl, rfl⟩)
              go_ret
              exact ⟨rfl, B8⟩
set_option maxRecDepth 100000 in
set_option maxHeartbeats 4000000 in
theorem diskMends_any (v : Value) (bb : Int) (w : World) (ht : Tab w) (hv : ∃ zs, Nums w w.heap.size .i64 v zs) (hb : (Lit.int .u8 bb).wf = true) :
    Calls Tryd.prog 4 #[v, .int .u8 bb] w fun e w' => e = .returned (.bool true) ∧ Below w.heap.size w w' := by
  obtain ⟨zs, hv⟩ := hv
  obtain ⟨b, rfl⟩ := u8_wf hb
  obtain ⟨A, cap, rfl, _⟩ := id hv
  by_cases h : zs.length ≤ 8
  · exact mends_main2 A cap zs b w ht hv h
  · have d1 : decide ((8 : Int) < (zs.length : Int)) = true := by simp; omega
    have ks := dspeaks_any w ht
    clear hv ht h
    go_enter Tryd.func4, Tryd.ntmps4
    go_wp2_with ((with_reducible refine ks.mono ?_); rintro e w1 ⟨rfl, b1⟩)
    go_ret
    exact ⟨rfl, b1⟩
end Go.Proofs.YtaafelhjcmgkdaaDoor

/- All blocks of a disk in a script of a law, while the power lasts. Condition: the disk is in order; few calls so far. -/
namespace Go.Proofs.YtaafelhjcmgkdaaDoor
open Go.RowKit
/-- what each block holds -/
def HasAll (X : DS) (N : Nat) (F : Nat → List (List UInt8)) : Prop := ∀ y, y < N - 6 → (F y).length ≤ 8 ∧ (∀ q ∈ F y, Stable q) ∧ Has (X.blk y) (F y)
def upd1 (F : Nat → List (List UInt8)) (b : Nat) (L : List (List UInt8)) : Nat → List (List UInt8) := fun y => if y = b then L else F y
def there (N : Nat) (b k : Int) : Bool := decide (0 ≤ b ∧ b < ((N - 6 : Nat) : Int) ∧ 0 ≤ k ∧ k < 8)
/-- what a Program answers, and leaves -/
def progE (N : Nat) (F : Nat → List (List UInt8)) (b k : Int) : Int := if there N b k then (if k = ((F b.toNat).length : Int) then 0 else 32) else 1
def progF (N : Nat) (F : Nat → List (List UInt8)) (b k : Int) (p : List UInt8) : Nat → List (List UInt8) := if there N b k then (if k = ((F b.toNat).length : Int) then upd1 F b.toNat (F b.toNat ++ [p]) else F) else F
def eraE (N : Nat) (b : Int) : Int := if there N b 0 then 0 else 1
def eraF (N : Nat) (F : Nat → List (List UInt8)) (b : Int) : Nat → List (List UInt8) := if there N b 0 then upd1 F b.toNat [] else F
section
variable {w w' : World} {d t : Nat} {a : At} {X : DS} {N f e K : Nat} {F : Nat → List (List UInt8)}
theorem Disk1.stepP (h : Disk1 w d t a X N f e K) (hF : HasAll X N F) (b k : Int) {p : List UInt8} (hp : Stable p) (hK : K ≤ 4000) :
    Calls Tryd.prog 9 #[.pointer (some ⟨d, 0, none⟩), .int .i64 b, .int .i64 k, .agg (cl p)] w fun er w' => er = .returned (.int .i64 (progE N F b k)) ∧ ∃ X' f' e', Disk1 w' d t a X' N f' e' (K + 5) ∧ X'.l.losses + f' + e' ≤ X.l.losses + f + e ∧ HasAll X' N (progF N F b k p) ∧ Chg w w' (a.disk t d) := by
  have hmore : ∀ {w'}, Disk1 w' d t a X N f e K → Disk1 w' d t a X N f e (K + 5) := fun q => ⟨q.dk, q.ok.more (by omega), q.on, q.last, q.u, few_le (by omega) q.few⟩
  unfold progE progF
  by_cases c : 0 ≤ b ∧ b < ((N - 6 : Nat) : Int) ∧ 0 ≤ k ∧ k < 8
  · have ct : there N b k = true := decide_eq_true c
    rw [ct]
    simp only [if_true]
    obtain ⟨bn, rfl⟩ : ∃ n : Nat, b = n := ⟨b.toNat, by omega⟩
    obtain ⟨kn, rfl⟩ : ∃ n : Nat, k = n := ⟨k.toNat, by omega⟩
    rw [Int.toNat_natCast]
    have hb : bn < N - 6 := by omega
    obtain ⟨h1, h2, h3⟩ := hF bn hb
    by_cases ck : kn = (F bn).length
    · subst ck
      rw [if_pos rfl, if_pos rfl]
      refine (h.program hb h3 (by omega) h2 hp hK).mono ?_
      rintro er w' ⟨rfl, X', f', e', q1, _, _, q4, q5, q6, _, _, q9⟩
      refine ⟨rfl, X', f', e', q1, q4, fun y hy => ?_, q9⟩
      unfold upd1
      by_cases cy : y = bn
      · subst cy
        rw [if_pos rfl]
        refine ⟨by rw [List.length_append, List.length_singleton]; omega, fun q hq => ?_, q5⟩
        rcases List.mem_append.1 hq with z | z
        · exact h2 q z
        · rw [List.mem_singleton.1 z]; exact hp
      · rw [if_neg cy, q6 y hy cy]
        exact hF y hy
    · rw [if_neg (by omega), if_neg (by omega)]
      refine (h.refused hp.1 (h.order hb (by omega) (by rw [h3.nx]; exact fun q => ck q.symm) p) hK).mono ?_
      rintro er w' ⟨rfl, q1, q2⟩
      exact ⟨rfl, X, f, e, hmore q1, Nat.le_refl _, hF, q2⟩
  · have ct : there N b k = false := decide_eq_false c
    rw [ct]
    simp only [Bool.false_eq_true, if_false]
    refine (h.refused hp.1 (h.wrong c p) hK).mono ?_
    rintro er w' ⟨rfl, q1, q2⟩
    exact ⟨rfl, X, f, e, hmore q1, Nat.le_refl _, hF, q2⟩
theorem Disk1.stepE (h : Disk1 w d t a X N f e K) (hF : HasAll X N F) (b : Int) (hK : K ≤ 4000) :
    Calls Tryd.prog 16 #[.pointer (some ⟨d, 0, none⟩), .int .i64 b] w fun er w' => er = .returned (.int .i64 (eraE N b)) ∧ ∃ X' f' e', Disk1 w' d t a X' N f' e' (K + 5) ∧ X'.l.losses + f' + e' ≤ X.l.losses + f + e ∧ HasAll X' N (eraF N F b) ∧ Chg w w' (a.disk t d) := by
  unfold eraE eraF
  by_cases c : 0 ≤ b ∧ b < ((N - 6 : Nat) : Int)
  · have ct : there N b 0 = true := decide_eq_true ⟨c.1, c.2, by omega, by omega⟩
    rw [ct]
    simp only [if_true]
    obtain ⟨bn, rfl⟩ : ∃ n : Nat, b = n := ⟨b.toNat, by omega⟩
    rw [Int.toNat_natCast]
    have hb : bn < N - 6 := by omega
    refine (h.erase hb hK).mono ?_
    rintro er w' ⟨rfl, X', f', e', q1, _, _, q4, q5, q6, q9⟩
    refine ⟨rfl, X', f', e', q1, q4, fun y hy => ?_, q9⟩
    unfold upd1
    by_cases cy : y = bn
    · subst cy
      rw [if_pos rfl]
      exact ⟨by simp, fun q hq => (by cases hq), q5⟩
    · rw [if_neg cy, q6 y hy cy]
      exact hF y hy
  · have ct : there N b 0 = false := decide_eq_false (fun q => c ⟨q.1, q.2.1⟩)
    rw [ct]
    simp only [Bool.false_eq_true, if_false]
    refine (h.noErase c hK).mono ?_
    rintro er w' ⟨rfl, q1, q2⟩
    exact ⟨rfl, X, f, e, ⟨q1.dk, q1.ok.more (by omega), q1.on, q1.last, q1.u, few_le (by omega) q1.few⟩, Nat.le_refl _, hF, q2⟩
theorem progF_other {b k : Int} {p : List UInt8} {y : Nat} (h : b ≠ (y : Int)) : progF N F b k p y = F y := by
  unfold progF
  split
  · rename_i c
    have c' := of_decide_eq_true c
    split
    · unfold upd1
      rw [if_neg (by omega)]
    · rfl
  · rfl
theorem eraF_other {b : Int} {y : Nat} (h : b ≠ (y : Int)) : eraF N F b y = F y := by
  unfold eraF
  split
  · rename_i c
    have c' := of_decide_eq_true c
    unfold upd1
    rw [if_neg (by omega)]
  · rfl
theorem hasAll_told {pr : Bool} {zs : List Int} (h : HasAll X N F) : HasAll ⟨X.S.told pr zs, X.s, X.l, X.u⟩ N F := fun y hy => by
  have e : (DS.mk (X.S.told pr zs) X.s X.l X.u).blk y = X.blk y := by unfold DS.blk Ch.bk; rw [told_bs]
  rw [e]
  exact h y hy
end
/-- the numbers of the acts that are to fail -/
theorem low3 (z : Int) {k m : Nat} (hm : m = 2 ^ k) (hk : k ≤ 16) : ∃ x : Nat, bits .and .i64 z ((m - 1 : Nat) : Int) = (x : Int) ∧ x < m := by
  have h2 : 0 < 2 ^ k := Nat.two_pow_pos k
  have hle : 2 ^ k ≤ 2 ^ 16 := Nat.pow_le_pow_right (by omega) hk
  have e : (BitVec.ofInt 64 z &&& BitVec.ofInt 64 ((m - 1 : Nat) : Int)).toNat = (z % 18446744073709551616).toNat % 2 ^ k := by
    rw [BitVec.toNat_and, BitVec.ofInt_natCast, BitVec.toNat_ofNat, Nat.mod_eq_of_lt (by omega), hm, Nat.and_two_pow_sub_one_eq_mod, BitVec.toNat_ofInt]
    rfl
  have hlt := Nat.mod_lt ((z % 18446744073709551616).toNat) h2
  refine ⟨(z % 18446744073709551616).toNat % 2 ^ k, ?_, by omega⟩
  unfold bits
  show IntKind.i64.wrap ((BitVec.ofInt 64 z &&& BitVec.ofInt 64 ((m - 1 : Nat) : Int)).toNat : Int) = _
  rw [e, IntKind.wrap_i64]
  omega
end Go.Proofs.YtaafelhjcmgkdaaDoor

/- The argument that is a script of disk's laws: what it reads as, how an element is loaded and kept. No condition. -/
namespace Go.Proofs.YtaafelhjcmgkdaaDoor
open Go.RowKit Go.ChangeShapes Go.WideShapes Go.ChangeAt
/-- a call of a script -/
structure Op7 where
  k : Int
  b : Int
  p : Int
  n : Int
  keep : Int
  byte : Int
  next : Bool
instance : Inhabited Op7 := ⟨⟨0, 0, 0, 0, 0, 0, false⟩⟩
def Op7.row (o : Op7) : List Value := [.int .i64 o.k, .int .i64 o.b, .int .i64 o.p, .int .i64 o.n, .int .i64 o.keep, .int .u8 o.byte, .bool o.next]
structure Op7.ok (o : Op7) : Prop where
  k : (Lit.int .i64 o.k).wf = true
  b : (Lit.int .i64 o.b).wf = true
  p : (Lit.int .i64 o.p).wf = true
  n : (Lit.int .i64 o.n).wf = true
  keep : (Lit.int .i64 o.keep).wf = true
  byte : (Lit.int .u8 o.byte).wf = true
/-- v is a slice of the calls os -/
def Script7 (w : World) (B : Nat) (v : Value) (os : List Op7) : Prop :=
  ∃ A c, v = .slice A os.length c ∧ os.length ≤ c ∧ c ≤ maxLen ∧ (∀ i o, os[i]? = some o → ∃ a, A = some a ∧ a.block < B ∧ ∀ j u, o.row[j]? = some u → w.cell? (a.add (i * 7 + j)) = some u) ∧ ∀ o ∈ os, o.ok
section
variable {H : Type} {enc : TypeId × Value → H} {w : World} {r : Reach} {base b0 : Nat} {spare : Nat → Bool} {held : Bool} {v : Value} {d : DataW H} {ps : List MemPlace}
theorem op7_cells : Tryd.prog.cellsOf 46 = 7 := by kernel_rfl
theorem open_op7_slice {t e : TypeId} {fs : Array Field} {fuel : Nat} {P : Program} {cs : List Value} {x : DataW H × List MemPlace} (ht : P.underlying t = some (.slice e)) (he : P.underlying e = some (.struct fs))
    (hone : Go.Deep.oneCellFields P fs = true) (hC : P.cellsOf e = fs.size) (h : DataW.trod enc P w base spare held fuel t cs = some x) :
    cs = [.slice none 0 0] ∨
    ∃ (a : Addr) (len cap m : Nat), cs = [.slice (some a) len cap] ∧ len ≤ cap ∧ cap ≤ maxLen ∧ len ≤ m ∧
      ∀ i, i < m → ∃ n, ∀ (j : Nat) (f : Field), fs[j]? = some f → ∃ (v : Value) (y : DataW H × List MemPlace), w.cell? (a.add (i * fs.size + j)) = some v ∧ DataW.trod enc P w base spare held n f.type [v] = some y := by
  rcases Go.Deep.open_slice ht h with h0 | ⟨a, len, cap, m, n, D, Pl, hcs, hb, hl, hm, hmm, hx, hi⟩
  · exact .inl h0.1
  · refine .inr ⟨a, len, cap, m, hcs, hl, hm, by rw [hmm]; split <;> omega, fun i him => ?_⟩
    obtain ⟨cs', hc, ht'⟩ := hi i him
    rw [hC] at hc
    obtain ⟨ys, n', hn', hy, hlen, hyl, hf⟩ := DataW.trod_struct he ht'
    obtain ⟨_, hcl, hat⟩ := World.cells?_some hc
    refine ⟨n', fun j f hj => ?_⟩
    obtain ⟨ho, hk⟩ := Go.Deep.hone_of hone j f hj
    have hjl : j < fs.size := (Array.getElem?_eq_some_iff.1 hj).1
    have hcell := hat j hjl
    have hv : cs'[j]? = some (cs'[j]'(by omega)) := List.getElem?_eq_getElem (by omega)
    have h1 := hf j f hj
    rw [ho, hk] at h1
    have hone' : (cs'.drop j).take 1 = [cs'[j]'(by omega)] := by
      rw [List.drop_eq_getElem_cons (by omega)]
      rfl
    rw [hone'] at h1
    have hys : ys[j]? = some (ys[j]'(by omega)) := List.getElem?_eq_getElem (by omega)
    refine ⟨_, _, ?_, h1.trans hys⟩
    rw [← Go.Deep.add_add, hcell, hv]
set_option maxRecDepth 100000 in
theorem open_script7 (hval : Value.okWide Tryd.prog w r b0 44 v) (h : DataW.Trod enc Tryd.prog w base spare held 44 v d ps) : ∃ os, Script7 w w.heap.size v os := by
  obtain ⟨a, len, cap, rfl⟩ := okWide_slice Tryd.underlying44 hval
  obtain ⟨fuel, hf⟩ := h
  have hf' : DataW.trod enc Tryd.prog w base spare held fuel 44 [.slice a len cap] = some (d, ps) := hf
  rcases open_op7_slice Tryd.underlying44 Tryd.underlying46 (by kernel_rfl) (by kernel_rfl) hf' with hcs | ⟨a', len', cap', m, hcs, hl, hm, hlm, hel⟩
  · simp only [List.cons.injEq, and_true] at hcs
    rw [hcs]
    exact ⟨[], none, 0, rfl, by simp, by simp [maxLen], fun i o h => by simp at h, fun o h => by simp at h⟩
  · simp only [List.cons.injEq, and_true, Value.slice.injEq] at hcs
    obtain ⟨rfl, rfl, rfl⟩ := hcs
    have each : ∀ i, i < len → ∃ o : Op7, o.ok ∧ a'.block < w.heap.size ∧ ∀ j u, o.row[j]? = some u → w.cell? (a'.add (i * 7 + j)) = some u := by
      intro i hi
      obtain ⟨n, hn⟩ := hel i (by omega)
      obtain ⟨v0, y0, c0, t0⟩ := hn 0 _ rfl
      obtain ⟨v1, y1, c1, t1⟩ := hn 1 _ rfl
      obtain ⟨v2, y2, c2, t2⟩ := hn 2 _ rfl
      obtain ⟨v3, y3, c3, t3⟩ := hn 3 _ rfl
      obtain ⟨v4, y4, c4, t4⟩ := hn 4 _ rfl
      obtain ⟨v5, y5, c5, t5⟩ := hn 5 _ rfl
      obtain ⟨v6, y6, c6, t6⟩ := hn 6 _ rfl
      obtain ⟨z0, e0, _, w0⟩ := DataW.trod_int Tryd.underlying3 t0
      obtain ⟨z1, e1, _, w1⟩ := DataW.trod_int Tryd.underlying3 t1
      obtain ⟨z2, e2, _, w2⟩ := DataW.trod_int Tryd.underlying3 t2
      obtain ⟨z3, e3, _, w3⟩ := DataW.trod_int Tryd.underlying3 t3
      obtain ⟨z4, e4, _, w4⟩ := DataW.trod_int Tryd.underlying3 t4
      obtain ⟨z5, e5, _, w5⟩ := DataW.trod_int Tryd.underlying5 t5
      obtain ⟨z6, e6, _⟩ := DataW.trod_bool Tryd.underlying4 t6
      obtain rfl : v0 = _ := List.head_eq_of_cons_eq e0
      obtain rfl : v1 = _ := List.head_eq_of_cons_eq e1
      obtain rfl : v2 = _ := List.head_eq_of_cons_eq e2
      obtain rfl : v3 = _ := List.head_eq_of_cons_eq e3
      obtain rfl : v4 = _ := List.head_eq_of_cons_eq e4
      obtain rfl : v5 = _ := List.head_eq_of_cons_eq e5
      obtain rfl : v6 = _ := List.head_eq_of_cons_eq e6
      refine ⟨⟨z0, z1, z2, z3, z4, z5, z6⟩, ⟨w0, w1, w2, w3, w4, w5⟩, ?_, ?_⟩
      · have := World.block_lt_of_cell? w _ c0
        rwa [add_block] at this
      · intro j u hu
        match j, hu with
        | 0, hu => cases hu; exact c0
        | 1, hu => cases hu; exact c1
        | 2, hu => cases hu; exact c2
        | 3, hu => cases hu; exact c3
        | 4, hu => cases hu; exact c4
        | 5, hu => cases hu; exact c5
        | 6, hu => cases hu; exact c6
        | j + 7, hu => exact absurd hu (by simp [Op7.row])
    obtain ⟨f, hfb⟩ := Deep.choose_lt (α := Op7) (n := len) (p := fun i o => o.ok ∧ a'.block < w.heap.size ∧ ∀ j u, o.row[j]? = some u → w.cell? (a'.add (i * 7 + j)) = some u) each
    refine ⟨(List.range len).map f, some a', cap, by simp, by simpa using hl, hm, fun i o ho => ?_, fun o ho => ?_⟩
    · have hi : i < len := by have := (List.getElem?_eq_some_iff.1 ho).1; simpa using this
      have : f i = o := by simpa [hi] using ho
      rw [← this]
      exact ⟨a', rfl, (hfb i hi).2.1, (hfb i hi).2.2⟩
    · obtain ⟨i, hi, rfl⟩ := List.mem_map.1 ho
      exact (hfb i (by simpa using hi)).1
/-- an element is loaded whole -/
theorem op7_size : (Tryd.prog.info? 46).map (·.size) = some 7 := by kernel_rfl
theorem op7_load (q : Addr) (o : Op7) (w : World) (h : ∀ j u, o.row[j]? = some u → w.cell? (q.add j) = some u) : (loadVar 46 q).run Tryd.prog w = .ok (.agg o.row.toArray) w := by
  have h1 := run_loadCells_list (P := Tryd.prog) w q o.row h
  have h2 : (isAgg 46).run Tryd.prog w = .ok true w := by kernel_rfl
  have h3 : (sizeOf 46).run Tryd.prog w = .ok 7 w := by kernel_rfl
  unfold loadVar
  simp only [Sem.run_bind, h2, Result.andThen_ok, if_true, h3, Sem.run_pure]
  have hl : o.row.length = 7 := rfl
  rw [hl] at h1
  rw [h1]
  rfl
end
def zOp7 : List Value := [.int .i64 0, .int .i64 0, .int .i64 0, .int .i64 0, .int .i64 0, .int .u8 0, .bool false]
theorem zeroOp7 (w : World) : (zeroValue 46).run Tryd.prog w = .ok (.agg zOp7.toArray) w := by
  kernel_rfl
theorem aggOp7 (w : World) : (isAgg 46).run Tryd.prog w = .ok true w := by kernel_rfl
theorem sizeOp7 (w : World) : (sizeOf 46).run Tryd.prog w = .ok 7 w := by kernel_rfl
theorem Op7.one (o : Op7) : ∀ v ∈ o.row, v.oneCell' = true := by
  intro v hv
  simp only [Op7.row, List.mem_cons, List.not_mem_nil, or_false] at hv
  rcases hv with rfl | rfl | rfl | rfl | rfl | rfl | rfl <;> rfl
/-- an element is loaded whole, as the walk meets it -/
theorem wpl_o7load {ops : Array Oper} {rest : List Oper} {o : Oper} {a : Act} {w : World} {q : Addr} {v : Value} {Q : Exit → Act → World → Prop} (x : Operand) (ho : o.op = .load 46 x) (hgd : Region.wanted o (yielded ops a.tmps) = true)
    (hx : a.eval x = .pointer (some q)) (hl : (loadVar 46 q).run Tryd.prog w = .ok v w) (h : wpList Tryd.prog ops Q rest (a.put o.dst v) w) : wpList Tryd.prog ops Q (o :: rest) a w := by
  refine BigFrame.wpList_want hgd fun K hK => ?_
  unfold Oper.wp execOp
  simp only [ho, hx, Instr.loadAt, Instr.sureAddr, Sem.run_bind, Sem.run_pure, Result.andThen_ok, hl]
  exact hK _ _ h
/-- a script's element in a later world -/
theorem Script7.at_ {w : World} {B : Nat} {A : Option Addr} {c : Nat} {os : List Op7} (h : Script7 w B (.slice A os.length c) os) {i : Nat} (hi : i < os.length) {w' : World} (hb : Below B w w') :
    ∃ p, A = some p ∧ (os[i]).ok ∧ (loadVar 46 (p.add (i * 7))).run Tryd.prog w' = .ok (.agg (os[i]).row.toArray) w' := by
  obtain ⟨A', c', e, _, _, h1, h2⟩ := h
  obtain ⟨rfl, _, _⟩ := Value.slice.inj e
  obtain ⟨p, rfl, hp, hc⟩ := h1 i _ (List.getElem?_eq_getElem hi)
  refine ⟨p, rfl, h2 _ (List.getElem_mem hi), op7_load _ _ _ fun j u hu => ?_⟩
  rw [Go.Deep.add_add, hb.cell (by rw [add_block]; exact hp)]
  exact hc j u hu
end Go.Proofs.YtaafelhjcmgkdaaDoor

/- The walk of DiskApart: it answers true, and changes nothing that was there. Condition: the table of the check sum holds its sixteen numbers. -/
namespace Go.Proofs.YtaafelhjcmgkdaaDoor
open Go.RowKit
theorem dintTy : OneCell Tryd.prog 41 3 (.int .i64 0) 8 := OneCell.mk' Tryd.underlying41 (by kernel_rfl) (by decide)
def zv (L : List Nat) : List Value := L.map fun z : Nat => Value.int .i64 (z : Int)
theorem wf_small {z : Nat} (h : z < 100) : (Lit.int .i64 (z : Int)).wf = true := by
  simp only [Lit.wf, Bool.and_eq_true, IntKind.min, IntKind.max, IntKind.signed, IntKind.bits]
  simp
  omega
theorem nums_own {w : World} {base n c : Nat} {A : Option Addr} {L : List Nat} (h : w.ownsRow base 3 1 (.slice A n c) n (zv L)) (hn : L.length = n) (hL : ∀ z ∈ L, z < 100) : Nums w w.heap.size .i64 (.slice A n c) (L.map fun z : Nat => (z : Int)) := by
  obtain ⟨A', c', e, h1, h2⟩ := ownsRow_shape h
  cases e
  refine ⟨A, c, by rw [List.length_map, hn], by rw [List.length_map, hn]; exact h1, h2, ?_, fun z hz => ?_⟩
  · have := ownsRow_row h
    unfold zv at this
    rw [List.map_map]
    exact this
  · obtain ⟨m, hm, rfl⟩ := List.mem_map.1 hz
    exact wf_small (hL m hm)
theorem lpg_of {y : UInt8} {k : Nat} {b : UInt8} (h : b = y) : lpg b (UInt8.ofNat k) = lpg y (UInt8.ofNat k) := by rw [h]
set_option maxRecDepth 100000 in
set_option maxHeartbeats 64000000 in
theorem apart_main (A : Option Addr) (cap : Nat) (os : List Op7) (A2 : Option Addr) (cap2 : Nat) (zs : List Int) (b : UInt8) (w : World) (ht : Tab w) (hs : Script7 w w.heap.size (.slice A os.length cap) os) (hv : Nums w w.heap.size .i64 (.slice A2 zs.length cap2) zs) (h60 : os.length ≤ 60) (h3 : zs.length ≤ 3) :
    Calls Tryd.prog 5 #[.slice A os.length cap, .slice A2 zs.length cap2, .int .u8 ((b.toNat : Nat) : Int)] w fun e w' => e = .returned (.bool true) ∧ Below w.heap.size w w' := by
  have d1 : decide ((60 : Int) < (os.length : Int)) = false := by simp; omega
  have d2 : decide ((3 : Int) < (zs.length : Int)) = false := by simp; omega
  have ks := dspeaks_any w ht
  have z := zeroPage
  have zo := zeroOp7
  have HS := Lib.hid hs
  have HV := Lib.hid hv
  have HT := Lib.hid ht
  have H60 := Lib.hid h60
  have H3 := Lib.hid h3
  clear hs hv ht h60 h3
  go_enter Tryd.func5, Tryd.ntmps5
  go_wp2_with ((with_reducible refine ks.mono ?_); rintro e w1 ⟨rfl, b1⟩)
  have B1 := Lib.hid b1
  have kl := laid_any 24 (by omega) fresh24d loss24 w1 (HT.out.below b1 HT.out.lt)
  rw [show ((24 : Nat) : Int) = 24 from rfl] at kl
  clear ks b1
  go_wp2_with ((with_reducible refine kl.mono ?_); rintro e w2 ⟨d, t, a, X0, rfl, hX⟩)
  have HX := Lib.hid hX
  have h0 : Hid (X0.l.losses = 0) := Lib.hid (by rw [hX.lay]; exact loss24)
  have B2 : Hid (Below w.heap.size w w2) := Lib.hid (B1.out.trans (hX.below.mono B1.out.size))
  have HF : Hid (∀ j, a.disk t d j → w.heap.size ≤ j) := Lib.hid (fun j hj => Nat.le_trans B1.out.size (hX.far j hj))
  clear kl hX B1
  go_wp2_with fail
  go_loopw [8] (fun i wr => ∃ j : Nat, j ≤ 8 ∧ i = .int .i64 j ∧ ∃ (X : DS) (F : Nat → List (List UInt8)), Disk1 wr d t a X 24 0 0 (1 + 5 * j) ∧ X.l.losses = 0 ∧ HasAll X 24 F ∧ F 7 = lpgs b j ∧ Below w.heap.size w wr) (fun i _ => 8 - (intOf i).toNat)
  case atStart => exact ⟨0, by omega, rfl, X0, fun _ => [], HX.out.one, h0.out, fun y hy => ⟨by simp, (fun q h => by cases h), HX.out.blank y hy⟩, rfl, B2.out⟩
  case round =>
    rename_i wr
    obtain ⟨j, hj, rfl, X, F, hD, hl0, hH, hF7, hB⟩ := hrel
    clear HX B2 h0
    by_cases hlt : j < 8
    · have kp := page_any b (j : Int) (UInt8.ofNat j) (wrap_byte (by omega)) wr hD.dk.dev.tab
      have kq := fun (W : World) (hW : Below wr.heap.size wr W) => (hD.after hW).stepP hH 7 (j : Int) (lpg_stable b (UInt8.ofNat j)) (by omega)
      have e1 : progE 24 F 7 (j : Int) = 0 := by
        unfold progE
        rw [show there 24 7 (j : Int) = true from decide_eq_true (by omega), if_pos rfl, show (7 : Int).toNat = 7 from rfl, hF7, lpgs_length, if_pos rfl]
      have e2 : progF 24 F 7 (j : Int) (lpg b (UInt8.ofNat j)) 7 = lpgs b (j + 1) := by
        unfold progF upd1
        rw [show there 24 7 (j : Int) = true from decide_eq_true (by omega), if_pos rfl, show (7 : Int).toNat = 7 from rfl, hF7, lpgs_length, if_pos rfl]
        simp only [if_true]
        rw [lpgs_succ]
      rw [e1] at kq
      have KQ := Lib.hid kq
      have HB := Lib.hid hB
      have HH := Lib.hid (And.intro hl0 e2)
      have hj5 : (j : Int) < 8 := by omega
      clear hD hH hl0 hB kq hF7 e1 e2
      go_wp2_with ((with_reducible refine kp.mono ?_); rintro e w6 ⟨rfl, b6⟩; have k6 := KQ.out _ b6)
      ((with_reducible refine k6.mono ?_); rintro e w7 ⟨rfl, X', f', e', hD, hls, hH, hc⟩)
      have hB7 := chg_far (HB.out.trans (b6.mono HB.out.size)) hc HF.out
      obtain ⟨rfl, rfl, hl1⟩ : f' = 0 ∧ e' = 0 ∧ X'.l.losses = 0 := by
        have := HH.out.1
        omega
      have HR := Lib.hid (And.intro hD (And.intro hl1 (And.intro hH hB7)))
      clear kp KQ b6 k6 hD hls hH hc hB7 HB hl1
      go_wp2_with fail
      exact ⟨⟨j + 1, by omega, by go_num, X', _, HR.out.1, HR.out.2.1, HR.out.2.2.1, HH.out.2, HR.out.2.2.2⟩, by simp [intOf]; omega⟩
    · obtain rfl : j = 8 := by omega
      obtain ⟨W, hW⟩ : ∃ W, W = wr := ⟨_, rfl⟩
      subst hW
      have HD := Lib.hid hD
      have HL := Lib.hid hl0
      have HH := Lib.hid (And.intro hH hF7)
      have HB := Lib.hid hB
      clear hD hH hB hl0 hj hlt hF7
      simp only [show ((8 : Nat) : Int) = 8 from rfl]
      go_wp2_with fail
      go_loopw [9, 44] (fun v i wr => ∃ j : Nat, j ≤ zs.length ∧ i = .int .i64 j ∧ ∃ A c L, v = .slice A j c ∧ L.length = j ∧ (∀ z ∈ L, z < 100) ∧ wr.ownsRow W.heap.size 3 1 (.slice A j c) j (zv L) ∧ Below W.heap.size W wr) (fun _ i _ => zs.length - (intOf i).toNat)
      case atStart => exact ⟨0, Nat.zero_le _, rfl, some ⟨W.heap.size, 0, none⟩, 0, [], rfl, rfl, (fun z h => by cases h), ⟨rfl, .inr ⟨W.heap.size, 0, #[], rfl, Nat.le_refl _, heap_alloc_last W _, Nat.le_refl _, Nat.zero_le _, rfl, rfl⟩⟩, (Below.refl _ _).alloc (Nat.le_refl _) _⟩
      case round =>
        rename_i wr
        obtain ⟨j, hj, rfl, A', c, L, rfl, hLj, hL, hO, hB⟩ := hrel
        by_cases hlt : j < zs.length
        · obtain ⟨p, rfl, x0, hcell⟩ := nums_at HV.out hlt (HB.out.trans (hB.mono HB.out.size))
          obtain ⟨x, hx, hx4⟩ := low3 x0 (k := 2) (m := 4) rfl (by omega)
          rw [show ((4 - 1 : Nat) : Int) = 3 from rfl] at hx
          have hj3 : (j : Int) < 3 := by have := H3.out; omega
          have hx4i : (x : Int) < 4 := by omega
          have hbr := hB.alloc hB.size (.cells #[.int .i64 (4 * (j : Int) + (x : Int))] 3)
          have hbs : W.heap.size ≤ (wr.alloc (.cells #[.int .i64 (4 * (j : Int) + (x : Int))] 3)).heap.size := hbr.size
          have R2 : Row (wr.alloc (.cells #[.int .i64 (4 * (j : Int) + (x : Int))] 3)) (wr.heap.size + 1) (some ⟨wr.heap.size, 0, none⟩) [.int .i64 (4 * (j : Int) + (x : Int))] := Row.new wr #[.int .i64 (4 * (j : Int) + (x : Int))] 3 (0, 0) wr.heap.size rfl (Nat.lt_succ_self _)
          have O2 := World.ownsRow.alloc hO (.cells #[.int .i64 (4 * (j : Int) + (x : Int))] 3)
          have HB2 := Lib.hid hbr
          have HOO := Lib.hid O2
          have HR := Lib.hid R2
          have HL2 := Lib.hid (And.intro hLj (And.intro hL (And.intro hx4 hlt)))
          have hmx : j + 1 ≤ maxLen := by simp only [maxLen]; have := H3.out; omega
          have HM := Lib.hid hmx
          clear hbr R2 O2 hO hB hL hLj hmx hx4
          go_wp2_with (at_builtin; refine wpl_append_vals dintTy rfl (.tmp 49) (.tmp 55) rfl j rfl HOO.out _ _ _ [.int .i64 (4 * (j : Int) + (x : Int))] 1 rfl rfl HR.out (by intro u hu; simp at hu; subst hu; rfl) (by omega) HM.out hbs (j + 1) rfl ?_; intro A8 c8 w8 O8 g8 h8)
          have b9 : Below W.heap.size W w8 := HB2.out.grown g8 hbs (fun k e => (World.ownsRow.lt HOO.out k e).1)
          have O9 : w8.ownsRow W.heap.size 3 1 (.slice A8 (j + 1) c8) (j + 1) (zv (L ++ [4 * j + x])) := by
            unfold zv
            rw [List.map_append]
            have e : (([4 * j + x] : List Nat).map fun z : Nat => Value.int .i64 (z : Int)) = [.int .i64 (4 * (j : Int) + (x : Int))] := by
              simp only [List.map_cons, List.map_nil]
              rw [show ((4 * j + x : Nat) : Int) = 4 * (j : Int) + (x : Int) by omega]
            rw [e]
            exact O8
          exact ⟨⟨j + 1, by omega, by go_num, A8, c8, _, rfl, by rw [List.length_append, HL2.out.1]; rfl, fun z hz => (by
            rcases List.mem_append.1 hz with q | q
            · exact HL2.out.2.1 z q
            · rw [List.mem_singleton.1 q]; have := HL2.out.2.2.1; omega), O9, b9⟩, by simp [intOf]; omega⟩
        · obtain rfl : j = zs.length := by omega
          obtain ⟨W2, hW2⟩ : ∃ W2, W2 = wr := ⟨_, rfl⟩
          subst hW2
          have hD2 := HD.out.after hB
          have hn4 := nums_own hO hLj hL
          have c0 := hD2.dk.cells.1
          have hll : (L.map fun z : Nat => (z : Int)).length = zs.length := by rw [List.length_map, hLj]
          have k4 := hD2.fail true _ _ (by rw [hll]; have := H3.out; omega) hn4 (by show X.l.losses + (L.map fun z : Nat => (z : Int)).length + 0 ≤ 4; rw [hll, HL.out]; have := H3.out; omega)
          have HB2 := Lib.hid (HB.out.trans (hB.mono HB.out.size))
          have hH4 := Lib.hid (hasAll_told (pr := true) (zs := L.map fun z : Nat => (z : Int)) HH.out.1)
          clear hD2 hn4 hll hO hB HD HL HB HV hLj hL hj hlt
          go_wp2_with fail
          ((with_reducible refine k4.mono ?_); rintro e w5 ⟨rfl, bb, hb, hD, hc⟩)
          have B5 : Hid (Below w.heap.size w w5) := Lib.hid (HB2.out.trans (hc.below (fun j q => by rw [q]; exact HF.out _ (.inl (.inl (.inl rfl)))) HB2.out.size))
          have hb5 : w.heap.size ≤ bb := Nat.le_trans HB2.out.size hb
          obtain ⟨a3, ha3⟩ : ∃ a3, a3 = a.told true bb := ⟨_, rfl⟩
          have HF3 : Hid (∀ j, a3.disk t d j → w.heap.size ≤ j) := Lib.hid (by rw [ha3]; exact told_far HF.out hb5)
          rw [← ha3] at hD
          obtain ⟨X3, hX3⟩ : ∃ X3, X3 = DS.mk (X.S.told true (L.map fun z : Nat => (z : Int))) X.s X.l X.u := ⟨_, rfl⟩
          rw [← hX3] at hD hH4
          obtain ⟨f3, e3, HD3⟩ : ∃ f3 e3, Hid (Disk1 w5 d t a3 X3 24 f3 e3 41) := ⟨_, _, Lib.hid hD⟩
          clear k4 hD hc hb hb5 ha3 hX3 c0 HB2
          go_wp2_with fail
          go_loopw [66] (fun i wr => ∃ j : Nat, j ≤ os.length ∧ i = .int .i64 j ∧ ∃ (X : DS) (f e : Nat) (F : Nat → List (List UInt8)), Disk1 wr d t a3 X 24 f e (41 + 5 * j) ∧ HasAll X 24 F ∧ F 7 = lpgs b 8 ∧ Below w.heap.size w wr) (fun i _ => os.length - (intOf i).toNat)
          case atStart => exact ⟨0, Nat.zero_le _, rfl, X3, f3, e3, F, HD3.out, hH4.out, HH.out.2, B5.out⟩
          case round =>
            rename_i wr
            obtain ⟨j, hj, rfl, X, f, e, F, hD, hH, hF7, hB⟩ := hrel
            clear HD3 hH4 HH B5
            by_cases hlt : j < os.length
            · obtain ⟨p, rfl, hok, hld⟩ := HS.out.at_ hlt hB
              obtain ⟨o, ho⟩ : ∃ o, o = os[j] := ⟨_, rfl⟩
              rw [← ho] at hok hld
              obtain ⟨y, hy⟩ := u8_wf hok.byte
              have O2 := Blk.new wr 46 zOp7
              have hs7 := segSet_all (show zOp7.length = o.row.length from rfl)
              have hb6 : ∀ X, (wr.alloc (.cells zOp7.toArray 46)).grownBy X (some wr.heap.size) → Below wr.heap.size wr X := fun X g => ((Below.refl wr.heap.size wr).alloc (Nat.le_refl _) _).grown g (by simp) (fun k e => Nat.le_of_eq (Option.some.inj e))
              have hj60 : (j : Int) < 60 := by have := H60.out; omega
              have dlt : decide ((j : Int) < (os.length : Int)) = true := by simp; omega
              have HD := Lib.hid hD
              have HH := Lib.hid (And.intro hH hF7)
              have HB := Lib.hid hB
              have hgp : Hid (¬ a3.disk t d wr.heap.size) := Lib.hid (fun q => Nat.lt_irrefl _ (hD.all_lt _ q))
              have HJ := Lib.hid hlt
              clear hD hH hF7 hB hok ho hj
              by_cases c7 : o.b = 7
              · have dc7 : (o.b == 7) = true := by simpa using c7
                go_wp2_with (first
                  | (with_reducible refine wpl_o7load (.tmp 69) rfl rfl rfl hld ?_)
                  | ((with_reducible refine wpl_seg_store sizeOp7 (.tmp 13) (.tmp 70) rfl rfl O2 0 o.row rfl (Nat.le_refl _) (Op7.one _) rfl rfl _ hs7 ?_); intro w6 O6 g6 e6; clear e6; have B6 := hb6 _ g6; have q1 : w6.cell? ⟨wr.heap.size, 1, none⟩ = some (.int .i64 o.b) := O6.cell 1))
                exact ⟨⟨j + 1, by omega, by go_num, X, f, e, F, by have q := HD.out.after B6; exact ⟨q.dk, q.ok.more (by omega), q.on, q.last, q.u, few_le (by omega) q.few⟩, HH.out.1, HH.out.2, HB.out.trans (B6.mono HB.out.size)⟩, by simp [intOf]; omega⟩
              · have dc7 : (o.b == 7) = false := by simpa using c7
                have HC7 := Lib.hid c7
                clear c7
                have hm3 : bits .and .i64 o.k 3 = bits .and .i64 o.k 3 := rfl
                obtain ⟨q, hq⟩ : ∃ q, q = (bits .and .i64 o.k 3 == 0) := ⟨_, rfl⟩
                have hq' := hq.symm
                clear hm3 hq
                have hke := fun (W : World) (hW : Below wr.heap.size wr W) => (HD.out.after hW).stepE HH.out.1 o.b (by have := HJ.out; have := H60.out; omega)
                have kp := fun (W : World) (hW : Below wr.heap.size wr W) => page_any y (j : Int) (UInt8.ofNat j) (wrap_byte (by omega)) W (HD.out.dk.dev.tab.below hW HD.out.dk.dev.tab.lt)
                have hkp := fun (W : World) (hW : Below wr.heap.size wr W) => (HD.out.after hW).stepP HH.out.1 o.b o.p (lpg_stable y (UInt8.ofNat j)) (by have := HJ.out; have := H60.out; omega)
                rw [← hy] at kp
                have KE := Lib.hid hke
                have KP := Lib.hid kp
                have KS := Lib.hid hkp
                clear hke kp hkp hy
                cases q with
                | true =>
                  go_wp2_with (first
                    | (with_reducible refine wpl_o7load (.tmp 69) rfl rfl rfl hld ?_)
                    | ((with_reducible refine wpl_seg_store sizeOp7 (.tmp 13) (.tmp 70) rfl rfl O2 0 o.row rfl (Nat.le_refl _) (Op7.one _) rfl rfl _ hs7 ?_); intro w6 O6 g6 e6; clear e6; have B6 := hb6 _ g6; have q0 : w6.cell? ⟨wr.heap.size, 0, none⟩ = some (.int .i64 o.k) := O6.cell 0; have q1 : w6.cell? ⟨wr.heap.size, 1, none⟩ = some (.int .i64 o.b) := O6.cell 1; have k6 := KE.out _ B6)
                    | ((with_reducible refine k6.mono ?_); rintro e w7 ⟨rfl, X', f', e', hD, hls, hH, hc⟩))
                  exact ⟨⟨j + 1, by omega, by go_num, X', f', e', _, hD, hH, by rw [eraF_other HC7.out]; exact HH.out.2, chg_far (HB.out.trans (B6.mono HB.out.size)) hc HF3.out⟩, by simp [intOf]; omega⟩
                | false =>
                  go_wp2_with (first
                    | (with_reducible refine wpl_o7load (.tmp 69) rfl rfl rfl hld ?_)
                    | ((with_reducible refine wpl_seg_store sizeOp7 (.tmp 13) (.tmp 70) rfl rfl O2 0 o.row rfl (Nat.le_refl _) (Op7.one _) rfl rfl _ hs7 ?_); intro w6 O6 g6 e6; clear e6; have B6 := hb6 _ g6; have q0 : w6.cell? ⟨wr.heap.size, 0, none⟩ = some (.int .i64 o.k) := O6.cell 0; have q1 : w6.cell? ⟨wr.heap.size, 1, none⟩ = some (.int .i64 o.b) := O6.cell 1))
                  have S0 : Blk w6.drew wr.heap.size 46 o.row := O6
                  clear q0 q1 g6
                  refine wp_region_held_drew (S := fun w' => Blk w' wr.heap.size 46 o.row) (by kernel_rfl) S0 (fun _ => ?_)
                  refine wpAnyH_take (i := 0) (v := .pointer (some ⟨d, 0, none⟩)) rfl (by kernel_rfl) (by kernel_rfl) (by kernel_rfl) (fun _ _ _ h => h) (Or.inl ⟨by kernel_rfl, fun w _ => by go_simp⟩) S0 ?_
                  refine wpAnyH_take (i := 1) (v := .pointer (some ⟨wr.heap.size, 1, none⟩)) rfl (by kernel_rfl) (by kernel_rfl) (by kernel_rfl) (fun _ _ _ h => h) (Or.inl ⟨by kernel_rfl, fun w _ => by go_simp⟩) S0 ?_
                  refine wpAnyH_take (i := 2) (v := .int .i64 o.b) rfl (by kernel_rfl) (by kernel_rfl) (by kernel_rfl) (fun _ _ _ h => h) (yields_one (ty := 3) (fun w => by kernel_rfl) (.tmp 83) (by kernel_rfl) (by kernel_rfl) (by kernel_rfl) (fun _ h => h.cell 1)) S0 ?_
                  refine wpAnyH_take (i := 3) (v := .pointer (some ⟨wr.heap.size, 2, none⟩)) rfl (by kernel_rfl) (by kernel_rfl) (by kernel_rfl) (fun _ _ _ h => h) (Or.inl ⟨by kernel_rfl, fun w _ => by go_simp⟩) S0 ?_
                  refine wpAnyH_take (i := 4) (v := .int .i64 o.p) rfl (by kernel_rfl) (by kernel_rfl) (by kernel_rfl) (fun _ _ _ h => h) (yields_one (ty := 3) (fun w => by kernel_rfl) (.tmp 85) (by kernel_rfl) (by kernel_rfl) (by kernel_rfl) (fun _ h => h.cell 2)) S0 ?_
                  refine wpAnyH_take (i := 5) (v := .pointer (some ⟨wr.heap.size, 5, none⟩)) rfl (by kernel_rfl) (by kernel_rfl) (by kernel_rfl) (fun _ _ _ h => h) (Or.inl ⟨by kernel_rfl, fun w _ => by go_simp⟩) S0 ?_
                  refine wpAnyH_take (i := 6) (v := .int .u8 o.byte) rfl (by kernel_rfl) (by kernel_rfl) (by kernel_rfl) (fun _ _ _ h => h) (yields_one (ty := 5) (fun w => by kernel_rfl) (.tmp 87) (by kernel_rfl) (by kernel_rfl) (by kernel_rfl) (fun _ h => h.cell 5)) S0 ?_
                  refine wpAnyH_take (i := 7) (v := .int .i64 (j : Int)) rfl (by kernel_rfl) (by kernel_rfl) (by kernel_rfl) (fun _ _ _ h => h) (Or.inl ⟨by kernel_rfl, fun w _ => by go_simp⟩) S0 ?_
                  refine wpAnyH_ready (rs := [8]) (by kernel_rfl) (by simp) (AllReadyH.cons rfl (fun K hK => ?_) AllReadyH.nil)
                  go_simp
                  have k7 := KP.out _ B6.drew
                  ((with_reducible refine k7.mono ?_); rintro e w7 ⟨rfl, b7⟩)
                  have S7 := S0.after b7
                  have B7 : Below wr.heap.size wr w7 := B6.drew.trans (b7.mono B6.drew.size)
                  refine hK.out _ _ S7 (fun _ => ?_)
                  clear hK K k7
                  refine wpAnyH_ready (rs := [9]) (by kernel_rfl) (by simp) (AllReadyH.cons rfl (fun K hK => ?_) AllReadyH.nil)
                  go_simp
                  have k8 := KS.out _ B7
                  ((with_reducible refine k8.mono ?_); rintro e w8 ⟨rfl, X', f', e', hD, hls, hH, hc⟩)
                  have S8 : Blk w8 wr.heap.size 46 o.row := S7.chg hc hgp.out
                  have hB9 := chg_far (HB.out.trans (B7.mono HB.out.size)) hc HF3.out
                  refine hK.out _ _ S8 (fun _ => ?_)
                  clear hK K k8
                  refine wpAnyH_done (by kernel_rfl) ?_ _
                  clear S0 S7 S8 O6
                  go_wp2_with fail
                  exact ⟨⟨j + 1, by omega, by go_num, X', f', e', _, hD, hH, by rw [progF_other HC7.out]; exact HH.out.2, hB9⟩, by simp [intOf]; omega⟩
            · obtain rfl : j = os.length := by omega
              obtain ⟨w7, hW7⟩ : ∃ w7, w7 = wr := ⟨_, rfl⟩
              subst hW7
              have HD7 := Lib.hid hD
              have HH7 := Lib.hid (hF7 ▸ (hH 7 (by omega)).2.2)
              have HB7 := Lib.hid hB
              have dlt : decide ((os.length : Int) < (os.length : Int)) = false := by simp
              clear hD hH hF7 hB hlt hj HS
              go_wp2_with fail
              go_loopw [14] (fun i wr => ∃ j : Nat, j ≤ 8 ∧ i = .int .i64 j ∧ Below w7.heap.size w7 wr) (fun i _ => 8 - (intOf i).toNat)
              case atStart => exact ⟨0, by omega, rfl, Below.refl _ _⟩
              case round =>
                rename_i wr
                obtain ⟨j, hj, rfl, hB⟩ := hrel
                have hDr := HD7.out.after hB
                by_cases hlt : j < 8
                · have kr := hDr.read (b := 7) (k := j) (by omega) (by omega)
                  rw [HH7.out.pg j (by rw [lpgs_length]; exact hlt), lpgs_at b hlt, show ((7 : Nat) : Int) = 7 from rfl] at kr
                  have kp := fun (W : World) (hW : Below wr.heap.size wr W) => page_any b (j : Int) (UInt8.ofNat j) (wrap_byte (by omega)) W (hDr.dk.dev.tab.below hW hDr.dk.dev.tab.lt)
                  have hpl := lpg_length b (UInt8.ofNat j)
                  obtain ⟨pg, hpg⟩ : ∃ pg, pg = lpg b (UInt8.ofNat j) := ⟨_, rfl⟩
                  rw [← hpg] at kr kp hpl
                  have hEq : ∀ w, (Op.equalIn 10000 28 (.agg (cl pg)) (.agg (cl pg))).run Tryd.prog w = .ok true w := fun w => by
                    have := equalIn_pcl hpl hpl w
                    rw [decide_eq_true rfl] at this
                    exact this
                  have HPL := Lib.hid hpl
                  have KP := Lib.hid kp
                  have HB := Lib.hid hB
                  have hj5 : (j : Int) < 8 := by omega
                  clear hDr hB kp hpl hpg
                  go_wp2_with (first
                    | ((with_reducible refine kr.mono ?_); rintro e w8 ⟨rfl, b8⟩; have N8 := PArr.new w8 pzeros_length)
                    | (with_reducible refine wpl_pstore (.tmp 15) (.tmp 101) rfl rfl N8 rfl HPL.out rfl ?_; intro w9 N9 g9 e9))
                  have B9 : Below wr.heap.size wr w9 := (b8.alloc b8.size _).grown g9 (by rw [World.size_alloc]; exact Nat.le_succ_of_le b8.size) (fun k e => by have := Option.some.inj e; have := b8.size; omega)
                  obtain ⟨gp, hgp⟩ : ∃ gp, gp = w8.heap.size := ⟨_, rfl⟩
                  simp only [← hgp]
                  have S0 : PArr w9.drew gp pg := by rw [hgp]; exact N9
                  clear hgp
                  refine wp_region_held_drew (S := fun w' => PArr w' gp pg) (by kernel_rfl) S0 (fun _ => ?_)
                  refine wpAnyH_take (i := 0) (v := .int .i64 0) rfl (by kernel_rfl) (by kernel_rfl) (by kernel_rfl) (fun _ _ _ h => h) (Or.inl ⟨by kernel_rfl, fun w _ => by go_simp⟩) S0 ?_
                  refine wpAnyH_take (i := 1) (v := .bool false) rfl (by kernel_rfl) (by kernel_rfl) (by kernel_rfl) (fun _ _ _ h => h) (Or.inl ⟨by kernel_rfl, fun w _ => by go_simp⟩) S0 ?_
                  refine wpAnyH_take (i := 2) (v := .bool false) rfl (by kernel_rfl) (by kernel_rfl) (by kernel_rfl) (fun _ _ _ h => h) (Or.inl ⟨by kernel_rfl, fun w _ => by go_simp⟩) S0 ?_
                  refine wpAnyH_take (i := 3) (v := .agg (cl pg)) rfl (by kernel_rfl) (by kernel_rfl) (by kernel_rfl) (fun _ _ _ h => h) (yields_pload (g := gp) (.tmp 15) (by kernel_rfl) (by kernel_rfl) (by kernel_rfl) (fun _ h => h)) S0 ?_
                  refine wpAnyH_take (i := 4) (v := .int .u8 ((b.toNat : Nat) : Int)) rfl (by kernel_rfl) (by kernel_rfl) (by kernel_rfl) (fun _ _ _ h => h) (Or.inl ⟨by kernel_rfl, fun w _ => by go_simp⟩) S0 ?_
                  refine wpAnyH_take (i := 5) (v := .int .i64 (j : Int)) rfl (by kernel_rfl) (by kernel_rfl) (by kernel_rfl) (fun _ _ _ h => h) (Or.inl ⟨by kernel_rfl, fun w _ => by go_simp⟩) S0 ?_
                  refine wpAnyH_ready (rs := [6]) (by kernel_rfl) (by simp) (AllReadyH.cons rfl (fun K hK => ?_) AllReadyH.nil)
                  go_simp
                  have kq := KP.out _ B9.drew
                  ((with_reducible refine kq.mono ?_); rintro e w8x ⟨rfl, b8x⟩)
                  have S1 : PArr w8x gp pg := S0.after b8x
                  refine hK.out _ _ S1 (fun _ => ?_)
                  clear hK K kq
                  refine wpAnyH_take (i := 7) (v := .bool false) rfl (by kernel_rfl) (by kernel_rfl) (by kernel_rfl) (fun _ _ _ h => h) (Or.inl ⟨by kernel_rfl, fun w _ => by go_simp⟩) S1 ?_
                  refine wpAnyH_take (i := 8) (v := .bool false) rfl (by kernel_rfl) (by kernel_rfl) (by kernel_rfl) (fun _ _ _ h => h) (Or.inl ⟨by kernel_rfl, fun w _ => by go_simp⟩) S1 ?_
                  refine wpAnyH_done (by kernel_rfl) ?_ _
                  have B8 : Below w7.heap.size w7 w8x := (HB.out.trans (B9.drew.mono HB.out.size)).trans (b8x.mono (Nat.le_trans HB.out.size B9.drew.size))
                  clear S0 S1 N9
                  go_wp2_with fail
                  exact ⟨⟨j + 1, by omega, by go_num, B8⟩, by simp [intOf]; omega⟩
                · obtain rfl : j = 8 := by omega
                  have B8 := HB7.out.trans (hB.mono HB7.out.size)
                  clear hDr hB hlt hj
                  go_wp2_with fail
                  go_ret
                  exact ⟨rfl, B8⟩
set_option maxRecDepth 100000 in
set_option maxHeartbeats 4000000 in
theorem diskApart_any (v v2 : Value) (bb : Int) (w : World) (ht : Tab w) (hs : ∃ os, Script7 w w.heap.size v os) (hv : ∃ zs, Nums w w.heap.size .i64 v2 zs) (hb : (Lit.int .u8 bb).wf = true) :
    Calls Tryd.prog 5 #[v, v2, .int .u8 bb] w fun e w' => e = .returned (.bool true) ∧ Below w.heap.size w w' := by
  obtain ⟨zs, hv⟩ := hv
  obtain ⟨os, hs⟩ := hs
  obtain ⟨b, rfl⟩ := u8_wf hb
  obtain ⟨A2, cap2, rfl, _⟩ := id hv
  obtain ⟨A, cap, rfl, _⟩ := id hs
  have ks := dspeaks_any w ht
  by_cases h60 : os.length ≤ 60
  · by_cases h3 : zs.length ≤ 3
    · exact apart_main A cap os A2 cap2 zs b w ht hs hv h60 h3
    · have d1 : decide ((60 : Int) < (os.length : Int)) = false := by simp; omega
      have d2 : decide ((3 : Int) < (zs.length : Int)) = true := by simp; omega
      clear hv hs ht h60 h3
      go_enter Tryd.func5, Tryd.ntmps5
      go_wp2_with ((with_reducible refine ks.mono ?_); rintro e w1 ⟨rfl, b1⟩)
      go_ret
      exact ⟨rfl, b1⟩
  · have d1 : decide ((60 : Int) < (os.length : Int)) = true := by simp; omega
    clear hv hs ht h60
    go_enter Tryd.func5, Tryd.ntmps5
    go_wp2_with ((with_reducible refine ks.mono ?_); rintro e w1 ⟨rfl, b1⟩)
    go_ret
    exact ⟨rfl, b1⟩
end Go.Proofs.YtaafelhjcmgkdaaDoor

