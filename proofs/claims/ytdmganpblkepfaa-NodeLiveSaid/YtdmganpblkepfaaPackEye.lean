/- The contracts of the document's Eye. No condition. -/
import Derived.Test.YtdmganpblkepfaaPackReader
import Derived.Deep.QuietTactic
import Derived.BigQuiet
import Derived.Deep.RegionHeld3
namespace Go.Proofs.Ytdmganpblkepfaa
open Go.RowKit

/-- the block q is an Eye over the bytes l, which lie below base: i of them are read; bad tells whether too much was -/
def Ey (w : World) (q base : Nat) (l : List UInt8) (i : Nat) (bad : Bool) : Prop :=
  base ≤ q ∧ i ≤ l.length ∧ ∃ A c, l.length ≤ c ∧ c ≤ maxLen ∧ w.heap[q]? = some (.cells #[.slice A l.length c, .int .i64 (i : Int), .bool bad] 79 (0, 0)) ∧ Row w base A (bv l)

theorem Own.below_set {e : TypeId} {w : World} {base q j : Nat} {v u : Value} {l : List UInt8} (h : Own e w base v l) (hq : q < base) : Own e (w.setCell ⟨q, j, none⟩ u) base v l := ownsRow_setCell_below h (a := ⟨q, j, none⟩) hq u

set_option maxHeartbeats 1000000 in
theorem eb_neg (q : Nat) (n : Int) (w : World) (hn : n < 0) :
    Calls Try.prog 53 #[.pointer (some ⟨q, 0, none⟩), .int .i64 n] w fun e w' => ∃ g c, e = .returned (.slice (some ⟨g, 0, none⟩) 0 c) ∧ Own 5 w' w.heap.size (.slice (some ⟨g, 0, none⟩) 0 c) [] ∧ Below w.heap.size w w' := by
  go_enter Try.func53, Try.ntmps53
  go_wp2
  go_ret
  exact ⟨_, _, rfl, Own.made #[] 0 (Nat.le_refl _) (by simp) rfl _ rfl, (Below.refl _ _).alloc (Nat.le_refl _) _⟩

set_option maxHeartbeats 1000000 in
theorem eb_no (q base : Nat) (l : List UInt8) (i : Nat) (bad : Bool) (n : Int) (w : World) (he : Ey w q base l i bad) (hn : (l.length : Int) - i < n) :
    Calls Try.prog 53 #[.pointer (some ⟨q, 0, none⟩), .int .i64 n] w fun e w' => ∃ g c, e = .returned (.slice (some ⟨g, 0, none⟩) 0 c) ∧ Own 5 w' w.heap.size (.slice (some ⟨g, 0, none⟩) 0 c) [] ∧ Ey w' q base l l.length true ∧ w.grownBy w' (some q) := by
  obtain ⟨hbq, hi, A, c, hlc, hcm, hblk, hrow⟩ := he
  have c0 := blk_cell hblk 0
  have c1 := blk_cell hblk 1
  have f1 := blk_free hblk 1
  have f2 := blk_free hblk 2
  have hq := blk_lt hblk
  unfold maxLen at hcm
  have HB := Lib.hid hblk
  have HR := Lib.hid hrow
  clear hblk hrow
  simp at c0 c1
  have hn0 : 0 ≤ n := by omega
  go_enter Try.func53, Try.ntmps53
  go_wp2
  go_quiet (fail)
  have HB2 : Hid ((w.drewN nq).heap[q]? = some (.cells #[.slice A l.length c, .int .i64 (i : Int), .bool bad] 79 (0, 0))) := HB
  have HR2 : Hid (Row (w.drewN nq) base A (bv l)) := Lib.hid (HR.out.keep fun p _ => rfl)
  have hbd : Below w.heap.size w (w.drewN nq) := ⟨rfl, rfl, rfl, Nat.le_refl _, fun _ _ => rfl⟩
  clear c0 c1 f1 f2 HB HR
  generalize w.drewN nq = w2 at *
  have c0 := blk_cell HB2.out 0
  have c1 := blk_cell HB2.out 1
  have f1 := blk_free HB2.out 1
  have HB3 := Lib.hid (blk_set HB2.out 1 (.int .i64 (l.length : Int)))
  have c2 := blk_cell HB3.out 2
  have f2 := blk_free HB3.out 2
  have HB4 := Lib.hid (blk_set HB3.out 2 (.bool true))
  simp at c0 c1 c2
  go_wp2
  go_ret
  have hsz : ((w2.setCell ⟨q, 1, none⟩ (.int .i64 (l.length : Int))).setCell ⟨q, 2, none⟩ (.bool true)).heap.size = w2.heap.size := by simp
  have hw2 := hbd.size
  refine ⟨_, _, rfl, Own.made #[] 0 (by rw [hsz]; exact hw2) (by simp) rfl _ (by simp), ⟨hbq, Nat.le_refl _, A, c, hlc, hcm, ?_, ?_⟩, ?_⟩
  · rw [Below.heap_alloc _ _ _ (by rw [hsz]; omega)]
    exact HB4.out
  · refine HR2.out.keep fun p hp => ?_
    have hpl : ∀ {x : World}, p.block < w2.heap.size ∨ (x.cell? p = w2.cell? p) ∨ True := fun {_} => .inr (.inr trivial)
    rw [World.cell?_of_block (w := w2) (a := p)]
    rcases Nat.lt_or_ge p.block w2.heap.size with hlt | hge
    · rw [Below.heap_alloc _ _ _ (by rw [hsz]; exact hlt), Below.heap_setCell _ _ _ _ (by show p.block ≠ q; omega), Below.heap_setCell _ _ _ _ (by show p.block ≠ q; omega)]
    · omega
  · exact only_alloc (only_trans (only_of_below hbd _) (only_trans (only_set w2 ⟨q, 1, none⟩ _) (only_set _ ⟨q, 2, none⟩ _))) _

set_option maxHeartbeats 2000000 in
theorem eb_yes (q base : Nat) (l : List UInt8) (i : Nat) (bad : Bool) (n : Int) (k : Nat) (hnk : n = k) (w : World) (he : Ey w q base l i bad) (hn : i + k ≤ l.length) (hl : l.length ≤ 1000000) :
    Calls Try.prog 53 #[.pointer (some ⟨q, 0, none⟩), .int .i64 n] w fun e w' => ∃ A' c', e = .returned (.slice A' k c') ∧ Own 5 w' w.heap.size (.slice A' k c') ((l.drop i).take k) ∧ Ey w' q base l (i + k) bad ∧ w.grownBy w' (some q) := by
  subst hnk
  obtain ⟨hbq, hi, A, c, hlc, hcm, hblk, hrow⟩ := he
  have c0 := blk_cell hblk 0
  have c1 := blk_cell hblk 1
  have f1 := blk_free hblk 1
  have hq := blk_lt hblk
  unfold maxLen at hcm
  have HB := Lib.hid hblk
  have HR := Lib.hid hrow
  clear hblk hrow
  simp at c0 c1
  go_enter Try.func53, Try.ntmps53
  go_wp2
  go_quiet (fail)
  have HB2 : Hid ((w.drewN nq).heap[q]? = some (.cells #[.slice A l.length c, .int .i64 (i : Int), .bool bad] 79 (0, 0))) := HB
  have HR2 : Hid (Row (w.drewN nq) base A (bv l)) := Lib.hid (HR.out.keep fun p _ => rfl)
  have hbd : Below w.heap.size w (w.drewN nq) := ⟨rfl, rfl, rfl, Nat.le_refl _, fun _ _ => rfl⟩
  clear c0 c1 f1 HB HR
  generalize w.drewN nq = w2 at *
  have c0 := blk_cell HB2.out 0
  have c1 := blk_cell HB2.out 1
  simp at c0 c1
  have hw2 := hbd.size
  go_wp2
  have e1 : IntKind.i64.wrap ((i : Int) + (k : Int)) = (i : Int) + (k : Int) := IntWalk.i64_in _ (by omega)
  have e2 : (0 : Int) ≤ (i : Int) + (k : Int) := by omega
  have e3 : ((i : Int) + (k : Int)) ≤ (c : Int) := by omega
  have e4 : (i : Int) ≤ (i : Int) + (k : Int) := by omega
  have e5 : ((i : Int) + (k : Int)).toNat = i + k := by omega
  have e6 : i + k - i = k := by omega
  have e7 : ¬ c = i ∨ c = i := by omega
  rcases e7 with e7 | e7
  · have hb3 : Below w.heap.size w (w2.alloc (.cells #[] 5)).drew := (hbd.alloc hw2 _).drew
    have O3 : Own 5 (w2.alloc (.cells #[] 5)).drew w.heap.size (.slice (some ⟨w2.heap.size, 0, none⟩) 0 0) [] := Own.made (e := 5) (base := w.heap.size) #[] 0 hw2 (by simp) rfl w2.heap.size rfl
    have hz3 := hb3.size
    have D3 : Bytes (w2.alloc (.cells #[] 5)).drew base (.slice (A.map (fun x => x.add i)) k (c - i)) ((l.drop i).take k) := by
      refine ⟨_, c - i, by rw [List.length_take, List.length_drop, show min k (l.length - i) = k by omega], by rw [List.length_take, List.length_drop]; omega, by simp only [maxLen]; omega, fun j u hu => ?_⟩
      have hj := get_lt hu
      rw [bv_length, List.length_take, List.length_drop] at hj
      have hu' : (bv l)[i + j]? = some u := by
        rw [← hu]
        simp only [bv, List.getElem?_map, List.getElem?_take, List.getElem?_drop]
        rw [if_pos (by omega)]
      obtain ⟨a, ea, hab, hc⟩ := HR2.out _ _ hu'
      refine ⟨a.add i, by rw [ea]; rfl, by rw [add_block]; exact hab, ?_⟩
      rw [add_twice]
      exact (World.cell?_alloc_lt w2 _ _ (by rw [add_block]; omega)).trans hc
    have hk3 : ((l.drop i).take k).length = k := by rw [List.length_take, List.length_drop]; omega
    have b0 : (w2.alloc (.cells #[] 5)).drew.cell? ⟨q, 0, none⟩ = some (.slice A l.length c) := (World.cell?_alloc_lt w2 _ _ (by show q < _; omega)).trans c0
    have b1 : (w2.alloc (.cells #[] 5)).drew.cell? ⟨q, 1, none⟩ = some (.int .i64 (i : Int)) := (World.cell?_alloc_lt w2 _ _ (by show q < _; omega)).trans c1
    go_region_held3 (fun w' => w'.cell? ⟨q, 0, none⟩ = some (.slice A l.length c) ∧ w'.cell? ⟨q, 1, none⟩ = some (.int .i64 (i : Int)))
      (first | go_keep | (exact ⟨(g5.cell (p := ⟨q, 0, none⟩) hq).trans b0, (g5.cell (p := ⟨q, 1, none⟩) hq).trans b1⟩))
      ((refine step_append_bytes byteTys (by rfl) (.tmp 33) (.tmp 48) (by rfl) (by rfl) O3 _ _ _ (by rfl) D3 (by rw [hk3]; simp; omega) hz3 k (by rw [hk3]; simp) ?_; intro A5 c5 w5 O5 g5))
    rw [List.nil_append] at O5
    have hb5 := hb3.trans g5
    have HB5 : Hid (w5.heap[q]? = some (.cells #[.slice A l.length c, .int .i64 (i : Int), .bool bad] 79 (0, 0))) :=
      Lib.hid ((g5.block q hq).trans ((Below.heap_alloc w2 _ q (by omega)).trans HB2.out))
    have HR5 : Hid (Row w5 base A (bv l)) := Lib.hid (HR2.out.keep fun p hp => (g5.cell (p := p) (by omega)).trans (World.cell?_alloc_lt w2 _ _ (by omega)))
    have HO5 := Lib.hid O5
    clear c0 c1 b0 b1 D3 O3 O5 hk3 g5 hb3 hz3 HB2 HR2 hbd hw2
    have c1 := blk_cell HB5.out 1
    have f1 := blk_free HB5.out 1
    simp at c1
    go_wp2
    go_ret
    have hq5 := blk_lt HB5.out
    refine ⟨A5, c5, rfl, HO5.out.below_set hq, ⟨hbq, hn, A, c, hlc, by simp only [maxLen]; omega, ?_, HR5.out.keep fun p hp => World.cell?_setCell_other _ _ _ _ (by intro e; subst e; exact absurd hp (by show ¬ q < base; omega))⟩, only_trans (only_of_below hb5 _) (only_set w5 ⟨q, 1, none⟩ _)⟩
    rw [blk_set HB5.out 1]
    simp
  · have e8 := e7.symm
    clear e7
    subst e8
    have hb3 : Below w.heap.size w (w2.alloc (.cells #[] 5)).drew := (hbd.alloc hw2 _).drew
    have O3 : Own 5 (w2.alloc (.cells #[] 5)).drew w.heap.size (.slice (some ⟨w2.heap.size, 0, none⟩) 0 0) [] := Own.made (e := 5) (base := w.heap.size) #[] 0 hw2 (by simp) rfl w2.heap.size rfl
    have hz3 := hb3.size
    have hk0 : (l.drop i).take k = [] := List.eq_nil_of_length_eq_zero (by rw [List.length_take, List.length_drop]; omega)
    have D3 : Bytes (w2.alloc (.cells #[] 5)).drew base (.slice A k 0) ((l.drop i).take k) := by
      rw [hk0]
      exact ⟨A, 0, by rw [show k = 0 by omega]; rfl, by simp, by simp [maxLen], Row.nil⟩
    have hk3 : ((l.drop i).take k).length = k := by rw [List.length_take, List.length_drop]; omega
    have b0 : (w2.alloc (.cells #[] 5)).drew.cell? ⟨q, 0, none⟩ = some (.slice A l.length i) := (World.cell?_alloc_lt w2 _ _ (by show q < _; omega)).trans c0
    have b1 : (w2.alloc (.cells #[] 5)).drew.cell? ⟨q, 1, none⟩ = some (.int .i64 (i : Int)) := (World.cell?_alloc_lt w2 _ _ (by show q < _; omega)).trans c1
    go_region_held3 (fun w' => w'.cell? ⟨q, 0, none⟩ = some (.slice A l.length i) ∧ w'.cell? ⟨q, 1, none⟩ = some (.int .i64 (i : Int)))
      (first | go_keep | (exact ⟨(g5.cell (p := ⟨q, 0, none⟩) hq).trans b0, (g5.cell (p := ⟨q, 1, none⟩) hq).trans b1⟩))
      ((refine step_append_bytes byteTys (by rfl) (.tmp 33) (.tmp 48) (by rfl) (by rfl) O3 _ _ _ (by rfl) D3 (by rw [hk3]; simp; omega) hz3 k (by rw [hk3]; simp) ?_; intro A5 c5 w5 O5 g5))
    rw [List.nil_append] at O5
    have hb5 := hb3.trans g5
    have HB5 : Hid (w5.heap[q]? = some (.cells #[.slice A l.length i, .int .i64 (i : Int), .bool bad] 79 (0, 0))) :=
      Lib.hid ((g5.block q hq).trans ((Below.heap_alloc w2 _ q (by omega)).trans HB2.out))
    have HR5 : Hid (Row w5 base A (bv l)) := Lib.hid (HR2.out.keep fun p hp => (g5.cell (p := p) (by omega)).trans (World.cell?_alloc_lt w2 _ _ (by omega)))
    have HO5 := Lib.hid O5
    clear c0 c1 b0 b1 D3 O3 O5 hk3 g5 hb3 hz3 HB2 HR2 hbd hw2
    have c1 := blk_cell HB5.out 1
    have f1 := blk_free HB5.out 1
    simp at c1
    go_wp2
    go_ret
    have hq5 := blk_lt HB5.out
    refine ⟨A5, c5, rfl, HO5.out.below_set hq, ⟨hbq, hn, A, i, hlc, by simp only [maxLen]; omega, ?_, HR5.out.keep fun p hp => World.cell?_setCell_other _ _ _ _ (by intro e; subst e; exact absurd hp (by show ¬ q < base; omega))⟩, only_trans (only_of_below hb5 _) (only_set w5 ⟨q, 1, none⟩ _)⟩
    rw [blk_set HB5.out 1]
    simp

set_option maxHeartbeats 2000000 in
theorem enum_yes (q base : Nat) (l : List UInt8) (i : Nat) (bad : Bool) (s : Int) (w : World) (he : Ey w q base l i bad) (hn : i + wid s ≤ l.length) (hl : l.length ≤ 1000000) :
    Calls Try.prog 40 #[.pointer (some ⟨q, 0, none⟩), .int .i64 s] w fun e w' => e = .returned (.int .u64 (le ((l.drop i).take (wid s)) : Int)) ∧ Ey w' q base l (i + wid s) bad ∧ w.grownBy w' (some q) := by
  obtain ⟨K, hK⟩ : ∃ K, K = wid s := ⟨_, rfl⟩
  have hK8 : K ≤ 8 := by rw [hK]; exact wid_le s
  rw [← hK] at hn ⊢
  have HK := Lib.hid hK
  have HE := Lib.hid he
  clear hK he
  have hlen : ((l.drop i).take K).length = K := by rw [List.length_take, List.length_drop]; omega
  obtain ⟨m, hm⟩ : ∃ m, m = (l.drop i).take K := ⟨_, rfl⟩
  rw [← hm] at hlen ⊢
  have HL := Lib.hid hlen
  have HMM := Lib.hid hm
  clear hlen hm
  go_enter Try.func40, Try.ntmps40
  go_wp2_with fail
  ((with_reducible refine (size_any s _).mono ?_); rintro e w' ⟨rfl, hw⟩; rw [← hw]; clear hw w')
  rw [← HK.out]
  go_wp2_with fail
  ((with_reducible refine (eb_yes q base l i bad _ K rfl _ HE.out hn hl).mono ?_); rintro e w1 ⟨A, c, rfl, hO, hey, hgr⟩)
  rw [← HMM.out] at hO
  have hrow : Row w1 w1.heap.size A (bv m) := by
    obtain ⟨A', c', e1, _, _, hr⟩ := hO.bytes (by rw [HL.out]; simp only [maxLen]; omega)
    cases e1
    exact hr
  have HEY := Lib.hid hey
  have HGR := Lib.hid hgr
  clear hey hgr hO
  go_wp2
  go_loop [6, 7] (fun x i => ∃ j : Nat, j ≤ K ∧ i = .int .i64 ((j : Int) - 1) ∧ x = .int .u64 (le (m.drop j) : Int)) (fun _ i => (intOf i + 1).toNat)
  case atStart => exact ⟨K, Nat.le_refl _, rfl, by rw [List.drop_of_length_le (by rw [HL.out]; exact Nat.le_refl _)]; rfl⟩
  case round =>
    obtain ⟨j, hj, rfl, rfl⟩ := hrel
    rcases Nat.eq_zero_or_pos j with h0 | h0
    · subst h0
      rw [List.drop_zero]
      go_wp2
      go_ret
      exact ⟨rfl, HEY.out, HGR.out⟩
    · obtain ⟨k, rfl⟩ : ∃ k, j = k + 1 := ⟨j - 1, by omega⟩
      have hkm : k < m.length := by rw [HL.out]; omega
      have hd : le (m.drop k) = m[k].toNat + 256 * le (m.drop (k + 1)) := by rw [List.drop_eq_getElem_cons hkm]; rfl
      have hlt := le_lt (m.drop (k + 1))
      have hlt2 : le (m.drop (k + 1)) < 256 ^ 7 := Nat.lt_of_lt_of_le hlt (Nat.pow_le_pow_right (by omega) (by rw [List.length_drop, HL.out]; omega))
      obtain ⟨a, rfl, _, hcell⟩ := hrow k _ (bv_get hkm)
      obtain ⟨b, hb⟩ : ∃ b, b = m[k].toNat := ⟨_, rfl⟩
      have hb8 : b < 256 := by rw [hb]; exact m[k].toNat_lt
      rw [← hb] at hcell hd
      obtain ⟨N, hNN⟩ : ∃ N, N = le (m.drop (k + 1)) := ⟨_, rfl⟩
      rw [← hNN] at hlt2 hd ⊢
      have HD := Lib.hid hd
      have hki : ((k + 1 : Nat) : Int) - 1 = (k : Int) := by omega
      rw [hki]
      clear hb hd hNN hlt hki
      go_wp2
      go_round
      case rel => exact ⟨k, by omega, by go_num, by rw [HD.out]; go_num⟩
      case measure => simp [intOf]

set_option maxHeartbeats 2000000 in
theorem enum_no (q base : Nat) (l : List UInt8) (i : Nat) (bad : Bool) (s : Int) (w : World) (he : Ey w q base l i bad) (hn : l.length < i + wid s) :
    Calls Try.prog 40 #[.pointer (some ⟨q, 0, none⟩), .int .i64 s] w fun e w' => e = .returned (.int .u64 0) ∧ Ey w' q base l l.length true ∧ w.grownBy w' (some q) := by
  have HE := Lib.hid he
  clear he
  go_enter Try.func40, Try.ntmps40
  go_wp2_with fail
  ((with_reducible refine (size_any s _).mono ?_); rintro e w' ⟨rfl, hw⟩; rw [← hw]; clear hw w')
  go_wp2_with fail
  ((with_reducible refine (eb_no q base l i bad _ _ HE.out (by omega)).mono ?_); rintro e w1 ⟨g, c, rfl, hO, hey, hgr⟩)
  have HEY := Lib.hid hey
  have HGR := Lib.hid hgr
  clear hey hgr hO
  go_wp2
  refine wp_loop_rounds 1 ?_
  rw [rounds_succ]
  go_wp2
  go_ret
  exact ⟨rfl, HEY.out, HGR.out⟩

/-- what reading so many bytes does: what is answered, how many are read then, whether too much was -/
def St (l : List UInt8) (i : Nat) (bad : Bool) (z : Int) (r : List UInt8) (i' : Nat) (bad' : Bool) : Prop :=
  (z < 0 ∧ r = [] ∧ i' = i ∧ bad' = bad) ∨ (0 ≤ z ∧ i + z.toNat ≤ l.length ∧ r = (l.drop i).take z.toNat ∧ i' = i + z.toNat ∧ bad' = bad) ∨ (0 ≤ z ∧ l.length < i + z.toNat ∧ r = [] ∧ i' = l.length ∧ bad' = true)
theorem st_any (l : List UInt8) (i : Nat) (bad : Bool) (z : Int) : ∃ r i' bad', St l i bad z r i' bad' := by
  rcases (show z < 0 ∨ (0 ≤ z ∧ i + z.toNat ≤ l.length) ∨ (0 ≤ z ∧ l.length < i + z.toNat) by omega) with h | ⟨h1, h2⟩ | ⟨h1, h2⟩
  · exact ⟨_, _, _, .inl ⟨h, rfl, rfl, rfl⟩⟩
  · exact ⟨_, _, _, .inr (.inl ⟨h1, h2, rfl, rfl, rfl⟩)⟩
  · exact ⟨_, _, _, .inr (.inr ⟨h1, h2, rfl, rfl, rfl⟩)⟩
theorem st_len {l : List UInt8} {i : Nat} {bad : Bool} {z : Int} {r : List UInt8} {i' : Nat} {bad' : Bool} (h : St l i bad z r i' bad') : r.length ≤ l.length := by
  rcases h with ⟨_, rfl, _⟩ | ⟨_, _, rfl, _⟩ | ⟨_, _, rfl, _⟩
  · simp
  · rw [List.length_take, List.length_drop]; omega
  · simp
theorem eb_any (q base : Nat) (l : List UInt8) (i : Nat) (bad : Bool) (z : Int) (r : List UInt8) (i' : Nat) (bad' : Bool) (hst : St l i bad z r i' bad') (n : Nat) (hrn : r.length = n) (w : World) (he : Ey w q base l i bad) (hbw : base ≤ w.heap.size) (hl : l.length ≤ 1000000) :
    Calls Try.prog 53 #[.pointer (some ⟨q, 0, none⟩), .int .i64 z] w fun e w' => ∃ A' c', e = .returned (.slice A' n c') ∧ Own 5 w' w.heap.size (.slice A' n c') r ∧ Ey w' q base l i' bad' ∧ w.grownBy w' (some q) := by
  subst hrn
  rcases hst with ⟨h1, rfl, rfl, rfl⟩ | ⟨h1, h2, rfl, rfl, rfl⟩ | ⟨h1, h2, rfl, rfl, rfl⟩
  · refine (eb_neg q z w h1).mono ?_
    rintro e w' ⟨g, c, rfl, hO, hb⟩
    obtain ⟨a1, a2, A, c', a3, a4, a5, a6⟩ := he
    exact ⟨_, _, rfl, hO, ⟨a1, a2, A, c', a3, a4, (hb.block q (blk_lt a5)).trans a5, a6.keep fun p hp => hb.cell (by omega)⟩, only_of_below hb _⟩
  · have hk : ((l.drop i).take z.toNat).length = z.toNat := by rw [List.length_take, List.length_drop]; omega
    rw [hk]
    exact eb_yes q base l i bad' z z.toNat (by omega) w he h2 hl
  · refine (eb_no q base l i bad z w he (by omega)).mono ?_
    rintro e w' ⟨g, c, rfl, hO, hey, hb⟩
    exact ⟨_, _, rfl, hO, hey, hb⟩
theorem rb_any (g h : Nat) (l : List UInt8) (i : Nat) (bad : Bool) (z : Int) (r : List UInt8) (i' : Nat) (bad' : Bool) (hst : St l i bad z r i' bad') (n : Nat) (hrn : r.length = n) (w : World) (hr : Rd w g h (l.drop i) bad) (hi : i ≤ l.length) (hh : h < w.heap.size) (hl : l.length ≤ 1000000) :
    Calls Try.prog 38 #[.pointer (some ⟨g, 0, none⟩), .int .i64 z] w fun e w' => ∃ g' c', e = .returned (.slice (some ⟨g', 0, none⟩) n c') ∧ w.heap.size ≤ g' ∧ Own 5 w' w.heap.size (.slice (some ⟨g', 0, none⟩) n c') r ∧ Rd w' g h (l.drop i') bad' ∧ w.grownBy w' (some g) := by
  subst hrn
  rcases hst with ⟨h1, rfl, rfl, rfl⟩ | ⟨h1, h2, rfl, rfl, rfl⟩ | ⟨h1, h2, rfl, rfl, rfl⟩
  · have hz : (max z 0).toNat = 0 := by omega
    have R := rbytes_yes g h (l.drop i') bad' z w hr hh (by rw [hz]; omega) (by rw [List.length_drop]; omega)
    rw [hz, List.take_zero, List.drop_zero] at R
    refine R.mono ?_
    rintro e w' ⟨g', k, c', rfl, rfl, a1, a2, a3, a4⟩
    exact ⟨g', c', rfl, a1, a2, a3, a4⟩
  · have hz : (max z 0).toNat = z.toNat := by omega
    have R := rbytes_yes g h (l.drop i) bad' z w hr hh (by rw [hz, List.length_drop]; omega) (by rw [List.length_drop]; omega)
    rw [hz, List.drop_drop] at R
    refine R.mono ?_
    rintro e w' ⟨g', k, c', rfl, rfl, a1, a2, a3, a4⟩
    exact ⟨g', c', rfl, a1, a2, a3, a4⟩
  · have hz : (max z 0).toNat = z.toNat := by omega
    have R := rbytes_no g h (l.drop i) bad z w hr hh (by rw [hz, List.length_drop]; omega)
    refine R.mono ?_
    rintro e w' ⟨g', c', rfl, a1, a2, a3, a4⟩
    exact ⟨g', c', rfl, a1, a2, by rw [List.drop_length]; exact a3, a4⟩
/-- what reading a number does -/
def Sn (l : List UInt8) (i : Nat) (bad : Bool) (z : Int) (v i' : Nat) (bad' : Bool) : Prop :=
  (i + wid z ≤ l.length ∧ v = le ((l.drop i).take (wid z)) ∧ i' = i + wid z ∧ bad' = bad) ∨ (l.length < i + wid z ∧ v = 0 ∧ i' = l.length ∧ bad' = true)
theorem sn_any (l : List UInt8) (i : Nat) (bad : Bool) (z : Int) : ∃ v i' bad', Sn l i bad z v i' bad' := by
  rcases Nat.lt_or_ge l.length (i + wid z) with h | h
  · exact ⟨_, _, _, .inr ⟨h, rfl, rfl, rfl⟩⟩
  · exact ⟨_, _, _, .inl ⟨h, rfl, rfl, rfl⟩⟩
theorem en_any (q base : Nat) (l : List UInt8) (i : Nat) (bad : Bool) (z : Int) (v i' : Nat) (bad' : Bool) (hst : Sn l i bad z v i' bad') (w : World) (he : Ey w q base l i bad) (hl : l.length ≤ 1000000) :
    Calls Try.prog 40 #[.pointer (some ⟨q, 0, none⟩), .int .i64 z] w fun e w' => e = .returned (.int .u64 (v : Int)) ∧ Ey w' q base l i' bad' ∧ w.grownBy w' (some q) := by
  rcases hst with ⟨h1, rfl, rfl, rfl⟩ | ⟨h1, rfl, rfl, rfl⟩
  · exact enum_yes q base l i bad' z w he h1 hl
  · exact enum_no q base l i bad z w he h1
theorem rn_any (g h : Nat) (l : List UInt8) (i : Nat) (bad : Bool) (z : Int) (v i' : Nat) (bad' : Bool) (hst : Sn l i bad z v i' bad') (w : World) (hr : Rd w g h (l.drop i) bad) (hi : i ≤ l.length) :
    Calls Try.prog 37 #[.pointer (some ⟨g, 0, none⟩), .int .i64 z] w fun e w' => e = .returned (.int .u64 (v : Int)) ∧ Rd w' g h (l.drop i') bad' ∧ w.grownBy w' (some g) := by
  rcases hst with ⟨h1, rfl, rfl, rfl⟩ | ⟨h1, rfl, rfl, rfl⟩
  · have R := rnum_yes g h (l.drop i) bad' z w hr (by rw [List.length_drop]; omega)
    rw [List.drop_drop] at R
    exact R
  · have R := rnum_no g h (l.drop i) bad z w hr (by rw [List.length_drop]; omega)
    rw [List.drop_length]
    exact R
end Go.Proofs.Ytdmganpblkepfaa
