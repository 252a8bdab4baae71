/- The law's own start (the document's example) is true. No condition. -/
import Derived.Test.YtjdegfblacbkoaaNandOne
namespace Go.Proofs.Ytjdegfblacbkoaa
open Go.RowKit
theorem fresh_fits : NM.Pwr.fresh.fits := ⟨by show (-9223372036854775808 : Int) ≤ -1; omega, by show (-1 : Int) < 9223372036854775808; omega⟩
theorem fresh_off : NM.Pwr.fresh.off = false := rfl
theorem fresh_act : NM.Pwr.fresh.act = (NM.Pwr.fresh, false) := rfl
theorem lpage_at (b : UInt8) (z : Int) (hz : z = ((b.toNat : Nat) : Int)) (w : World) : Calls Try.prog 22 #[.int .u8 z] w fun e w' => e = .returned (.agg (cl (lpage b))) ∧ Below w.heap.size w w' := by
  subst hz
  exact lpage_any b w
/-- all that a chip changes lies at or behind B -/
def At.from (a : At) (B : Nat) : Prop := ∀ j, a.all j → B ≤ j
theorem At.from_new {g p B : Nat} (hg : B ≤ g) (hp : B ≤ p) : At.from ⟨g + 1, g, p, none, none⟩ B := fun j hj => by
  rcases hj with (e | e | e | e) | e
  · show B ≤ j; have : j = g + 1 := e; omega
  · have : j = g := e; omega
  · cases e
  · cases e
  · have : j = p := e; omega
theorem Below.chg {B : Nat} {a : At} {w w1 w2 : World} (h : Below B w w1) (hc : Chg w1 w2 a.all) (ha : a.from B) (h0 : B ≤ w.heap.size) : Below B w w2 :=
  h.trans (hc.below ha (Nat.le_trans h0 h.size))
set_option maxRecDepth 100000 in
set_option maxHeartbeats 4000000 in
theorem nandspeaks_any (w : World) : Calls Try.prog 5 #[] w fun e w' => e = .returned (.bool true) ∧ Below w.heap.size w w' := by
  have k0 := newpower_any w
  have kp := lpage_at 1 1 rfl
  have hL := lpage_length 1
  go_enter Try.func5, Try.ntmps5
  go_wp2_with ((with_reducible refine k0.mono ?_); rintro e w1 ⟨rfl, P1, b1⟩)
  have k1 := C1.new 16 3 w.heap.size (by omega) (by omega) _ w1 P1 (z := 16) rfl
  have hf : At.from ⟨w1.heap.size + 1, w1.heap.size, w.heap.size, none, none⟩ w.heap.size := At.from_new b1.size (Nat.le_refl _)
  have Hb1 := Lib.hid b1
  clear P1 b1 k0
  go_wp2_with ((with_reducible refine k1.mono ?_); rintro e w2 ⟨rfl, C2, b2⟩)
  have B2 : Hid (Below w.heap.size w w2) := Lib.hid (Hb1.out.trans (b2.mono Hb1.out.size))
  have H2 := Lib.hid C2
  have Hf := Lib.hid hf
  obtain ⟨a, ha⟩ : ∃ a : At, a = ⟨w1.heap.size + 1, w1.heap.size, w.heap.size, none, none⟩ := ⟨_, rfl⟩
  have hac : a.c = w1.heap.size + 1 := by rw [ha]
  rw [← hac]
  rw [← ha] at H2 Hf
  clear C2 b2 k1 Hb1 hf ha hac
  go_wp2_with ((with_reducible refine (kp _).mono ?_); rintro e w3 ⟨rfl, b3⟩)
  have B3 := Lib.hid (B2.out.trans (b3.mono B2.out.size))
  have H3 := Lib.hid (H2.out.after b3)
  have k3 := H3.out.order fresh_off fresh_fits (by omega) (k := 1) (by omega) (by decide) hL (zb := 3) (zk := 1) rfl rfl
  clear b3 H2 B2
  go_wp2_with ((with_reducible refine k3.mono ?_); rintro e w4 ⟨rfl, C4, q4⟩)
  have B4 := Lib.hid (Below.chg B3.out q4 Hf.out (Nat.le_refl _))
  have H4 := Lib.hid C4
  clear C4 q4 k3 H3 B3
  go_wp2_with ((with_reducible refine (kp _).mono ?_); rintro e w5 ⟨rfl, b5⟩)
  have B5 := Lib.hid (B4.out.trans (b5.mono B4.out.size))
  have H5 := Lib.hid (H4.out.after b5)
  have k5 := H5.out.prog fresh_off fresh_fits (by omega) (k := 0) (by omega) rfl hL (zb := 3) (zk := 0) rfl rfl (m := 258) (z := 0) rfl
  clear b5 H4 B4
  go_wp2_with ((with_reducible refine k5.mono ?_); rintro e w6 ⟨rfl, C6, q6⟩)
  have B6 := Lib.hid (Below.chg B5.out q6 Hf.out (Nat.le_refl _))
  have H6 := Lib.hid C6
  clear C6 q6 k5 H5 B5
  go_wp2_with ((with_reducible refine (kp _).mono ?_); rintro e w7 ⟨rfl, b7⟩)
  have B7 := Lib.hid (B6.out.trans (b7.mono B6.out.size))
  have H7 := Lib.hid (H6.out.after b7)
  have k7 := H7.out.order fresh_off fresh_fits (by omega) (k := 0) (by omega) (by show (1 : Nat) ≠ 0; omega) hL (zb := 3) (zk := 0) rfl rfl
  clear b7 H6 B6
  go_wp2_with ((with_reducible refine k7.mono ?_); rintro e w8 ⟨rfl, C8, q8⟩)
  have B8 := Lib.hid (Below.chg B7.out q8 Hf.out (Nat.le_refl _))
  clear C8 q8 k7 H7 B7
  go_wp2_with fail
  go_ret
  exact ⟨rfl, B8.out⟩
end Go.Proofs.Ytjdegfblacbkoaa
