/- The reference's Set. No condition. -/
import Derived.Test.YtppodbijdhcclaaQLiveRef
namespace Go.Proofs.Ytppodbijdhcclaa
open Go.RowKit
/-- a result that is an array -/
theorem lret1 {fn : Func} {p : Tmp} {w : World} {g : Nat} {L : List UInt8} (h : fn.results = #[.cell p 53]) (tmps : Array Value) (hA : LArr w g L) (hp : tmps.getD p undef = .pointer (some ⟨g, 0, none⟩)) :
    (results fn tmps).run Try.prog w = .ok (.agg (cl L)) w := by
  have hp' : tmps[p]?.getD undef = .pointer (some ⟨g, 0, none⟩) := by simpa using hp
  simp [results, h, hp', asAddr, hA.load]
set_option maxRecDepth 100000 in
set_option maxHeartbeats 4000000 in
/-- .. where nothing is changed -/
theorem set_out (L : List UInt8) (hL : L.length = 32) (z : Int) (b : Bool) (w : World) (hz : z < 0 ∨ 255 < z) :
    Calls Try.prog 125 #[.agg (cl L), .int .i64 z, .bool b] w fun e w' => e = .returned (.agg (cl L)) ∧ Below w.heap.size w w' := by
  have A0 := larr_one w hL lzeros
  have R0 := larr_two w L lzeros_length
  have B0 := Lib.hid (lhb_two w L lzeros)
  have z0 := zeroLive
  by_cases h : z < 0
  · clear hz
    go_enter Try.func125, Try.ntmps125
    go_wp2_with (first | (with_reducible refine wpl_lload (.tmp 3) rfl rfl A0.out rfl ?_) | (with_reducible refine wpl_lstore (.tmp 6) (.tmp 20) rfl rfl R0.out rfl hL rfl ?_; intro w4 R4 g4 e4))
    refine bodyPost_ret (lret1 rfl _ R4 rfl) rfl ?_
    exact ⟨rfl, B0.out.grown g4 B0.out.size (fun k e => by cases e; omega)⟩
  · have h2 : 255 < z := by omega
    clear hz
    go_enter Try.func125, Try.ntmps125
    go_wp2_with (first | (with_reducible refine wpl_lload (.tmp 3) rfl rfl A0.out rfl ?_) | (with_reducible refine wpl_lstore (.tmp 6) (.tmp 20) rfl rfl R0.out rfl hL rfl ?_; intro w4 R4 g4 e4))
    refine bodyPost_ret (lret1 rfl _ R4 rfl) rfl ?_
    exact ⟨rfl, B0.out.grown g4 B0.out.size (fun k e => by cases e; omega)⟩
set_option maxRecDepth 100000 in
set_option maxHeartbeats 4000000 in
theorem set_same (L : List UInt8) (hL : L.length = 32) (k : Nat) (hk : k < 256) (b : Bool) (w : World) (hb : hasB L k = b) :
    Calls Try.prog 125 #[.agg (cl L), .int .i64 (k : Int), .bool b] w fun e w' => e = .returned (.agg (cl L)) ∧ Below w.heap.size w w' := by
  have A0 := larr_one w hL lzeros
  have R0 := larr_two w L lzeros_length
  have B0 := Lib.hid (lhb_two w L lzeros)
  have z0 := zeroLive
  have d1 : ¬ (k : Int) < 0 := by omega
  have d2 : ¬ (255 : Int) < (k : Int) := by omega
  have c1 := refhas_any L hL (k : Int)
  rw [lhas_nat L hk, hb] at c1
  have d3 : (b == b) = true := by simp
  clear hb
  go_enter Try.func125, Try.ntmps125
  go_wp2_with (first | (with_reducible refine wpl_lload (.tmp 3) rfl rfl A0.out rfl ?_))
  ((with_reducible refine (c1 _).mono ?_); rintro e w2 ⟨rfl, hb1⟩)
  have A2 := Lib.hid (A0.out.after hb1)
  have R2 := Lib.hid (R0.out.after hb1)
  have B2 := Lib.hid (B0.out.trans (hb1.mono B0.out.size))
  clear hb1 A0 R0 B0
  go_wp2_with (first | (with_reducible refine wpl_lload (.tmp 3) rfl rfl A2.out rfl ?_) | (with_reducible refine wpl_lstore (.tmp 6) (.tmp 20) rfl rfl R2.out rfl hL rfl ?_; intro w4 R4 g4 e4))
  refine bodyPost_ret (lret1 rfl _ R4 rfl) rfl ?_
  exact ⟨rfl, B2.out.grown g4 B2.out.size (fun k e => by cases e; omega)⟩
set_option maxRecDepth 100000 in
set_option maxHeartbeats 4000000 in
theorem set_flip (L : List UInt8) (hL : L.length = 32) (k j r x p : Nat) (B : UInt8) (hk : k < 256) (b c : Bool) (w : World) (hb : hasB L k = c) (hne : (c == b) = false) (hi : (k : Int) / 8 = (j : Int)) (h32 : j < 32) (_ : r < 8) (hm : (k : Int) % 8 = (r : Int))
    (hx : (L.getD j 0).toNat = x) (hp : (2 : Int) ^ r % 256 = (p : Int)) (hB : bits .xor .u8 (x : Int) (p : Int) = ((B.toNat : Nat) : Int)) :
    Calls Try.prog 125 #[.agg (cl L), .int .i64 (k : Int), .bool b] w fun e w' => e = .returned (.agg (cl (L.set j B))) ∧ Below w.heap.size w w' := by
  have A0 := larr_one w hL lzeros
  have R0 := larr_two w L lzeros_length
  have B0 := Lib.hid (lhb_two w L lzeros)
  have z0 := zeroLive
  have d1 : ¬ (k : Int) < 0 := by omega
  have d2 : ¬ (255 : Int) < (k : Int) := by omega
  have hj0 : (0 : Int) ≤ (j : Int) := by omega
  have hj1 : (j : Int) < 32 := by omega
  have c1 := refhas_any L hL (k : Int)
  rw [lhas_nat L hk, hb] at c1
  have HX := Lib.hid hx
  have HL := Lib.hid hL
  have H32 := Lib.hid h32
  clear hb hx hL
  go_enter Try.func125, Try.ntmps125
  go_wp2_with (first | (with_reducible refine wpl_lload (.tmp 3) rfl rfl A0.out rfl ?_))
  ((with_reducible refine (c1 _).mono ?_); rintro e w2 ⟨rfl, hb1⟩)
  have A2 := Lib.hid (A0.out.after hb1)
  have R2 := Lib.hid (R0.out.after hb1)
  have B2 := Lib.hid (B0.out.trans (hb1.mono B0.out.size))
  have hc := A2.out.byte H32.out
  rw [HX.out] at hc
  have L5 : Hid ((L.set j B).length = 32) := Lib.hid (by rw [List.length_set]; exact HL.out)
  clear hb1 A0 R0 B0
  go_wp2_with (first | (with_reducible refine wpl_lput (.tmp 30) (.tmp 29) rfl rfl A2.out j H32.out B rfl rfl ?_; intro w4 A4 g4; have A5 := Lib.hid A4; have R5 := Lib.hid (R2.out.grown g4 (by omega)); have B5 := Lib.hid (B2.out.grown g4 B2.out.size (fun k e => by cases e; omega)); clear A4 g4) | (with_reducible refine wpl_lload (.tmp 3) rfl rfl A5.out rfl ?_) | (with_reducible refine wpl_lstore (.tmp 6) (.tmp 31) rfl rfl R5.out rfl L5.out rfl ?_; intro w6 R6 g6 e6))
  refine bodyPost_ret (lret1 rfl _ R6 rfl) rfl ?_
  exact ⟨rfl, B5.out.grown g6 B5.out.size (fun k e => by cases e; omega)⟩
theorem ofNat_xor {x p : Nat} (hx : x < 256) (hp : p < 256) : bits .xor .u8 (x : Int) (p : Int) = (((UInt8.ofNat (x ^^^ p)).toNat : Nat) : Int) := by
  have h : x ^^^ p < 2 ^ 8 := Nat.xor_lt_two_pow hx hp
  rw [bits_xor8 hx hp, UInt8.toNat_ofNat', Nat.mod_eq_of_lt h]
theorem set_any (L : List UInt8) (hL : L.length = 32) (z : Int) (b : Bool) (w : World) :
    Calls Try.prog 125 #[.agg (cl L), .int .i64 z, .bool b] w fun e w' => e = .returned (.agg (cl (lput L b z))) ∧ Below w.heap.size w w' := by
  unfold lput
  by_cases hz : 0 ≤ z ∧ z < 256
  · obtain ⟨k, rfl⟩ : ∃ k : Nat, z = k := ⟨z.toNat, by omega⟩
    have hk : k < 256 := by omega
    rw [if_pos hz, Int.toNat_natCast]
    unfold putB
    by_cases h : hasB L k = b
    · rw [if_pos h]
      exact set_same L hL k hk b w h
    · rw [if_neg h]
      have hr : k % 8 < 8 := Nat.mod_lt _ (by omega)
      exact set_flip L hL k (k / 8) (k % 8) _ _ _ hk b _ w rfl (by simpa using h) (by omega) (by omega) hr (by omega) rfl (pow8_int hr) (ofNat_xor (getD_lt L _) (pow8_lt hr))
  · rw [if_neg hz]
    exact set_out L hL z b w (by omega)
end Go.Proofs.Ytppodbijdhcclaa

