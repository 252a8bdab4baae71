/- The contract of the reference's Flip, where the bit is there. No condition but what the chip's block holds. -/
import Derived.Test.YtjdegfblacbkoaaNandWrite
import Derived.BigRegion
namespace Go.Proofs.Ytjdegfblacbkoaa
open Go.RowKit
theorem pflip_byte {b i : Nat} {L : List UInt8} (hb : b < 256) (HB : b = (L.getD (i / 8) 0).toNat) : ∃ m : UInt8, bits .xor .u8 (b : Int) (2 ^ (i % 8) % 256) = ((m.toNat : Nat) : Int) ∧ Hid (L.set (i / 8) m = NM.fl L i) := by
  refine ⟨(L.getD (i / 8) 0) ^^^ UInt8.ofNat (2 ^ (i % 8)), ?_, Lib.hid rfl⟩
  have h8 : 2 ^ (i % 8) < 2 ^ 8 := Nat.pow_lt_pow_right (by omega) (by omega)
  have h := u8_xor_nat b (2 ^ (i % 8)) hb h8
  have e : ((2 : Int) ^ (i % 8) % 256) = ((2 ^ (i % 8) : Nat) : Int) := by
    have : ((2 : Int) ^ (i % 8)) = ((2 ^ (i % 8) : Nat) : Int) := by push_cast; rfl
    rw [this]
    exact Int.emod_eq_of_lt (Int.natCast_nonneg _) (Int.ofNat_lt.2 h8)
  rw [e, h, UInt8.toNat_xor, NM.ofNat_pow _ (by omega), ← HB]
set_option maxRecDepth 100000 in
set_option maxHeartbeats 4000000 in
theorem refFlip_good (c g : Nat) (cs : List Value) (Ls : List (List UInt8)) (A : Option Addr) (M : Nat) (hM : M ≤ 40) (hLs : Ls.length = 8 * M) (h1 : cs[1]? = some (.slice (some ⟨g, 0, none⟩) (8 * M) (8 * M))) (h2 : cs[2]? = some (.slice A M M)) (b k t : Nat) (hb : b < M) (hk : k ≤ 7) (ht : t ≤ 2063) (w : World) (hB : Blk w c 53 cs) (hG : Pgs w g Ls) :
    Calls Try.prog 35 #[.pointer (some ⟨c, 0, none⟩), .int .i64 b, .int .i64 k, .int .i64 t] w fun e w' => e = .returned (.int .i64 0) ∧ Pgs w' g (Ls.set (8 * b + k) (NM.fl (Ls.getD (8 * b + k) []) t)) ∧ w.grownBy w' (some g) := by
  have e1 := (hB.cell 1).trans h1
  have e2 := (hB.cell 2).trans h2
  obtain ⟨q, hq⟩ : ∃ q : Nat, q = 8 * b + k := ⟨_, rfl⟩
  have hql : q < Ls.length := by omega
  have d1 : decide ((b : Int) < 0) = false := by simp
  have d2 : decide ((M : Int) ≤ (b : Int)) = false := by simp; omega
  have d3 : decide ((k : Int) < 0) = false := by simp
  have d4 : decide (7 < (k : Int)) = false := by simp; omega
  have d5 : decide ((t : Int) < 0) = false := by simp
  have d6 : decide (2063 < (t : Int)) = false := by simp; omega
  have ww1 : IntKind.i64.wrap (8 * (b : Int)) = 8 * (b : Int) := by rw [IntKind.wrap_i64]; omega
  have ww2 : IntKind.i64.wrap (8 * (b : Int) + (k : Int)) = 8 * (b : Int) + (k : Int) := by rw [IntKind.wrap_i64]; omega
  have i1 : (8 * (b : Int) + (k : Int)).toNat = q := by omega
  have i2 : (0 : Int) ≤ 8 * (b : Int) + (k : Int) := by omega
  have i3 : 8 * (b : Int) + (k : Int) < ((8 * M : Nat) : Int) := by omega
  obtain ⟨NN, hNN⟩ : ∃ NN : Nat, NN = 8 * M := ⟨_, rfl⟩
  rw [← hNN] at e1 i3
  rw [← hq]
  have hL : Ls[q].length = 258 := hG.2 _ (List.getElem_mem hql)
  have hgd : Ls.getD q [] = Ls[q] := by rw [List.getD_eq_getElem?_getD, List.getElem?_eq_getElem hql, Option.getD_some]
  rw [hgd]
  obtain ⟨x, hx⟩ : ∃ x, x = Ls[q].getD (t / 8) 0 := ⟨_, rfl⟩
  have e3 : w.cell? ⟨g, q * 258 + t / 8, none⟩ = some (.int .u8 ((x.toNat : Nat) : Int)) := by
    rw [hG.1.cell, bv, List.getElem?_map, NM.flat_get (n := 258) _ hG.2 q hql (t / 8) (by omega), hx, List.getD_eq_getElem?_getD, List.getElem?_eq_getElem (by omega), Option.getD_some]
    rfl
  have e4 : w.frozen? ⟨g, q * 258 + t / 8, none⟩ = false := hG.1.free _
  obtain ⟨m, hm, HM⟩ := pflip_byte (b := x.toNat) (i := t) (L := Ls[q]) x.toNat_lt (by rw [hx])
  have hq8 : t / 8 < 258 := by omega
  have HG := Lib.hid hG
  have HL := Lib.hid hL
  clear hx hgd hL hG hq hNN hLs h1 h2 hB
  go_enter Try.func35, Try.ntmps35
  go_wp2_with fail
  go_region
  go_wp2
  go_ret
  refine ⟨rfl, ⟨?_, NM.set_all HG.out.2 q (by rw [NM.fl_length, HL.out])⟩, ⟨rfl, rfl, rfl, by simp, fun i _ hi => Below.heap_setCell w _ _ i (by simpa using hi)⟩⟩
  have hs := HG.out.1.set (q * 258 + t / 8) (.int .u8 ((m.toNat : Nat) : Int))
  have hg := NM.flat_set (n := 258) _ HG.out.2 q hql (t / 8) m hq8
  rw [HM.out] at hg
  rw [← hg]
  have hb : bv (Ls.flatten.set (q * 258 + t / 8) m) = (bv Ls.flatten).set (q * 258 + t / 8) (.int .u8 ((m.toNat : Nat) : Int)) := by
    unfold bv
    rw [List.map_set]
  rw [hb]
  exact hs
end Go.Proofs.Ytjdegfblacbkoaa
