/- Several texts of the proof, joined: what each has is said at its head. -/
import Derived.Test.YtaafelhjcmgkdaaGreatDoorQNandA
import Derived.BigRegion
import Derived.Test.YtaafelhjcmgkdaaGreatDoorQNandBad
/- The contract of the reference's Flip, where the bit is there. No condition but what the chip's block holds. -/
namespace Go.Proofs.YtaafelhjcmgkdaaGreatDoor
open Go.RowKit
theorem pflip_byte {b i : Nat} {L : List UInt8} (hb : b < 256) (HB : b = (L.getD (i / 8) 0).toNat) : ∃ m : UInt8, bits .xor .u8 (b : Int) (2 ^ (i % 8) % 256) = ((m.toNat : Nat) : Int) ∧ Hid (L.set (i / 8) m = NM.fl L i) := by
  refine ⟨(L.getD (i / 8) 0) ^^^ UInt8.ofNat (2 ^ (i % 8)), ?_, Lib.hid rfl⟩
  have h8 : 2 ^ (i % 8) < 2 ^ 8 := Nat.pow_lt_pow_right (by omega) (by omega)
  have h := u8_xor_nat b (2 ^ (i % 8)) hb h8
  have e : ((2 : Int) ^ (i % 8) % 256) = ((2 ^ (i % 8) : Nat) : Int) := by
    have : ((2 : Int) ^ (i % 8)) = ((2 ^ (i % 8) : Nat) : Int) := by push_cast; rfl
    rw [this]
    exact Int.emod_eq_of_lt (Int.natCast_nonneg _) (Int.ofNat_lt.2 h8)
  rw [e, h, UInt8.toNat_xor, NM.ofNat_pow _ (by omega), ← HB]
end Go.Proofs.YtaafelhjcmgkdaaGreatDoor

/- The contract of the program's Flip. No condition but that the chip is there. -/
namespace Go.Proofs.YtaafelhjcmgkdaaGreatDoor
open Go.RowKit
def Ch.flipBad (S : Ch) (b k t : Int) : Prop := b < 0 ∨ (S.bs.length : Int) ≤ b ∨ k < 0 ∨ 7 < k ∨ t < 0 ∨ 2063 < t
instance (S : Ch) (b k t : Int) : Decidable (S.flipBad b k t) := by unfold Ch.flipBad; exact inferInstance
def Ch.flip (S : Ch) (b k t : Int) : Ch × Int := if S.flipBad b k t then (S, 1) else ({ S with bs := putPage S.bs b.toNat k.toNat (NM.fl (pageOf S.bs b.toNat k.toNat) t.toNat) }, 0)
theorem PChip.setBs {w w' : World} {a : At} {S : Ch} (h : PChip w a S) {Bs : List Bk} (hl : Bs.length = S.bs.length) (hB : BG w' a.g Bs) (hg : w.grownBy w' (some a.g)) : PChip w' a { S with bs := Bs } := by
  have hc : Chg w w' (fun j => j = a.g) := Chg.of_grown hg (fun k e => Option.some.inj e)
  obtain ⟨⟨vp, ve, h1, h2, h3⟩, hbg, r1, r3, r4, r5, r6, r7, r8⟩ := h
  refine ⟨⟨vp, ve, ?_, h2.chg hc (fun b e => (r6 b e).2.1), h3.chg hc (fun b e => (r7 b e).2.1)⟩, hB, by show 16 ≤ Bs.length ∧ _; rw [hl]; exact r1, r3, r4, r5, r6, r7, r8⟩
  have e := h1.chg hc (fun e => r3 e)
  unfold Ch.cells at e ⊢
  simp only [hl]
  exact e
end Go.Proofs.YtaafelhjcmgkdaaGreatDoor

