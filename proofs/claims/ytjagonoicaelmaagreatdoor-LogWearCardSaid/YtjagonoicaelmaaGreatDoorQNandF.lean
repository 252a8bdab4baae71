/- Several texts of the proof, joined: what each has is said at its head. -/
import Derived.Test.YtjagonoicaelmaaGreatDoorQNandA
import Derived.BigRegion
import Derived.Test.YtjagonoicaelmaaGreatDoorQNandN
/- The contract of the reference's Flip, where the bit is there. No condition but what the chip's block holds. -/
namespace Go.Proofs.YtjagonoicaelmaaGreatDoor
open Go.RowKit
theorem pflip_byte {b i : Nat} {L : List UInt8} (hb : b < 256) (HB : b = (L.getD (i / 8) 0).toNat) : ∃ m : UInt8, bits .xor .u8 (b : Int) (2 ^ (i % 8) % 256) = ((m.toNat : Nat) : Int) ∧ Hid (L.set (i / 8) m = NM.fl L i) := by
  refine ⟨(L.getD (i / 8) 0) ^^^ UInt8.ofNat (2 ^ (i % 8)), ?_, Lib.hid rfl⟩
  have h8 : 2 ^ (i % 8) < 2 ^ 8 := Nat.pow_lt_pow_right (by omega) (by omega)
  have h := u8_xor_nat b (2 ^ (i % 8)) hb h8
  have e : ((2 : Int) ^ (i % 8) % 256) = ((2 ^ (i % 8) : Nat) : Int) := by
    have : ((2 : Int) ^ (i % 8)) = ((2 ^ (i % 8) : Nat) : Int) := by push_cast; rfl
    rw [this]
    exact Int.emod_eq_of_lt (Int.natCast_nonneg _) (Int.ofNat_lt.2 h8)
  rw [e, h, UInt8.toNat_xor, NM.ofNat_pow _ (by omega), ← HB]
end Go.Proofs.YtjagonoicaelmaaGreatDoor

/- The contract of the program's Flip. No condition but that the chip is there. -/
namespace Go.Proofs.YtjagonoicaelmaaGreatDoor
open Go.RowKit
def Ch.flipBad (S : Ch) (b k t : Int) : Prop := b < 0 ∨ (S.bs.length : Int) ≤ b ∨ k < 0 ∨ 7 < k ∨ t < 0 ∨ 2063 < t
instance (S : Ch) (b k t : Int) : Decidable (S.flipBad b k t) := by unfold Ch.flipBad; exact inferInstance
def Ch.flip (S : Ch) (b k t : Int) : Ch × Int := if S.flipBad b k t then (S, 1) else ({ S with bs := putPage S.bs b.toNat k.toNat (NM.fl (pageOf S.bs b.toNat k.toNat) t.toNat) }, 0)
theorem PChip.setBs {w w' : World} {a : At} {S : Ch} (h : PChip w a S) {Bs : List Bk} (hl : Bs.length = S.bs.length) (hB : BG w' a.g Bs) (hg : w.grownBy w' (some a.g)) : PChip w' a { S with bs := Bs } := by
  have hc : Chg w w' (fun j => j = a.g) := Chg.of_grown hg (fun k e => Option.some.inj e)
  obtain ⟨⟨vp, ve, h1, h2, h3⟩, hbg, r1, r3, r4, r5, r6, r7, r8⟩ := h
  refine ⟨⟨vp, ve, ?_, h2.chg hc (fun b e => (r6 b e).2.1), h3.chg hc (fun b e => (r7 b e).2.1)⟩, hB, by show 16 ≤ Bs.length ∧ _; rw [hl]; exact r1, r3, r4, r5, r6, r7, r8⟩
  have e := h1.chg hc (fun e => r3 e)
  unfold Ch.cells at e ⊢
  simp only [hl]
  exact e
set_option maxRecDepth 100000 in
set_option maxHeartbeats 2000000 in
theorem flip_any (a : At) (S : Ch) (b k t : Int) (w : World) (h : PChip w a S) :
    Calls Tryz.prog 24 #[.pointer (some ⟨a.c, 0, none⟩), .int .i64 b, .int .i64 k, .int .i64 t] w fun e w' => e = .returned (.int .i64 (S.flip b k t).2) ∧ PChip w' a (S.flip b k t).1 ∧ Chg w w' (fun j => j = a.g) := by
  have k1 := lacksPage_any a S b k w h
  by_cases hb : S.flipBad b k t
  · have he : S.flip b k t = (S, 1) := if_pos hb
    rw [he]
    have H := Lib.hid h
    unfold Ch.flipBad at hb
    clear h he
    by_cases c1 : b < 0 ∨ (S.bs.length : Int) ≤ b ∨ k < 0 ∨ 7 < k
    · rw [decide_eq_true c1] at k1
      clear c1 hb
      go_enter Tryz.func24, Tryz.ntmps24
      go_wp2_with ((with_reducible refine k1.mono ?_); rintro e w' ⟨rfl, rfl⟩)
      go_ret
      exact ⟨rfl, H.out, Chg.refl _ _⟩
    · rw [decide_eq_false c1] at k1
      by_cases c2 : t < 0
      · have d1 : decide (t < 0) = true := by simp [c2]
        clear c1 c2 hb
        go_enter Tryz.func24, Tryz.ntmps24
        go_wp2_with ((with_reducible refine k1.mono ?_); rintro e w' ⟨rfl, rfl⟩)
        go_ret
        exact ⟨rfl, H.out, Chg.refl _ _⟩
      · have d1 : decide (t < 0) = false := by simp; omega
        have d2 : decide ((2064 : Int) ≤ t) = true := by simp; omega
        clear c1 c2 hb
        go_enter Tryz.func24, Tryz.ntmps24
        go_wp2_with ((with_reducible refine k1.mono ?_); rintro e w' ⟨rfl, rfl⟩)
        go_ret
        exact ⟨rfl, H.out, Chg.refl _ _⟩
  · have he : S.flip b k t = ({ S with bs := putPage S.bs b.toNat k.toNat (NM.fl (pageOf S.bs b.toNat k.toNat) t.toNat) }, 0) := if_neg hb
    rw [he]
    unfold Ch.flipBad at hb
    obtain ⟨b', rfl⟩ : ∃ b' : Nat, b = (b' : Int) := ⟨b.toNat, by omega⟩
    obtain ⟨k', rfl⟩ : ∃ k' : Nat, k = (k' : Int) := ⟨k.toNat, by omega⟩
    obtain ⟨t', rfl⟩ : ∃ t' : Nat, t = (t' : Int) := ⟨t.toNat, by omega⟩
    rw [decide_eq_false (by omega)] at k1
    have hbl : b' < S.bs.length := by omega
    have hk8 : k' < 8 := by omega
    have ht : t' < 2064 := by omega
    have d1 : decide ((t' : Int) < 0) = false := by simp
    have d2 : decide ((2064 : Int) ≤ (t' : Int)) = false := by simp; omega
    have hlen := h.len
    rw [Int.toNat_natCast, Int.toNat_natCast, Int.toNat_natCast]
    obtain ⟨x, hx⟩ : ∃ x, x = (pageOf S.bs b' k').getD (t' / 8) 0 := ⟨_, rfl⟩
    have c1 := h.cell.2.1
    have c3 := h.bg.pbyte hbl hk8 (i := t' / 8) (by omega) hx
    have f3 := h.bg.free (b' * 2066 + k' * 258 + t' / 8)
    obtain ⟨m, hm, HM⟩ := pflip_byte (b := x.toNat) (i := t') (L := pageOf S.bs b' k') x.toNat_lt (by rw [hx])
    have hs := h.bg.pset hbl hk8 (i := t' / 8) (by omega) m
    have hq8 : t' / 8 < 258 := by omega
    have H := Lib.hid h
    have HS := Lib.hid hs
    clear h hs hb he hx
    go_enter Tryz.func24, Tryz.ntmps24
    go_wp2_with ((with_reducible refine k1.mono ?_); rintro e w' ⟨rfl, rfl⟩)
    go_region
    go_wp2
    go_ret
    have hg := ngrown_setCell w a.g (b' * 2066 + k' * 258 + t' / 8) (.int .u8 ((m.toNat : Nat) : Int))
    have hs := HS.out
    rw [HM.out] at hs
    exact ⟨rfl, H.out.setBs (putPage_length _) hs hg, Chg.of_grown hg (fun k e => Option.some.inj e)⟩
end Go.Proofs.YtjagonoicaelmaaGreatDoor

